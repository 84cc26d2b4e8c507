/- What a chain tells, as numbers. -/
import Derived.Test.YtfolecnjaaakeaaChainD
namespace Go.Proofs.Ytfolecnjaaakeaa
open Go.RowKit
set_option linter.unusedVariables false
set_option linter.unusedSimpArgs false

theorem at_ends {l : List (Nat × Nat)} (hl : COk l) {x : Nat} (hn : nanN x = false) : srung32 (ky l 0) ≤ srung32 (atV l x) ∧ srung32 (atV l x) ≤ srung32 (ky l (l.length - 1)) := by
  have t := hl.two
  obtain ⟨a, b, c⟩ := above_facts l x
  obtain ⟨_, r0, r1, r2⟩ := at_range hl hn
  by_cases h0 : aboveV l x = 0
  · rw [r0 h0]; exact ⟨Int.le_refl _, ky_mono hl (by omega) (by omega)⟩
  · by_cases h1 : aboveV l x = l.length
    · rw [r1 h1]; exact ⟨ky_mono hl (by omega) (by omega), Int.le_refl _⟩
    · obtain ⟨p, q⟩ := r2 h0 (by omega)
      exact ⟨Int.le_trans (ky_mono hl (by omega) (by omega)) p, Int.le_trans q (ky_mono hl (by omega) (by omega))⟩
theorem chain_last {ll : List (List (Nat × Nat))} {n : Nat} (h : ll.length = n + 1) (x : Nat) : chainV ll x = atV (ll.getD n []) (chainV (ll.take n) x) := by
  have := chain_take (ll := ll) (k := n) (x := x) (by omega)
  rw [List.take_of_length_le (by omega)] at this
  exact this
theorem chain_nan : ∀ {ll : List (List (Nat × Nat))} {x : Nat}, nanN x = true → nanN (chainV ll x) = true := by
  intro ll
  induction ll with
  | nil => intro x h; exact h
  | cons l ll ih =>
    intro x h
    show nanN (chainV ll (atV l x)) = true
    exact ih (by rw [atV_nan h]; rfl)
theorem chain_made {ll : List (List (Nat × Nat))} (h : 1 ≤ ll.length) {x : Nat} (hn : nanN x = true) : chainV ll x = 2143289344 := by
  rw [chain_last (n := ll.length - 1) (by omega), atV_nan (chain_nan hn)]
theorem chain_ends {ll : List (List (Nat × Nat))} {n : Nat} (h : ll.length = n + 1) (hll : ∀ l ∈ ll, COk l) {x : Nat} (hx : x < 4294967296) (hn : nanN x = false) :
    srung32 (ky (ll.getD n []) 0) ≤ srung32 (chainV ll x) ∧ srung32 (chainV ll x) ≤ srung32 (ky (ll.getD n []) ((ll.getD n []).length - 1)) := by
  rw [chain_last h]
  exact at_ends (hll _ (getD_mem (by omega))) (chain_num (fun l hl => hll l (List.mem_of_mem_take hl)) hn hx).1
theorem num_rung {a : Nat} (h : nanN a = false) : rung32 a ≤ 2139095040 := by
  unfold nanN at h
  unfold rung32
  have := of_decide_eq_false h
  omega
theorem order_of {a b : Nat} (ha : nanN a = false) (hb : nanN b = false) : Ieee.single.order a b = some (compare (srung32 a) (srung32 b)) := order_num32 (num_rung ha) (num_rung hb)
theorem order_le {a b : Nat} (ha : nanN a = false) (hb : nanN b = false) (h : srung32 a ≤ srung32 b) : Ieee.single.order a b = some .lt ∨ Ieee.single.order a b = some .eq := by
  rw [order_of ha hb]
  by_cases e : srung32 a < srung32 b
  · left; rw [Int.compare_eq_lt.2 e]
  · right; rw [Int.compare_eq_eq.2 (by omega)]
theorem order_ge {a b : Nat} (ha : nanN a = false) (hb : nanN b = false) (h : srung32 b ≤ srung32 a) : Ieee.single.order a b = some .gt ∨ Ieee.single.order a b = some .eq := by
  rw [order_of ha hb]
  by_cases e : srung32 b < srung32 a
  · left; rw [Int.compare_eq_gt.2 e]
  · right; rw [Int.compare_eq_eq.2 (by omega)]
theorem order_gt {a b : Nat} (ha : nanN a = false) (hb : nanN b = false) (h : ¬ srung32 a ≤ srung32 b) : Ieee.single.order a b = some .gt := by
  rw [order_of ha hb, Int.compare_eq_gt.2 (by omega)]
end Go.Proofs.Ytfolecnjaaakeaa

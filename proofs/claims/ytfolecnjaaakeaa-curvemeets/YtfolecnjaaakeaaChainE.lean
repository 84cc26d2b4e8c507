/- Curves one behind the other: Least and Check. -/
import Derived.Test.YtfolecnjaaakeaaChainD
namespace Go.Proofs.Ytfolecnjaaakeaa
open Go.RowKit
set_option linter.unusedVariables false
set_option linter.unusedSimpArgs false

/-- Curves that Join takes. -/
structure LOk (ll : List (List (Nat × Nat))) : Prop where
  one : 1 ≤ ll.length
  many : ll.length ≤ 8
  all : ∀ l ∈ ll, COk l
theorem LOk.ok {ll : List (List (Nat × Nat))} (h : LOk ll) : COk (ll.getD 0 []) := h.all _ (getD_mem h.one)
theorem LOk.first {ll : List (List (Nat × Nat))} (h : LOk ll) : kx (ll.getD 0 []) 0 < 4294967296 ∧ kx (ll.getD 0 []) ((ll.getD 0 []).length - 1) < 4294967296 := ⟨(h.ok.lt _).1, (h.ok.lt _).1⟩
theorem LOk.keys {ll : List (List (Nat × Nat))} (h : LOk ll) : keyN (kx (ll.getD 0 []) 0) < keyN (kx (ll.getD 0 []) ((ll.getD 0 []).length - 1)) := ends_keys h.ok
theorem ch_at_any (b : Nat) (ll : List (List (Nat × Nat))) (hl : LOk ll) (x : Nat) (hx : x < 4294967296) (w : World) (hc : ChIs w b ll) :
    Calls Try.prog 26 #[.pointer (some ⟨b, 0, none⟩), .int .u32 x] w fun e w' => e = .returned (.int .u32 (chainV ll x : Nat)) ∧ Q w w' :=
  chat_any b ll hl.all (by have := hl.many; omega) x hx w hc
set_option maxHeartbeats 1000000 in
theorem ch_ends_any (b : Nat) (ll : List (List (Nat × Nat))) (hl : LOk ll) (w : World) (hc : ChIs w b ll) :
    Calls Try.prog 91 #[.pointer (some ⟨b, 0, none⟩)] w fun e w' => e = .returned (.tuple #[.int .u32 (kx (ll.getD 0 []) 0), .int .u32 (kx (ll.getD 0 []) ((ll.getD 0 []).length - 1))]) ∧ Q w w' := by
  obtain ⟨g, cap, c1, c2, c3⟩ := hc.it
  have n8 := hl.many
  have CI : Hid (CIs w g 0 (ll.getD 0 [])) := c3.curve hl.one
  have HO : Hid (COk (ll.getD 0 [])) := hl.ok
  obtain ⟨m, hm⟩ : ∃ m, ll.length = m + 1 := ⟨ll.length - 1, by have := hl.one; omega⟩
  obtain ⟨K, hK⟩ : ∃ K, ll.getD 0 [] = K := ⟨_, rfl⟩
  rw [hK] at CI HO ⊢
  rw [hm] at c1 c2 n8
  have b1 : (0 : Int) < ((m + 1 : Nat) : Int) := by omega
  have hz : (((m + 1 : Nat) : Int) == 0) = false := by simp; omega
  clear hc hl c3 hm hK
  go_enter Try.func91, Try.ntmps91
  go_wp2_with fail
  refine (ends_any g 0 K HO.out _ CI.out).mono ?_
  rintro e w1 ⟨rfl, q1⟩
  go_wp2_with fail
  go_ret2
  exact ⟨rfl, q1⟩
set_option maxHeartbeats 1000000 in
theorem ch_comes_any (b : Nat) (ll : List (List (Nat × Nat))) (hl : LOk ll) (x y : Nat) (hx : x < 4294967296) (w : World) (hc : ChIs w b ll) :
    Calls Try.prog 60 #[.iface 56 (.pointer (some ⟨b, 0, none⟩)), .int .u32 x, .int .u32 y] w fun e w' => e = .returned (.bool (comesB (chainV ll) x y)) ∧ Q w w' := by
  have hm : ∀ w : World, (method 220 56 (.pointer (some ⟨b, 0, none⟩)) "At").run Try.prog w = .ok (26, .pointer (some ⟨b, 0, none⟩)) w := fun _ => by kernel_rfl
  go_enter Try.func60, Try.ntmps60
  go_wp2_with fail
  refine (ch_at_any b ll hl x hx _ hc).mono ?_
  rintro e w1 ⟨rfl, q1⟩
  go_wp2_with fail
  refine (less_any y (chainV ll x) _).mono ?_
  rintro e w2 ⟨rfl, rfl⟩
  cases h1 : lessB y (chainV ll x)
  · have H1 : Hid (lessB y (chainV ll x) = false) := h1
    clear h1
    go_wp2_with fail
    refine (equal_any y (chainV ll x) _).mono ?_
    rintro e w2 ⟨rfl, rfl⟩
    go_wp2_with fail
    go_ret
    exact ⟨ret_bool (by unfold comesB; rw [H1.out]; rfl), q1⟩
  · have H1 : Hid (lessB y (chainV ll x) = true) := h1
    clear h1
    go_wp2_with fail
    go_ret
    exact ⟨ret_bool (by unfold comesB; rw [H1.out]; rfl), q1⟩
set_option maxHeartbeats 2000000 in
theorem ch_leastc_any (b br bp by' bf first n y : Nat) (ll : List (List (Nat × Nat))) (hl : LOk ll) (hf : first < 4294967296) (hn : keyN first + n < 4294967296) (w : World) (hc : ChIs w b ll)
    (c1 : w.cell? ⟨br, 0, none⟩ = some (.iface 56 (.pointer (some ⟨b, 0, none⟩)))) (c2 : w.cell? ⟨bp, 0, none⟩ = some (.func (.func 61) #[] #[.pointer (some ⟨bf, 0, none⟩)])) (c3 : w.cell? ⟨by', 0, none⟩ = some (.int .u32 y)) (c4 : w.cell? ⟨bf, 0, none⟩ = some (.int .u32 first)) :
    Calls Try.prog 65 (#[.int .i64 n] ++ #[.pointer (some ⟨br, 0, none⟩), .pointer (some ⟨bp, 0, none⟩), .pointer (some ⟨by', 0, none⟩)]) w fun e w' => e = .returned (.bool (comesB (chainV ll) (placeN first n) y)) ∧ Q w w' := by
  have hx : placeN first n < 4294967296 := fkeyN_lt hn
  have d1 := qw_cell c1
  have d2 := qw_cell c2
  have d3 := qw_cell c3
  have n0 := qw_some w
  have HD : Hid (w.cell? ⟨bf, 0, none⟩ = some (.int .u32 first)) := c4
  have HC : Hid (ChIs w b ll) := hc
  have HL : Hid (LOk ll) := hl
  clear c1 c2 c3 c4 hc hl
  go_enter Try.func65, Try.ntmps65
  go_wp2_with fail
  refine wp_region_quiet_Q (by kernel_rfl) (by kernel_rfl) ?_
  repeat (first | go_big_quiet_step (first | (go_at_call 61; exact calls_qs (place_any bf first n hf hn _ (QW.q _ |>.cell HD.out))) | (go_at_call 60; exact calls_qw (ch_comes_any b ll HL.out _ y hx _ (HC.out.next (QW.q _))))) | quiet_step (first | (go_at_call 61; exact calls_qs (place_any bf first n hf hn _ (QW.q _ |>.cell HD.out))) | (go_at_call 60; exact calls_qw (ch_comes_any b ll HL.out _ y hx _ (HC.out.next (QW.q _))))))
  refine wpQuiet_nil ?_
  intro w4 hw'
  have hq4 := qw_out hw'
  clear hw'
  go_wp2_with fail
  go_ret
  exact ⟨rfl, hq4⟩
end Go.Proofs.Ytfolecnjaaakeaa

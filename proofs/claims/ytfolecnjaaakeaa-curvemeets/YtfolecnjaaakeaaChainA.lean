/- Curves one behind the other: At. -/
import Derived.Test.YtfolecnjaaakeaaLawTurn
namespace Go.Proofs.Ytfolecnjaaakeaa
open Go.RowKit
set_option linter.unusedVariables false
set_option linter.unusedSimpArgs false

/-- A chain in memory. -/
structure ChIs (w : World) (b : Nat) (ll : List (List (Nat × Nat))) : Prop where
  it : ∃ g cap, w.cell? ⟨b, 0, none⟩ = some (.slice (some ⟨g, 0, none⟩) ll.length cap) ∧ ll.length ≤ cap ∧ LLs w g 0 ll
theorem ChIs.next {w w' : World} {b : Nat} {ll : List (List (Nat × Nat))} (h : ChIs w b ll) (q : Q w w') : ChIs w' b ll := by
  obtain ⟨g, cap, h1, h2, h3⟩ := h.it
  exact ⟨g, cap, q.cell h1, h2, h3.next q⟩
theorem LLs.curve {w : World} {g o : Nat} {ll : List (List (Nat × Nat))} (h : LLs w g o ll) {i : Nat} (hi : i < ll.length) : CIs w g (o + i) (ll.getD i []) := by
  obtain ⟨g', o', cap, h1, h2, h3⟩ := h i hi
  exact ⟨g', o', cap, h1, h2, h3⟩

set_option maxHeartbeats 4000000 in
theorem chat_any (b : Nat) (ll : List (List (Nat × Nat))) (hll : ∀ l ∈ ll, COk l) (hlen : ll.length ≤ 64) (x : Nat) (hx : x < 4294967296) (w : World) (hc : ChIs w b ll) :
    Calls Try.prog 26 #[.pointer (some ⟨b, 0, none⟩), .int .u32 x] w fun e w' => e = .returned (.int .u32 (chainV ll x : Nat)) ∧ Q w w' := by
  obtain ⟨g, cap, c1, c2, c3⟩ := hc.it
  have HK : Hid (LLs w g 0 ll) := c3
  have HL : Hid (∀ l ∈ ll, COk l) := hll
  obtain ⟨N, hN⟩ : ∃ N, ll.length = N := ⟨_, rfl⟩
  rw [hN] at c1 c2 hlen
  clear hc c3 hll
  go_enter Try.func26, Try.ntmps26
  go_wp2_with fail
  go_loopg [1, 11] N (fun m s1 s11 wr => ∃ k X : Nat, s1 = .int .u32 X ∧ s11 = .int .i64 k ∧ k + m = N ∧ X < 4294967296 ∧ Hid (X = chainV (ll.take k) x) ∧ Q w wr)
  case atStart => exact ⟨0, x, rfl, rfl, by omega, hx, (rfl : x = chainV (ll.take 0) x), Q.refl _⟩
  case round =>
    obtain ⟨k, X, rfl, rfl, hm, hX, HX, hq⟩ := hrel
    by_cases hkn : k < N
    · have hkl : k < ll.length := by omega
      have K3 : Hid (CIs wr g k (ll.getD k [])) := by
        have := (HK.out.next hq).curve hkl
        rw [Nat.zero_add] at this
        exact this
      have ok : Hid (COk (ll.getD k [])) := HL.out _ (getD_mem hkl)
      have N1 : Hid (atV (ll.getD k []) X = chainV (ll.take (k + 1)) x) := by
        show atV (ll.getD k []) X = chainV (ll.take (k + 1)) x
        rw [chain_take hkl, ← HX.out]
      have N2 := atV_lt ok.out hX
      obtain ⟨lk, hlk⟩ : ∃ lk, ll.getD k [] = lk := ⟨_, rfl⟩
      rw [hlk] at K3 ok N1 N2
      clear hlk hkl
      have cc := hq.cell c1
      have hi0 : (0 : Int) ≤ (k : Int) := by omega
      have hi1 : (k : Int) < (N : Int) := by omega
      go_wp2_with fail
      refine (at_any g k lk ok.out X hX _ K3.out).mono ?_
      rintro e w1 ⟨rfl, q1⟩
      go_wp2_with fail
      go_roundg (N - (k + 1))
      case measure => go_light; omega
      case rel => go_light; exact ⟨k + 1, _, rfl, by go_num, by omega, N2, N1, hq.trans q1⟩
    · have e1 : chainV ll x = X := by
        rw [HX.out, List.take_of_length_le (by omega)]
      have E1 : Hid (X = chainV ll x) := e1.symm
      clear e1 HX
      go_wp2_with fail
      go_ret
      exact ⟨ret_int (by rw [← E1.out]), hq⟩
end Go.Proofs.Ytfolecnjaaakeaa

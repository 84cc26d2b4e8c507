/- The document's curves: one behind the other. -/
import Derived.Test.YtfolecnjaaakeaaCRefE
namespace Go.Proofs.Ytfolecnjaaakeaa
open Go.RowKit
set_option linter.unusedVariables false

set_option maxHeartbeats 400000 in
theorem ratall_any (g o cap : Nat) (ll : List (List (Nat × Nat))) (hll : ∀ l ∈ ll, COk l) (hlen : ll.length ≤ 64) (x : Nat) (hx : x < 4294967296) (w : World) (hk : LLs w g o ll) :
    Calls Try.prog 28 #[.slice (some ⟨g, o, none⟩) ll.length cap, .int .u32 x] w fun e w' => e = .returned (.int .u32 (chainV ll x : Nat)) ∧ Q w w' := by
  have HK : Hid (LLs w g o ll) := hk
  have HL : Hid (∀ l ∈ ll, COk l) := hll
  clear hk hll
  go_enter Try.func28, Try.ntmps28
  go_wp2_with fail
  go_loopg [1, 5] ll.length (fun m s1 s5 wr => ∃ k X : Nat, s1 = .int .u32 X ∧ s5 = .int .i64 k ∧ k + m = ll.length ∧ X < 4294967296 ∧ Hid (X = chainV (ll.take k) x) ∧ Q w wr)
  case atStart => exact ⟨0, x, rfl, rfl, by omega, hx, (rfl : x = chainV (ll.take 0) x), Q.refl _⟩
  case round =>
    obtain ⟨k, X, rfl, rfl, hm, hX, HX, hq⟩ := hrel
    by_cases hkn : k < ll.length
    · obtain ⟨g', o', c', h1, h2, h3⟩ := HK.out.next hq k hkn
      have K3 : Hid (KIs wr g' o' (ll.getD k [])) := h3
      have ok : Hid (COk (ll.getD k [])) := HL.out _ (getD_mem hkn)
      have N1 : Hid (atV (ll.getD k []) X = chainV (ll.take (k + 1)) x) := by
        show atV (ll.getD k []) X = chainV (ll.take (k + 1)) x
        rw [chain_take hkn, ← HX.out]
      have N2 := atV_lt ok.out hX
      obtain ⟨lk, hlk⟩ : ∃ lk, ll.getD k [] = lk := ⟨_, rfl⟩
      rw [hlk] at h1 h2 K3 ok N1 N2
      clear hlk
      have hi0 : (0 : Int) ≤ (k : Int) := by omega
      have hi1 : (k : Int) < (ll.length : Int) := by omega
      clear h3
      go_wp2_with fail
      refine (rat_any g' o' c' _ ok.out X hX _ K3.out).mono ?_
      rintro e w1 ⟨rfl, q1⟩
      go_wp2_with fail
      go_roundg (ll.length - (k + 1))
      case measure => go_light; omega
      case rel => go_light; exact ⟨k + 1, _, rfl, by go_num, by omega, N2, N1, hq.trans q1⟩
    · have e1 : chainV ll x = X := by
        rw [HX.out, List.take_of_length_le (by omega)]
      have E1 : Hid (X = chainV ll x) := e1.symm
      clear e1 HX
      go_wp2_with fail
      go_ret
      exact ⟨ret_int (by rw [← E1.out]), hq⟩
end Go.Proofs.Ytfolecnjaaakeaa

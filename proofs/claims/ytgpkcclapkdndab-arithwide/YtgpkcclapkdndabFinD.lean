/- Plain facts: the reference's word of binary64, put together. -/
import Derived.Test.YtgpkcclapkdndabFin
namespace Go.Proofs.Ytgpkcclapkdndab
open Go.RowKit

/-- The word that the reference puts together. -/
theorem or_word_64 {neg : Bool} {r : Nat} (hr : r < 9223372036854775808) : bits .or .u64 (signV true neg) (r : Int) = ((Ieee.double.word neg r : Nat) : Int) := by
  unfold Ieee.Format.word signV
  rw [double_sign]
  cases neg
  · show bits .or .u64 ((0 : Nat) : Int) (r : Int) = _
    rw [u64_or_nat _ _ (by decide) (by omega), Nat.zero_or]; rfl
  · show bits .or .u64 ((9223372036854775808 : Nat) : Int) (r : Int) = _
    rw [u64_or_nat _ _ (by decide) (by omega), show (9223372036854775808 : Nat) = 2 ^ 63 * 1 from rfl, ← Nat.two_pow_add_eq_or_of_lt (i := 63) hr 1]
    rfl
theorem or_word2_64 {neg : Bool} {x fr : Nat} (hx : x < 2048) (hf : fr < 4503599627370496) :
    bits .or .u64 ((Ieee.double.word neg (x * 4503599627370496) : Nat) : Int) (fr : Int) = ((Ieee.double.word neg (x * 4503599627370496 + fr) : Nat) : Int) := by
  have e : Ieee.double.word neg (x * 4503599627370496) = 2 ^ 52 * ((if neg = true then 2048 else 0) + x) := by
    unfold Ieee.Format.word; rw [double_sign]; cases neg <;> simp <;> omega
  have e2 : Ieee.double.word neg (x * 4503599627370496 + fr) = 2 ^ 52 * ((if neg = true then 2048 else 0) + x) + fr := by
    unfold Ieee.Format.word; rw [double_sign]; cases neg <;> simp <;> omega
  have hb : (if neg = true then 2048 else 0) ≤ 2048 := by split <;> omega
  rw [e2, e, u64_or_nat _ _ (by omega) (by omega), ← Nat.two_pow_add_eq_or_of_lt (i := 52) hf]
theorem word_lt_64 {neg : Bool} {r : Nat} (hr : r < 9223372036854775808) : Ieee.double.word neg r < 18446744073709551616 := by
  unfold Ieee.Format.word; rw [double_sign]; split <;> omega

/-- Carried where it must be: what is kept, and its place. -/
theorem carried_64 {n K : Nat} {T : Int} {R : Nat} (h1 : K ≤ 2 * 4503599627370496) (h2 : -1074 ≤ T) (h3 : K < 4503599627370496 → T = -1074 ∨ n = 0) (h0 : n = 0 → K = 0)
    (h4 : R = if n = 0 then 0 else min ((T - -1074).toNat * 4503599627370496 + K) 9218868437227405312) :
    ∃ (K' : Nat) (T' : Int), K' < 9007199254740992 ∧ -1074 ≤ T' ∧ T' ≤ T + 1 ∧ ((K = 9007199254740992 ∧ K' = 4503599627370496 ∧ T' = T + 1) ∨ (K < 9007199254740992 ∧ K' = K ∧ T' = T)) ∧
      (K' < 4503599627370496 → R = K') ∧ (4503599627370496 ≤ K' → R = min ((T' + 1074).toNat * 4503599627370496 + K') 9218868437227405312) := by
  by_cases hK : K = 9007199254740992
  · refine ⟨4503599627370496, T + 1, by decide, by omega, by omega, Or.inl ⟨hK, rfl, rfl⟩, fun h => absurd h (by decide), fun _ => ?_⟩
    have : n ≠ 0 := fun e => by have := h0 e; omega
    rw [h4, if_neg this]
    have e1 : (T + 1 + 1074).toNat = (T - -1074).toNat + 1 := by omega
    have e2 : ∀ y : Nat, y * 4503599627370496 + 9007199254740992 = (y + 1) * 4503599627370496 + 4503599627370496 := fun y => by omega
    rw [e1, hK, e2]
  · refine ⟨K, T, by omega, h2, by omega, Or.inr ⟨by omega, rfl, rfl⟩, fun h => ?_, fun h => ?_⟩
    · rw [h4]
      by_cases hn : n = 0
      · rw [if_pos hn, h0 hn]
      · rw [if_neg hn]
        rcases h3 h with g | g
        · rw [g]; simp; omega
        · exact absurd g hn
    · have : n ≠ 0 := fun e => by have := h0 e; omega
      rw [h4, if_neg this]
      rw [show (T - -1074).toNat = (T + 1074).toNat by omega]
end Go.Proofs.Ytgpkcclapkdndab

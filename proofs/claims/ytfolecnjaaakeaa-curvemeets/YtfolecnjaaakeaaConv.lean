/- Plain facts: words of one form written in the other: what is too great, and what is not. -/
import Derived.Test.YtfolecnjaaakeaaOrd
namespace Go.Proofs.Ytfolecnjaaakeaa
open Go.RowKit

theorem rung_word32 (f : Ieee.Format) (r : Nat) : rungOf f (mag32 r) (-149 + (plc32 r : Int)) = rungOf f (val32 r) (-149) := by
  unfold val32; rw [rung_scale]
theorem rung_word64 (f : Ieee.Format) (r : Nat) : rungOf f (mag64 r) (-1074 + (plc64 r : Int)) = rungOf f (val64 r) (-1074) := by
  unfold val64; rw [rung_scale]
theorem val_le32 {r s : Nat} (h : r ≤ s) : val32 r ≤ val32 s := by
  rcases Nat.lt_or_eq_of_le h with g | g
  · exact Nat.le_of_lt (val_mono32 g)
  · rw [g]; exact Nat.le_refl _
theorem val_le64 {r s : Nat} (h : r ≤ s) : val64 r ≤ val64 s := by
  rcases Nat.lt_or_eq_of_le h with g | g
  · exact Nat.le_of_lt (val_mono64 g)
  · rw [g]; exact Nat.le_refl _
theorem rung_le32 (f : Ieee.Format) {r s : Nat} (h : r ≤ s) : rungOf f (mag32 r) (-149 + (plc32 r : Int)) ≤ rungOf f (mag32 s) (-149 + (plc32 s : Int)) := by
  rw [rung_word32, rung_word32]; exact rung_mono f _ (val_le32 h)
theorem rung_le64 (f : Ieee.Format) {r s : Nat} (h : r ≤ s) : rungOf f (mag64 r) (-1074 + (plc64 r : Int)) ≤ rungOf f (mag64 s) (-1074 + (plc64 s : Int)) := by
  rw [rung_word64, rung_word64]; exact rung_mono f _ (val_le64 h)

theorem sgn_word32 (s : Bool) {r : Nat} (h : r < 2147483648) : sgn32 (Ieee.single.word s r) = s ∧ rung32 (Ieee.single.word s r) = r := by
  unfold sgn32 rung32; rw [word32]
  cases s
  · exact ⟨by rw [beq_eq_false_iff_ne]; simp; omega, by simp; omega⟩
  · exact ⟨by rw [beq_iff_eq]; simp; omega, by simp; omega⟩
theorem sgn_word64 (s : Bool) {r : Nat} (h : r < 9223372036854775808) : sgn64 (Ieee.double.word s r) = s ∧ rung64 (Ieee.double.word s r) = r := by
  unfold sgn64 rung64; rw [word64]
  cases s
  · exact ⟨by rw [beq_eq_false_iff_ne]; simp; omega, by simp; omega⟩
  · exact ⟨by rw [beq_iff_eq]; simp; omega, by simp; omega⟩
theorem word_of32 {a : Nat} (h : a < 4294967296) : a = Ieee.single.word (sgn32 a) (rung32 a) := by
  rw [word32]; unfold sgn32 rung32
  by_cases c : a / 2147483648 % 2 = 1
  · rw [beq_iff_eq.2 c]; simp; omega
  · rw [beq_eq_false_iff_ne.2 c]; simp; omega
theorem word_of64 {a : Nat} (h : a < 18446744073709551616) : a = Ieee.double.word (sgn64 a) (rung64 a) := by
  rw [word64]; unfold sgn64 rung64
  by_cases c : a / 9223372036854775808 % 2 = 1
  · rw [beq_iff_eq.2 c]; simp; omega
  · rw [beq_eq_false_iff_ne.2 c]; simp; omega

theorem nanN_rung (a : Nat) : nanN a = decide (2139095040 < rung32 a) := rfl
theorem nan64_rung (a : Nat) : nan64 a = decide (9218868437227405312 < rung64 a) := rfl

/-- A finite sample, made wide, is finite. -/
theorem wide_lt {a : Nat} (h : rung32 a < 2139095040) : rungOf Ieee.double (mag32 (rung32 a)) (-149 + (plc32 (rung32 a) : Int)) < 9218868437227405312 := by
  have h1 := rung_le32 Ieee.double (r := rung32 a) (s := 2139095039) (by omega)
  have h2 : rungOf Ieee.double (mag32 2139095039) (-149 + (plc32 2139095039 : Int)) < 9218868437227405312 := by decide +kernel
  omega
/-- A sample that is no NaN, as a word of 64 bits. -/
def wideN (a : Nat) : Nat := Ieee.double.write (Ieee.single.read a)
theorem wide_conv {a : Nat} (h : nanN a = false) : floatToFloatBits .f32 a .f64 = some (wideN a) := by
  rw [nanN_rung] at h
  have h := of_decide_eq_false h
  unfold floatToFloatBits
  rw [if_neg (by decide)]
  have e : FloatKind.f32.decode a = Ieee.single.read a := rfl
  rw [e]
  rcases Nat.lt_or_ge (rung32 a) 2139095040 with g | g
  · unfold wideN
    rw [read_fin32 g]
    dsimp only
    have e2 : FloatKind.f64.encode (.number (sgn32 a) (mag32 (rung32 a)) (-149 + (plc32 (rung32 a) : Int))) = Ieee.double.word (sgn32 a) (rungOf Ieee.double (mag32 (rung32 a)) (-149 + (plc32 (rung32 a) : Int))) := nearest_rung _ _ _ _
    have e3 : Ieee.double.write (.number (sgn32 a) (mag32 (rung32 a)) (-149 + (plc32 (rung32 a) : Int))) = Ieee.double.word (sgn32 a) (rungOf Ieee.double (mag32 (rung32 a)) (-149 + (plc32 (rung32 a) : Int))) := nearest_rung _ _ _ _
    rw [e2, e3]
    have hw := wide_lt g
    obtain ⟨s1, s2⟩ := sgn_word64 (sgn32 a) (r := rungOf Ieee.double (mag32 (rung32 a)) (-149 + (plc32 (rung32 a) : Int))) (by omega)
    have e4 : FloatKind.f64.decode (Ieee.double.word (sgn32 a) (rungOf Ieee.double (mag32 (rung32 a)) (-149 + (plc32 (rung32 a) : Int)))) = .number _ _ _ := read_fin64 (by rw [s2]; exact hw)
    rw [e4]; rfl
  · unfold wideN
    rw [read_inf32 (by omega)]
    rfl

/-- From the bound on a number is an infinity; below it, it is none. -/
theorem nar_hi {r : Nat} (h : 5183643170835005440 ≤ r) : rungOf Ieee.single (mag64 r) (-1074 + (plc64 r : Int)) = 2139095040 := by
  have h1 := rung_le64 Ieee.single h
  have h2 : rungOf Ieee.single (mag64 5183643170835005440) (-1074 + (plc64 5183643170835005440 : Int)) = 2139095040 := by decide +kernel
  have h3 := rungOf_le Ieee.single (mag64 r) (-1074 + (plc64 r : Int))
  rw [inf32] at h3
  omega
theorem nar_lo {r : Nat} (h : r < 5183643170835005440) : rungOf Ieee.single (mag64 r) (-1074 + (plc64 r : Int)) < 2139095040 := by
  have h1 := rung_le64 Ieee.single (r := r) (s := 5183643170835005439) (by omega)
  have h2 : rungOf Ieee.single (mag64 5183643170835005439) (-1074 + (plc64 5183643170835005439 : Int)) < 2139095040 := by decide +kernel
  omega
theorem nar_conv {x : Nat} (h : rung64 x < 5183643170835005440) : floatToFloatBits .f64 x .f32 = some (Ieee.single.write (Ieee.double.read x)) := by
  unfold floatToFloatBits
  rw [if_neg (by decide)]
  have e : FloatKind.f64.decode x = Ieee.double.read x := rfl
  rw [e, read_fin64 (by omega)]
  dsimp only
  have e2 : FloatKind.f32.encode (.number (sgn64 x) (mag64 (rung64 x)) (-1074 + (plc64 (rung64 x) : Int))) = Ieee.single.word (sgn64 x) (rungOf Ieee.single (mag64 (rung64 x)) (-1074 + (plc64 (rung64 x) : Int))) := nearest_rung _ _ _ _
  have e3 : Ieee.single.write (.number (sgn64 x) (mag64 (rung64 x)) (-1074 + (plc64 (rung64 x) : Int))) = Ieee.single.word (sgn64 x) (rungOf Ieee.single (mag64 (rung64 x)) (-1074 + (plc64 (rung64 x) : Int))) := nearest_rung _ _ _ _
  rw [e2, e3]
  have hw := nar_lo h
  obtain ⟨s1, s2⟩ := sgn_word32 (sgn64 x) (r := rungOf Ieee.single (mag64 (rung64 x)) (-1074 + (plc64 (rung64 x) : Int))) (by omega)
  have e4 : FloatKind.f32.decode (Ieee.single.word (sgn64 x) (rungOf Ieee.single (mag64 (rung64 x)) (-1074 + (plc64 (rung64 x) : Int)))) = .number _ _ _ := read_fin32 (by rw [s2]; exact hw)
  rw [e4]; rfl
/-- What is too great. -/
theorem nar_big {x : Nat} (h : 5183643170835005440 ≤ rung64 x) (hn : nan64 x = false) : toldD (some (Ieee.double.read x)) = Ieee.single.word (sgn64 x) 2139095040 := by
  rw [nan64_rung] at hn
  have hn := of_decide_eq_false hn
  rcases Nat.lt_or_ge (rung64 x) 9218868437227405312 with g | g
  · rw [read_fin64 g]
    show Ieee.single.nearest _ _ _ = _
    rw [nearest_rung, nar_hi h]
  · rw [read_inf64 (by omega)]
    show Ieee.single.word _ Ieee.single.infRung = _
    rw [inf32]
theorem nar_nan {x : Nat} (h : nan64 x = true) : toldD (some (Ieee.double.read x)) = 2143289344 := by
  obtain ⟨s, t, e⟩ := isNaN_cases (read64_nan h)
  rw [e]; rfl

theorem cmp_ge (a b : Int) : (some (compare a b) == some Ordering.gt || some (compare a b) == some Ordering.eq) = decide (b ≤ a) := by
  rcases Int.lt_trichotomy a b with h | h | h
  · rw [Int.compare_eq_lt.2 h, decide_eq_false (by omega)]; rfl
  · rw [Int.compare_eq_eq.2 h, decide_eq_true (by omega)]; rfl
  · rw [Int.compare_eq_gt.2 h, decide_eq_true (by omega)]; rfl
theorem cmp_le (a b : Int) : (some (compare a b) == some Ordering.lt || some (compare a b) == some Ordering.eq) = decide (a ≤ b) := by
  rcases Int.lt_trichotomy a b with h | h | h
  · rw [Int.compare_eq_lt.2 h, decide_eq_true (by omega)]; rfl
  · rw [Int.compare_eq_eq.2 h, decide_eq_true (by omega)]; rfl
  · rw [Int.compare_eq_gt.2 h, decide_eq_false (by omega)]; rfl
theorem cmp_lt (a b : Int) : (some (compare a b) == some Ordering.lt) = decide (a < b) := by
  rcases Int.lt_trichotomy a b with h | h | h
  · rw [Int.compare_eq_lt.2 h, decide_eq_true h]; rfl
  · rw [Int.compare_eq_eq.2 h, decide_eq_false (by omega)]; rfl
  · rw [Int.compare_eq_gt.2 h, decide_eq_false (by omega)]; rfl
theorem cmp_eq (a b : Int) : (some (compare a b) == some Ordering.eq) = decide (a = b) := by
  rcases Int.lt_trichotomy a b with h | h | h
  · rw [Int.compare_eq_lt.2 h, decide_eq_false (by omega)]; rfl
  · rw [Int.compare_eq_eq.2 h, decide_eq_true h]; rfl
  · rw [Int.compare_eq_gt.2 h, decide_eq_false (by omega)]; rfl
end Go.Proofs.Ytfolecnjaaakeaa

/- Plain facts: the program's product and sum in binary64, the sum made odd, made narrow: the exact number rounded once. -/
import Derived.Test.YtpobgkcobgecoabG4ea766ee
namespace Go.Proofs.Ytpobgkcobgecoab
open Go.RowKit

/-- A finite sample in least units of binary64. -/
def sampleZ (a : Nat) : Int := Ieee.signed (sgn32 a) (mag32 (rung32 a)) (plc32 (rung32 a) + 925)
theorem signed_abs (s : Bool) (m k : Nat) : (Ieee.signed s m k).natAbs = m * 2 ^ k := by
  unfold Ieee.signed; rw [Nat.shiftLeft_eq]; split <;> omega
theorem signed_sign {s : Bool} {m k : Nat} (h : Ieee.signed s m k ≠ 0) : s = decide (Ieee.signed s m k < 0) := by
  unfold Ieee.signed at *; rw [Nat.shiftLeft_eq] at *
  cases s
  · simp only [Bool.false_eq_true, if_false]; rw [decide_eq_false (by omega)]
  · simp only [if_true] at *; rw [decide_eq_true (by omega)]
theorem signed_dvd (s : Bool) (m : Nat) {k g : Nat} (h : g ≤ k) : ((2 ^ g : Nat) : Int) ∣ Ieee.signed s m k := by
  rw [Int.ofNat_dvd_left, signed_abs]
  exact Nat.dvd_trans (Nat.pow_dvd_pow 2 h) (Nat.dvd_mul_left _ _)
theorem cap_units {m k e : Nat} (hm : m < 2 ^ e) (h : k + e ≤ 1990) : m * 2 ^ k < 2 ^ capJ := by
  have h1 : m * 2 ^ k < 2 ^ e * 2 ^ k := Nat.mul_lt_mul_of_pos_right hm (Nat.two_pow_pos _)
  rw [← Nat.pow_add] at h1
  exact Nat.lt_of_lt_of_le h1 (Nat.pow_le_pow_right (by decide) (by unfold capJ; omega))
theorem units_log {n : Nat} (h : n < 2 ^ capJ) : n.log2 ≤ 2000 := cap_log (by omega)
/-- A whole number of few digits, in least units, is a word as it is. -/
theorem units_word {s : Bool} {m k : Nat} (hm : m < 2 ^ 53) (hk : k ≤ 1900) :
    rung64 (wordOf s (Ieee.signed s m k)) < 9218868437227405312 ∧ sgn64 (wordOf s (Ieee.signed s m k)) = s ∧ sval64 (wordOf s (Ieee.signed s m k)) = Ieee.signed s m k := by
  have hl : (Ieee.signed s m k).natAbs.log2 ≤ 2000 := by rw [signed_abs]; exact units_log (cap_units hm (by omega))
  obtain ⟨a, b, c, d⟩ := wordOf_facts (σ := s) hl signed_sign
  refine ⟨c, b, ?_⟩
  rw [d]
  refine RN_exact hl (signed_dvd s m (Nat.le_refl k)) ?_
  rw [signed_abs, Nat.pow_add]
  exact Nat.mul_lt_mul_of_pos_right hm (Nat.two_pow_pos _)
theorem plc_le32 {a : Nat} (h : rung32 a < 2139095040) : plc32 (rung32 a) ≤ 253 := by unfold plc32; omega
theorem wide_units {a : Nat} (h : rung32 a < 2139095040) : wideN a = wordOf (sgn32 a) (sampleZ a) := by
  unfold wideN wordOf sampleZ
  rw [read_fin32 h]
  show Ieee.double.nearest _ _ _ = _
  rw [nearest_rung, signed_abs, rung_scale, show (-1074 : Int) + ((plc32 (rung32 a) + 925 : Nat) : Int) = -149 + (plc32 (rung32 a) : Int) by omega]
theorem wide_fin {a : Nat} (h : rung32 a < 2139095040) : rung64 (wideN a) < 9218868437227405312 ∧ sgn64 (wideN a) = sgn32 a ∧ sval64 (wideN a) = sampleZ a := by
  rw [wide_units h]
  have hp := plc_le32 h
  have hm := mag_lt32 (rung32 a)
  exact units_word (by omega) (by omega)
theorem val_abs (x : Nat) : (sval64 x).natAbs = val64 (rung64 x) := by unfold sval64; split <;> omega

/-- A product of two samples in least units. -/
def prodZ (a b : Nat) : Int := Ieee.signed (sgn32 a ^^ sgn32 b) (mag32 (rung32 a) * mag32 (rung32 b)) (plc32 (rung32 a) + plc32 (rung32 b) + 776)
theorem prod_lt (a b : Nat) : mag32 (rung32 a) * mag32 (rung32 b) < 2 ^ 48 := by
  have h1 := mag_lt32 (rung32 a)
  have h2 := mag_lt32 (rung32 b)
  have a1 : mag32 (rung32 a) * mag32 (rung32 b) ≤ 16777215 * mag32 (rung32 b) := Nat.mul_le_mul_right _ (by omega)
  omega
theorem prod_units {a b : Nat} (ha : rung32 a < 2139095040) (hb : rung32 b < 2139095040) : floatBits .mul .f64 (wideN a) (wideN b) = some (wordOf (sgn32 a ^^ sgn32 b) (prodZ a b)) := by
  obtain ⟨r1, s1, v1⟩ := wide_fin ha
  obtain ⟨r2, s2, v2⟩ := wide_fin hb
  show ((Ieee.double.read (wideN a)).product (Ieee.double.read (wideN b))).map Ieee.double.write = _
  rw [read_fin64 r1, read_fin64 r2, s1, s2]
  show some (Ieee.double.nearest _ _ _) = _
  rw [nearest_rung]
  unfold wordOf prodZ
  rw [signed_abs]
  have w1 : mag64 (rung64 (wideN a)) * 2 ^ plc64 (rung64 (wideN a)) = mag32 (rung32 a) * 2 ^ (plc32 (rung32 a) + 925) := by
    have := val_abs (wideN a)
    rw [v1] at this
    unfold sampleZ at this
    rw [signed_abs] at this
    exact this.symm
  have w2 : mag64 (rung64 (wideN b)) * 2 ^ plc64 (rung64 (wideN b)) = mag32 (rung32 b) * 2 ^ (plc32 (rung32 b) + 925) := by
    have := val_abs (wideN b)
    rw [v2] at this
    unfold sampleZ at this
    rw [signed_abs] at this
    exact this.symm
  obtain ⟨E, hE⟩ : ∃ E : Nat, E = 1074 := ⟨_, rfl⟩
  have e : mag64 (rung64 (wideN a)) * mag64 (rung64 (wideN b)) * 2 ^ (plc64 (rung64 (wideN a)) + plc64 (rung64 (wideN b))) = mag32 (rung32 a) * mag32 (rung32 b) * 2 ^ (plc32 (rung32 a) + plc32 (rung32 b) + 776) * 2 ^ E := by
    have a1 : mag64 (rung64 (wideN a)) * mag64 (rung64 (wideN b)) * 2 ^ (plc64 (rung64 (wideN a)) + plc64 (rung64 (wideN b))) = (mag64 (rung64 (wideN a)) * 2 ^ plc64 (rung64 (wideN a))) * (mag64 (rung64 (wideN b)) * 2 ^ plc64 (rung64 (wideN b))) := by
      rw [Nat.pow_add, Nat.mul_mul_mul_comm]
    rw [a1, w1, w2, Nat.mul_mul_mul_comm, ← Nat.pow_add, Nat.mul_assoc (mag32 (rung32 a) * mag32 (rung32 b)), ← Nat.pow_add]
    congr 2; omega
  have k1 := rung_scale Ieee.double (mag64 (rung64 (wideN a)) * mag64 (rung64 (wideN b))) (plc64 (rung64 (wideN a)) + plc64 (rung64 (wideN b))) (-2148)
  rw [e, rung_scale, show (-2148 : Int) + (E : Int) = -1074 by omega] at k1
  have e4 : (-1074 : Int) + (plc64 (rung64 (wideN a)) : Int) + (-1074 + (plc64 (rung64 (wideN b)) : Int)) = -2148 + ((plc64 (rung64 (wideN a)) + plc64 (rung64 (wideN b)) : Nat) : Int) := by omega
  rw [e4, ← k1]

theorem rung_pos {M : Nat} (h : M ≠ 0) : 0 < rne M (lostK M) := by
  rcases Nat.eq_zero_or_pos (lostK M) with g | g
  · rw [g, rne_zero]; omega
  · have := (kept_bd (M := M)).2 g; omega
theorem stick_bd {M : Nat} (hK : 0 < lostK M) : 4503599627370496 ≤ stick M (lostK M + 1) ∧ stick M (lostK M + 1) ≤ 9007199254740992 := by
  have h0 : M ≠ 0 := by intro h0; subst h0; exact absurd hK (by decide)
  have h1 := Nat.log2_self_le h0
  have h2 : M < 2 ^ (M.log2 + 1) := Nat.lt_log2_self
  have e : M.log2 = 52 + lostK M := by unfold lostK at *; omega
  rw [e] at h1 h2
  have a1 : 2 ^ 51 ≤ M / 2 ^ (lostK M + 1) := by
    rw [Nat.le_div_iff_mul_le (Nat.two_pow_pos _), ← Nat.pow_add, show 51 + (lostK M + 1) = 52 + lostK M by omega]; exact h1
  have a2 : M / 2 ^ (lostK M + 1) < 2 ^ 52 := by
    rw [Nat.div_lt_iff_lt_mul (Nat.two_pow_pos _), ← Nat.pow_add, show 52 + (lostK M + 1) = 52 + lostK M + 1 by omega]; exact h2
  unfold stick
  split <;> omega
/-- The sum made odd, as a word. -/
theorem odd_word {σ : Bool} {Z : Int} {l : Nat} (hZ : Z.natAbs.log2 ≤ 2000) (h0 : Z ≠ 0) (hσ : σ = decide (Z < 0)) (hl : rung64 l < 9218868437227405312) (vl : sval64 l = Z - RN Z) :
    ∃ R, oddV (wordOf σ Z) l = Ieee.double.word σ R ∧ R < 9218868437227405312 ∧ rungOf Ieee.single (val64 R) (-1074) = rungOf Ieee.single Z.natAbs (-1074) := by
  obtain ⟨f1, f2, f3, f4⟩ := wordOf_facts (σ := σ) hZ (fun _ => hσ)
  obtain ⟨M, hM⟩ : ∃ M, M = Z.natAbs := ⟨_, rfl⟩
  have hM0 : M ≠ 0 := by omega
  have hR := RN_abs Z
  rw [← hM] at hZ hR
  rw [vN_eq hZ] at hR
  have hsg : RN Z < 0 ↔ Z < 0 := by
    unfold RN
    rw [← hM, vN_eq hZ]
    have := Nat.mul_pos (rung_pos hM0) (Nat.two_pow_pos (lostK M))
    generalize rne M (lostK M) * 2 ^ lostK M = V at this
    split <;> omega
  have hc := kept_bd (M := M)
  have hc0 := rung_pos hM0
  have es : wordOf σ Z = σ.toNat * 9223372036854775808 + (lostK M * 4503599627370496 + rne M (lostK M)) := by
    unfold wordOf
    rw [← hM, word64, rung64_eq hZ]
  have hst := odd_stick M
  have eo : oddV (wordOf σ Z) l = σ.toNat * 9223372036854775808 + (lostK M * 4503599627370496 + (if rne M (lostK M) % 2 = 1 ∨ rne M (lostK M) * 2 ^ lostK M = M then rne M (lostK M) else if rne M (lostK M) * 2 ^ lostK M < M then rne M (lostK M) + 1 else rne M (lostK M) - 1)) := by
    unfold oddV
    have c1 : (wordOf σ Z % 2 = 1 ∨ rung64 l = 0) ↔ (rne M (lostK M) % 2 = 1 ∨ rne M (lostK M) * 2 ^ lostK M = M) := by
      have d1 : wordOf σ Z % 2 = 1 ↔ rne M (lostK M) % 2 = 1 := by rw [es]; omega
      have d2 : rung64 l = 0 ↔ rne M (lostK M) * 2 ^ lostK M = M := by
        rw [← sval_zero, vl]
        generalize rne M (lostK M) * 2 ^ lostK M = V at hR
        omega
      rw [d1, d2]
    by_cases h1 : rne M (lostK M) % 2 = 1 ∨ rne M (lostK M) * 2 ^ lostK M = M
    · rw [if_pos (c1.2 h1), if_pos h1, es]
    · rw [if_neg (fun h => h1 (c1.1 h)), if_neg h1]
      have c2 : ((Ieee.double.order l 0 == some Ordering.lt) = (Ieee.double.order (wordOf σ Z) 0 == some Ordering.lt)) ↔ rne M (lostK M) * 2 ^ lostK M < M := by
        rw [order_neg hl, order_neg f3, vl, f4, decide_eq_decide]
        have h2 : ¬ rne M (lostK M) * 2 ^ lostK M = M := fun h => h1 (Or.inr h)
        generalize rne M (lostK M) * 2 ^ lostK M = V at hR h2
        omega
      by_cases h3 : rne M (lostK M) * 2 ^ lostK M < M
      · rw [if_pos (c2.2 h3), if_pos h3, es]; omega
      · rw [if_neg (fun h => h3 (c2.1 h)), if_neg h3, es]; omega
  rw [hst] at eo
  have hk : lostK M ≤ 1948 := by unfold lostK; omega
  rcases Nat.eq_zero_or_pos (lostK M) with g | g
  · have e1 : stick M (lostK M + 1) = M := by
      rw [g]; unfold stick
      rw [show 0 + 1 = 1 from rfl, Nat.pow_one]
      split <;> omega
    have hb : M ≤ 9007199254740992 := by
      have h2 : M < 2 ^ (M.log2 + 1) := Nat.lt_log2_self
      have : 2 ^ (M.log2 + 1) ≤ 2 ^ 53 := Nat.pow_le_pow_right (by decide) (by unfold lostK at g; omega)
      omega
    refine ⟨lostK M * 4503599627370496 + stick M (lostK M + 1), ?_, ?_, ?_⟩
    · rw [eo, word64]
    · rw [e1]; omega
    · rw [e1, val_of hb (by omega), g, Nat.pow_zero, Nat.mul_one, hM]
  · obtain ⟨s1, s2⟩ := stick_bd g
    refine ⟨lostK M * 4503599627370496 + stick M (lostK M + 1), ?_, ?_, ?_⟩
    · rw [eo, word64]
    · omega
    · rw [val_of s2 (fun _ => s1), stick_rung hZ g, hM]
end Go.Proofs.Ytpobgkcobgecoab
/- What package arith's Fma returns: of numbers without an answer, and of others by its steps in binary64; what was in memory stays as it was. -/
namespace Go.Proofs.Ytpobgkcobgecoab
open Go.RowKit

theorem go_mul1 (a : Nat) (u : World) (y : Nat) (w : World) : (binOp .mul 60 (.float .f64 (nanc .f64 a u)) (.float .f64 y)).run Try.prog w = .ok (.float .f64 (nanw .f64 (nanc .f64 a u) y w)) w.drew :=
  run_arith_none .mul (by simp) 60 .f64 _ y (mul_nan1 (nanc64 a u).1 y) Try.prog w
theorem go_mul2 (a : Nat) (u : World) (x : Nat) (w : World) : (binOp .mul 60 (.float .f64 x) (.float .f64 (nanc .f64 a u))).run Try.prog w = .ok (.float .f64 (nanw .f64 x (nanc .f64 a u) w)) w.drew :=
  run_arith_none .mul (by simp) 60 .f64 x _ (mul_nan2 (nanc64 a u).1 x) Try.prog w
theorem wide_nan {a : Nat} (h : nanN a = true) (w : World) : (convert 80 60 (.float .f32 a)).run Try.prog w = .ok (.float .f64 (nanc .f64 a w)) w.drew :=
  run_conv_nan (P := Try.prog) 80 60 .f32 .f64 a (by decide) (by kernel_rfl) Try.underlying60 (read32_nan h) w
theorem wide_num {a : Nat} (h : nanN a = false) (w : World) : (convert 80 60 (.float .f32 a)).run Try.prog w = .ok (.float .f64 (wideN a)) w :=
  run_convert_float_float (P := Try.prog) w 80 60 .f32 .f64 a _ (by kernel_rfl) Try.underlying60 (wide_conv h)

end Go.Proofs.Ytpobgkcobgecoab
/- What package arith's Fma returns of whatever samples: the exact product and sum, rounded once. -/
namespace Go.Proofs.Ytpobgkcobgecoab
open Go.RowKit

/-- The exact number of a product and a sum. -/
def fmaD (a b c : Nat) : Option Ieee.Datum := ((Ieee.single.read a).product (Ieee.single.read b)).bind fun d => d.sum (Ieee.single.read c)

theorem wide_read_inf {a : Nat} (h : rung32 a = 2139095040) : Ieee.double.read (wideN a) = .infinity (sgn32 a) := by rw [wide_inf h, read_winf64]
theorem fin_num {a : Nat} (h : rung32 a < 2139095040) : nanN a = false := by rw [nanN_rung]; exact decide_eq_false (by omega)
theorem inf_num {a : Nat} (h : rung32 a = 2139095040) : nanN a = false := by rw [nanN_rung]; exact decide_eq_false (by omega)
theorem wide_mag_zero {a : Nat} (h : rung32 a < 2139095040) : mag64 (rung64 (wideN a)) = 0 ↔ mag32 (rung32 a) = 0 := by
  obtain ⟨r, s, v⟩ := wide_fin h
  have e := val_abs (wideN a)
  rw [v] at e
  unfold sampleZ val64 at e
  rw [signed_abs] at e
  have p1 := Nat.two_pow_pos (plc32 (rung32 a) + 925)
  have p2 := Nat.two_pow_pos (plc64 (rung64 (wideN a)))
  constructor
  · intro h0
    rw [h0, Nat.zero_mul] at e
    rcases Nat.mul_eq_zero.1 e with k | k
    · exact k
    · omega
  · intro h0
    rw [h0, Nat.zero_mul] at e
    rcases Nat.mul_eq_zero.1 e.symm with k | k
    · exact k
    · omega

theorem told_inf (σ : Bool) : toldD (some (Ieee.double.read (Ieee.double.word σ 9218868437227405312))) = Ieee.single.word σ 2139095040 := by
  rw [read_winf64]
  show Ieee.single.word σ Ieee.single.infRung = _
  rw [inf32]
theorem inf_even (σ : Bool) : Ieee.double.word σ 9218868437227405312 % 2 = 0 ∧ Ieee.double.word σ 9218868437227405312 < 18446744073709551616 := by
  rw [word64]; have := Bool.toNat_lt σ; omega
theorem sub_inf_inf (σ : Bool) : floatBits .sub .f64 (Ieee.double.word σ 9218868437227405312) (Ieee.double.word σ 9218868437227405312) = none := by
  show ((Ieee.double.read _).sum (Ieee.double.read _).opposite).map _ = none
  rw [read_winf64]
  cases σ <;> rfl
theorem write_inf (σ : Bool) : Ieee.double.write (.infinity σ) = Ieee.double.word σ 9218868437227405312 := by
  show Ieee.double.word σ Ieee.double.infRung = _
  rw [inf64]

end Go.Proofs.Ytpobgkcobgecoab
/- Plain facts: orders of two, ones, noughts and halves, in the model's own words of floats. -/
namespace Go.Proofs.Ytpobgkcobgecoab
open Go.RowKit

theorem sum_comm (d d' : Ieee.Datum) : d.sum d' = d'.sum d := by
  cases d with
  | nan s t => cases d' <;> rfl
  | infinity s =>
    cases d' with
    | nan t f => rfl
    | infinity t =>
      show (if s = t then some (Ieee.Datum.infinity s) else none) = (if t = s then some (Ieee.Datum.infinity t) else none)
      by_cases h : s = t
      · subst h; rfl
      · rw [if_neg h, if_neg (fun e => h e.symm)]
    | number t n j => rfl
  | number s m i =>
    cases d' with
    | nan t f => rfl
    | infinity t => rfl
    | number t n j =>
      simp only [Ieee.Datum.sum]
      rw [Int.min_comm j i, Int.add_comm (Ieee.signed t n _), Bool.and_comm t s]
theorem product_comm (d d' : Ieee.Datum) : d.product d' = d'.product d := by
  cases d with
  | nan s t => cases d' <;> rfl
  | infinity s =>
    cases d' with
    | nan t f => rfl
    | infinity t => simp only [Ieee.Datum.product]; rw [Bool.xor_comm]
    | number t n j => rfl
  | number s m i =>
    cases d' with
    | nan t f => rfl
    | infinity t => rfl
    | number t n j =>
      simp only [Ieee.Datum.product]
      rw [Bool.xor_comm, Nat.mul_comm, Int.add_comm]
theorem leastV_comm {a b : Nat} : leastV (a : Int) (b : Int) = leastV b a := by
  unfold leastV befB keyV
  simp only [decide_eq_true_eq]
  repeat' split
  all_goals omega
theorem greatestV_comm {a b : Nat} : greatestV (a : Int) (b : Int) = greatestV b a := by
  unfold greatestV befB keyV
  simp only [decide_eq_true_eq]
  repeat' split
  all_goals omega

/-- A sample's own rung. -/
theorem self32 {r : Nat} (h : r < 2139095040) : rungOf Ieee.single (mag32 r) (-149 + (plc32 r : Int)) = r := by
  by_cases h0 : r = 0
  · subst h0; rw [show mag32 0 = 0 from by decide, rungOf_zero]
  · have hm := mag_ne32 h0
    have hm1 := mag_lt32 r
    have hp : plc32 r ≤ 253 := by unfold plc32; omega
    have hr : mag32 r + plc32 r * 8388608 = r := by unfold mag32 plc32; omega
    unfold rungOf
    rw [if_neg hm]
    have hl : (mag32 r).log2 ≤ 23 := by
      have := (Nat.log2_lt hm).2 (show mag32 r < 2 ^ 24 from hm1)
      omega
    have e : lastOf Ieee.single (mag32 r) (-149 + (plc32 r : Int)) = -149 + (plc32 r : Int) := by
      unfold lastOf
      rw [least32, show (Ieee.single.fractionBits : Int) = 23 from rfl]
      rcases Nat.eq_zero_or_pos (plc32 r) with g | g
      · rw [g]; omega
      · have h2 : 23 ≤ (mag32 r).log2 := (Nat.le_log2 hm).2 (mag_ge32 g)
        omega
    rw [e, least32, binade32, inf32, Int.sub_self]
    have e2 : rz (mag32 r) 0 = mag32 r := by
      have := rz_nat (mag32 r) 0
      rw [Nat.pow_zero, Nat.mul_one] at this
      exact this
    rw [e2, show (-149 + (plc32 r : Int) - -149).toNat = plc32 r by omega, Nat.min_eq_left (by omega)]
    omega
theorem told_self {a : Nat} (ha : a < 4294967296) (h : rung32 a < 2139095040) : Ieee.single.word (sgn32 a) (rungOf Ieee.single (mag32 (rung32 a)) (-149 + (plc32 (rung32 a) : Int))) = a := by
  rw [self32 h, ← word_of32 ha]
theorem told_sinf {a : Nat} (ha : a < 4294967296) (h : rung32 a = 2139095040) : Ieee.single.word (sgn32 a) 2139095040 = a := by
  rw [← h, ← word_of32 ha]
theorem toldD_inf (s : Bool) : toldD (some (.infinity s)) = Ieee.single.word s 2139095040 := by
  show Ieee.single.word s Ieee.single.infRung = _
  rw [inf32]

theorem read_half : Ieee.single.read 1056964608 = .number false 8388608 (-24) := by decide
theorem read_one32 : Ieee.single.read 1065353216 = .number false 8388608 (-23) := by decide
theorem read_two : Ieee.single.read 1073741824 = .number false 8388608 (-22) := by decide
theorem read_minus : Ieee.single.read 2147483648 = .number true 0 (-149) := by decide
theorem read_plus : Ieee.single.read 0 = .number false 0 (-149) := by decide
theorem xor_f (s : Bool) : (s ^^ false) = s := by cases s <;> rfl

/-- Times a power of two. -/
theorem mul_power (s : Bool) (m : Nat) (p q : Int) : toldD ((Ieee.Datum.number s m p).product (.number false 8388608 q)) = Ieee.single.word s (rungOf Ieee.single m (p + q + 23)) := by
  show toldD (some (.number (s ^^ false) (m * 2 ^ 23) (p + q))) = _
  rw [xor_f, toldD_num, rung_scale]; rfl
/-- By a power of two. -/
theorem quo_power (s : Bool) {m : Nat} (hm : m < 16777216) (p q : Int) : toldD ((Ieee.Datum.number s m p).quotient 25 (.number false 8388608 q)) = Ieee.single.word s (rungOf Ieee.single m (p - q - 23)) := by
  have hl2 : (8388608 : Nat).log2 = 23 := by decide
  have hl : m.log2 ≤ 23 := by
    by_cases h0 : m = 0
    · subst h0; decide
    · have := (Nat.log2_lt h0).2 (show m < 2 ^ 24 from hm); omega
  obtain ⟨B, hB⟩ : ∃ B, B = 25 + (8388608 : Nat).log2 - m.log2 := ⟨_, rfl⟩
  have hB1 : 25 ≤ B := by omega
  have em : (Ieee.Datum.number s m p).quotient 25 (.number false 8388608 q) = some (.number (s ^^ false) (2 * ((m <<< B) / 8388608) + ((m <<< B) % 8388608 != 0).toNat) (p - q - (B : Int) - 1)) := by
    rw [hB]; simp [Ieee.Datum.quotient]
  have e1 : m <<< B = m * 2 ^ (B - 23) * 8388608 := by
    rw [Nat.shiftLeft_eq, Nat.mul_assoc, show (8388608 : Nat) = 2 ^ 23 from rfl, ← Nat.pow_add, show B - 23 + 23 = B by omega]
  rw [em, e1, Nat.mul_div_cancel _ (by decide), Nat.mul_mod_left, xor_f, toldD_num]
  refine congrArg (Ieee.single.word s) ?_
  show rungOf Ieee.single (2 * (m * 2 ^ (B - 23)) + 0) _ = _
  have e2 : 2 * (m * 2 ^ (B - 23)) + 0 = m * 2 ^ (B - 22) := by
    rw [show B - 22 = (B - 23) + 1 by omega, Nat.pow_succ, Nat.add_zero, Nat.mul_comm 2, Nat.mul_assoc]
  rw [e2, rung_scale]
  congr 1; omega
theorem cases32 {a : Nat} (h : nanN a = false) : rung32 a < 2139095040 ∨ rung32 a = 2139095040 := by
  rw [nanN_rung] at h
  have h := of_decide_eq_false h
  omega
theorem toldD_none : toldD none = 2143289344 := rfl

theorem half_link (a : Nat) : toldD ((Ieee.single.read a).quotient 25 (Ieee.single.read 1073741824)) = scaleV a (-1) := by
  rw [read_two]
  cases h : nanN a
  · rcases cases32 h with g | g
    · rw [read_fin32 g, quo_power _ (mag_lt32 _)]
      by_cases z : rung32 a = 0
      · rw [scaleV_zero z, z, show mag32 0 = 0 from by decide, rungOf_zero]
      · rw [scaleV_fin z g]
        refine congrArg (Ieee.single.word _) ?_
        congr 1; omega
    · rw [read_inf32 g, scaleV_inf g, show (Ieee.Datum.infinity (sgn32 a)).quotient 25 (.number false 8388608 (-22)) = some (.infinity (sgn32 a ^^ false)) from rfl, toldD_inf, xor_f]
  · obtain ⟨s, t, e⟩ := isNaN_cases (read32_nan h)
    rw [e, scaleV_nan h]; rfl
theorem mulhalf_link (a : Nat) : toldD ((Ieee.single.read a).product (Ieee.single.read 1056964608)) = scaleV a (-1) := by
  rw [read_half]
  cases h : nanN a
  · rcases cases32 h with g | g
    · rw [read_fin32 g, mul_power]
      by_cases z : rung32 a = 0
      · rw [scaleV_zero z, z, show mag32 0 = 0 from by decide, rungOf_zero]
      · rw [scaleV_fin z g]
        refine congrArg (Ieee.single.word _) ?_
        congr 1; omega
    · rw [read_inf32 g, scaleV_inf g, show (Ieee.Datum.infinity (sgn32 a)).product (.number false 8388608 (-24)) = some (.infinity (sgn32 a ^^ false)) from rfl, toldD_inf, xor_f]
  · obtain ⟨s, t, e⟩ := isNaN_cases (read32_nan h)
    rw [e, scaleV_nan h]; rfl
theorem mul_one {a : Nat} (ha : a < 4294967296) : toldD ((Ieee.single.read a).product (Ieee.single.read 1065353216)) = madeN a := by
  rw [read_one32]
  cases h : nanN a
  · rw [madeN_of h]
    rcases cases32 h with g | g
    · rw [read_fin32 g, mul_power, show -149 + (plc32 (rung32 a) : Int) + -23 + 23 = -149 + (plc32 (rung32 a) : Int) by omega, told_self ha g]
    · rw [read_inf32 g, show (Ieee.Datum.infinity (sgn32 a)).product (.number false 8388608 (-23)) = some (.infinity (sgn32 a ^^ false)) from rfl, toldD_inf, xor_f, told_sinf ha g]
  · obtain ⟨s, t, e⟩ := isNaN_cases (read32_nan h)
    rw [e, madeN_nan h]; rfl
theorem div_one {a : Nat} (ha : a < 4294967296) : toldD ((Ieee.single.read a).quotient 25 (Ieee.single.read 1065353216)) = madeN a := by
  rw [read_one32]
  cases h : nanN a
  · rw [madeN_of h]
    rcases cases32 h with g | g
    · rw [read_fin32 g, quo_power _ (mag_lt32 _), show -149 + (plc32 (rung32 a) : Int) - -23 - 23 = -149 + (plc32 (rung32 a) : Int) by omega, told_self ha g]
    · rw [read_inf32 g, show (Ieee.Datum.infinity (sgn32 a)).quotient 25 (.number false 8388608 (-23)) = some (.infinity (sgn32 a ^^ false)) from rfl, toldD_inf, xor_f, told_sinf ha g]
  · obtain ⟨s, t, e⟩ := isNaN_cases (read32_nan h)
    rw [e, madeN_nan h]; rfl
theorem signed_zero (s : Bool) (k : Nat) : Ieee.signed s 0 k = 0 := by unfold Ieee.signed; rw [Nat.shiftLeft_eq, Nat.zero_mul]; cases s <;> rfl
theorem add_minus_fin (s : Bool) (m : Nat) (p : Int) (hp : -1074 ≤ p) : toldD ((Ieee.Datum.number s m p).sum (.number true 0 (-149))) = Ieee.single.word s (rungOf Ieee.single m p) := by
  obtain ⟨N, b, e1, e2⟩ := sum_units s true m 0 p (-149) hp (by decide)
  rw [signed_zero, Int.add_zero] at e1 e2
  rw [e1, toldD_num, e2, signed_abs, rung_scale, show -1074 + (((p + 1074).toNat : Nat) : Int) = p by omega]
  congr 1
  unfold sg
  by_cases h : Ieee.signed s m (p + 1074).toNat = 0
  · rw [if_pos h, Bool.and_true]
  · rw [if_neg h]; exact (signed_sign h).symm
theorem add_nought {a : Nat} (ha : a < 4294967296) : toldD ((Ieee.single.read a).sum (Ieee.single.read 2147483648)) = madeN a := by
  rw [read_minus]
  cases h : nanN a
  · rw [madeN_of h]
    rcases cases32 h with g | g
    · rw [read_fin32 g, add_minus_fin _ _ _ (by omega), told_self ha g]
    · rw [read_inf32 g, show (Ieee.Datum.infinity (sgn32 a)).sum (.number true 0 (-149)) = some (.infinity (sgn32 a)) from rfl, toldD_inf, told_sinf ha g]
  · obtain ⟨s, t, e⟩ := isNaN_cases (read32_nan h)
    rw [e, madeN_nan h]; rfl
theorem sub_nought {a : Nat} (ha : a < 4294967296) : toldD ((Ieee.single.read a).sum (Ieee.single.read 0).opposite) = madeN a := by
  rw [show (Ieee.single.read 0).opposite = Ieee.single.read 2147483648 from by rw [read_plus, read_minus]; rfl, add_nought ha]
theorem nought_sub {a : Nat} (h : nanN a = false) : toldD ((Ieee.single.read 0).sum (Ieee.single.read a).opposite) % 2147483648 = a % 2147483648 := by
  rw [read_plus]
  rcases cases32 h with g | g
  · rw [read_fin32 g]
    obtain ⟨N, b, e1, e2⟩ := sum_units false (!sgn32 a) 0 (mag32 (rung32 a)) (-149) (-149 + (plc32 (rung32 a) : Int)) (by decide) (by omega)
    rw [signed_zero, Int.zero_add] at e1 e2
    show toldD ((Ieee.Datum.number false 0 (-149)).sum (.number (!sgn32 a) (mag32 (rung32 a)) (-149 + (plc32 (rung32 a) : Int)))) % _ = _
    rw [e1, toldD_num, e2, signed_abs, rung_scale, show -1074 + (((-149 + (plc32 (rung32 a) : Int) + 1074).toNat : Nat) : Int) = -149 + (plc32 (rung32 a) : Int) by omega, self32 g]
    exact (sgn_word32 _ (by omega)).2
  · rw [read_inf32 g]
    show toldD (some (.infinity (!sgn32 a))) % _ = _
    rw [toldD_inf]
    have := (sgn_word32 (!sgn32 a) (r := 2139095040) (by decide)).2
    unfold rung32 at this g
    rw [this, g]
theorem narrow_wide {a : Nat} (ha : a < 4294967296) : toldD (some (Ieee.double.read (wideW a))) = madeN a := by
  cases h : nanN a
  · have e0 : wideW a = wideN a := by unfold wideW; rw [h]; rfl
    rw [e0, madeN_of h]
    rcases cases32 h with g | g
    · obtain ⟨r, s, v⟩ := wide_fin g
      have e := val_abs (wideN a)
      rw [v] at e
      unfold sampleZ at e
      rw [signed_abs] at e
      rw [read_fin64 r, toldD_num, rung_word64, ← e, s, rung_scale, show (-1074 : Int) + ((plc32 (rung32 a) + 925 : Nat) : Int) = -149 + (plc32 (rung32 a) : Int) by omega, told_self ha g]
    · rw [wide_read_inf g, toldD_inf, told_sinf ha g]
  · have e0 : wideW a = 9221120237041090560 := by unfold wideW; rw [h]; rfl
    rw [e0, madeN_nan h]; decide +kernel
theorem sum_num_inf (s : Bool) (m : Nat) (p : Int) (t : Bool) : (Ieee.Datum.number s m p).sum (.infinity t) = some (.infinity t) := rfl
theorem fma_one (a b : Nat) : toldD (fmaD a 1065353216 b) = toldD ((Ieee.single.read a).sum (Ieee.single.read b)) := by
  unfold fmaD
  rw [read_one32]
  cases h : nanN a
  · rcases cases32 h with g | g
    · rw [read_fin32 g]
      show toldD ((Ieee.Datum.number (sgn32 a ^^ false) (mag32 (rung32 a) * 8388608) (-149 + (plc32 (rung32 a) : Int) + -23)).sum (Ieee.single.read b)) = _
      rw [xor_f]
      cases hb : nanN b
      · rcases cases32 hb with k | k
        · rw [read_fin32 k]
          obtain ⟨N, c, e1, e2⟩ := sum_units (sgn32 a) (sgn32 b) (mag32 (rung32 a) * 8388608) (mag32 (rung32 b)) (-149 + (plc32 (rung32 a) : Int) + -23) (-149 + (plc32 (rung32 b) : Int)) (by omega) (by omega)
          obtain ⟨N', c', f1, f2⟩ := sum_units (sgn32 a) (sgn32 b) (mag32 (rung32 a)) (mag32 (rung32 b)) (-149 + (plc32 (rung32 a) : Int)) (-149 + (plc32 (rung32 b) : Int)) (by omega) (by omega)
          have ez : Ieee.signed (sgn32 a) (mag32 (rung32 a) * 8388608) (-149 + (plc32 (rung32 a) : Int) + -23 + 1074).toNat = Ieee.signed (sgn32 a) (mag32 (rung32 a)) (-149 + (plc32 (rung32 a) : Int) + 1074).toNat := by
            unfold Ieee.signed
            rw [Nat.shiftLeft_eq, Nat.shiftLeft_eq, Nat.mul_assoc, show (8388608 : Nat) = 2 ^ 23 from rfl, ← Nat.pow_add, show 23 + (-149 + (plc32 (rung32 a) : Int) + -23 + 1074).toNat = (-149 + (plc32 (rung32 a) : Int) + 1074).toNat by omega]
          rw [ez] at e1 e2
          rw [e1, f1, toldD_num, toldD_num, e2, f2]
        · rw [read_inf32 k, sum_num_inf, sum_num_inf]
      · rw [sum_nan2 (read32_nan hb), sum_nan2 (read32_nan hb)]
    · rw [read_inf32 g]
      show toldD ((Ieee.Datum.infinity (sgn32 a ^^ false)).sum (Ieee.single.read b)) = _
      rw [xor_f]
  · rw [product_nan1 (read32_nan h), sum_nan1 (read32_nan h)]; rfl
theorem fma_nought {a b : Nat} (hp : toldD ((Ieee.single.read a).product (Ieee.single.read b)) % 2147483648 ≠ 0) : toldD (fmaD a b 2147483648) = toldD ((Ieee.single.read a).product (Ieee.single.read b)) := by
  unfold fmaD
  rw [read_minus]
  cases hd : (Ieee.single.read a).product (Ieee.single.read b) with
  | none => rfl
  | some d =>
    rw [hd] at hp
    show toldD (d.sum (.number true 0 (-149))) = _
    cases d with
    | nan s t => exact absurd (product_num hd) (by simp [Ieee.Datum.isNaN])
    | infinity s => rfl
    | number s m p =>
      have hpl : -1074 ≤ p := by
        cases ha : nanN a
        · cases hb : nanN b
          · rcases cases32 ha with g | g
            · rcases cases32 hb with k | k
              · rw [read_fin32 g, read_fin32 k] at hd
                have hd : some (Ieee.Datum.number (sgn32 a ^^ sgn32 b) (mag32 (rung32 a) * mag32 (rung32 b)) (-149 + (plc32 (rung32 a) : Int) + (-149 + (plc32 (rung32 b) : Int)))) = some (.number s m p) := hd
                injection hd with hd
                injection hd with h1 h2 h3
                omega
              · rw [read_fin32 g, read_inf32 k] at hd
                have hd : (if mag32 (rung32 a) = 0 then none else some (Ieee.Datum.infinity (sgn32 b ^^ sgn32 a))) = some (.number s m p) := hd
                split at hd
                · cases hd
                · injection hd with hd; cases hd
            · rcases cases32 hb with k | k
              · rw [read_inf32 g, read_fin32 k] at hd
                have hd : (if mag32 (rung32 b) = 0 then none else some (Ieee.Datum.infinity (sgn32 a ^^ sgn32 b))) = some (.number s m p) := hd
                split at hd
                · cases hd
                · injection hd with hd; cases hd
              · rw [read_inf32 g, read_inf32 k] at hd
                have hd : some (Ieee.Datum.infinity (sgn32 a ^^ sgn32 b)) = some (.number s m p) := hd
                injection hd with hd; cases hd
          · rw [product_nan2 (read32_nan hb)] at hd; cases hd
        · rw [product_nan1 (read32_nan ha)] at hd; cases hd
      rw [add_minus_fin _ _ _ hpl, toldD_num]
end Go.Proofs.Ytpobgkcobgecoab
/- One sample with whole weights, summed in binary64 (as in SWhB, over the program's side alone). -/
namespace Go.Proofs.Ytpobgkcobgecoab
open Go.RowKit
set_option linter.unusedVariables false
set_option linter.unusedSimpArgs false

theorem read_weightq {y : Int} (h0 : y ≤ 268435456) (h1 : -268435456 ≤ y) : ∃ j : Nat, ∃ p : Int, Ieee.double.read (floatOfInt .f64 y) = .number (decide (y < 0)) (y.natAbs * 2 ^ j) p ∧ (y ≠ 0 → p = -(j : Int)) := by
  by_cases hy : y = 0
  · subst hy
    exact ⟨0, -1074, by decide +kernel, fun h => absurd rfl h⟩
  · have hne : y.natAbs ≠ 0 := by omega
    have a0 := Nat.log2_self_le hne
    have a1 : y.natAbs < 2 ^ (y.natAbs.log2 + 1) := Nat.lt_log2_self
    have aL : y.natAbs.log2 ≤ 52 := by
      have := (Nat.log2_lt hne).2 (Nat.lt_of_le_of_lt (show y.natAbs ≤ 268435456 by omega) (show 268435456 < 2 ^ 53 by decide))
      omega
    have e1 : floatOfInt .f64 y = Ieee.double.nearest (decide (y < 0)) y.natAbs 0 := rfl
    generalize y.natAbs.log2 = M at *
    have e2 := nearest_exact (neg := decide (y < 0)) (k := 0) (p := 0) a0 a1 aL (by omega) (by omega)
    rw [Nat.pow_zero, Nat.mul_one] at e2
    have b1 : y.natAbs * 2 ^ (52 - M) < 9007199254740992 := by
      have := Nat.mul_lt_mul_of_pos_right a1 (Nat.two_pow_pos (52 - M))
      rw [← Nat.pow_add, show M + 1 + (52 - M) = 53 by omega] at this
      exact this
    have b0 : 4503599627370496 ≤ y.natAbs * 2 ^ (52 - M) := by
      have := Nat.mul_le_mul_right (2 ^ (52 - M)) a0
      rw [← Nat.pow_add, show M + (52 - M) = 52 by omega] at this
      exact this
    refine ⟨52 - M, 0 + ((0 : Nat) : Int) + M - 52, ?_, fun _ => by omega⟩
    rw [e1, e2, read_wd b0 b1 (by omega) (by omega)]
theorem wideW_casesq (a : Nat) : (nanN a = true ∧ (Ieee.double.read (wideW a)).isNaN = true) ∨ (rung32 a = 2139095040 ∧ Ieee.double.read (wideW a) = .infinity (sgn32 a)) ∨
    (rung32 a < 2139095040 ∧ wideW a = wideN a ∧ ∃ M P, Ieee.double.read (wideW a) = .number (sgn32 a) M P ∧ -1074 ≤ P ∧ Ieee.signed (sgn32 a) M (P + 1074).toNat = sampleZ a) := by
  cases h : nanN a
  · have e : wideW a = wideN a := by unfold wideW; rw [h]; rfl
    have h' := h
    rw [nanN_rung] at h'
    have h' := of_decide_eq_false h'
    rcases Nat.lt_or_ge (rung32 a) 2139095040 with g | g
    · obtain ⟨r, s, v⟩ := wide_fin g
      refine Or.inr (Or.inr ⟨g, e, _, _, by rw [e, read_fin64 r, s], by omega, ?_⟩)
      rw [← s, signed_read, v]
    · exact Or.inr (Or.inl ⟨by omega, by rw [e]; exact wide_read_inf (by omega)⟩)
  · have e : wideW a = 9221120237041090560 := by unfold wideW; rw [h]; rfl
    exact Or.inl ⟨rfl, by rw [e]; decide⟩
theorem signed_eqq (s : Bool) (m k : Nat) : Ieee.signed s m k = if s = true then -((m * 2 ^ k : Nat) : Int) else ((m * 2 ^ k : Nat) : Int) := by
  unfold Ieee.signed; rw [Nat.shiftLeft_eq]

theorem quo_power64q (s : Bool) {m : Nat} (hm : m < 9007199254740992) (p q : Int) : ((Ieee.Datum.number s m p).quotient 54 (.number false 4503599627370496 q)).map Ieee.double.write = some (Ieee.double.word s (rungOf Ieee.double m (p - q - 52))) := by
  have hl2 : (4503599627370496 : Nat).log2 = 52 := by decide
  have hl : m.log2 ≤ 52 := by
    by_cases h0 : m = 0
    · subst h0; decide
    · have := (Nat.log2_lt h0).2 (show m < 2 ^ 53 from hm); omega
  obtain ⟨B, hB⟩ : ∃ B, B = 54 + (4503599627370496 : Nat).log2 - m.log2 := ⟨_, rfl⟩
  have hB1 : 54 ≤ B := by omega
  have em : (Ieee.Datum.number s m p).quotient 54 (.number false 4503599627370496 q) = some (.number (s ^^ false) (2 * ((m <<< B) / 4503599627370496) + ((m <<< B) % 4503599627370496 != 0).toNat) (p - q - (B : Int) - 1)) := by
    rw [hB]; simp [Ieee.Datum.quotient]
  have e1 : m <<< B = m * 2 ^ (B - 52) * 4503599627370496 := by
    rw [Nat.shiftLeft_eq, Nat.mul_assoc, show (4503599627370496 : Nat) = 2 ^ 52 from rfl, ← Nat.pow_add, show B - 52 + 52 = B by omega]
  rw [em, e1, Nat.mul_div_cancel _ (by decide), Nat.mul_mod_left, xor_f]
  show some (Ieee.double.nearest s (2 * (m * 2 ^ (B - 52)) + 0) (p - q - (B : Int) - 1)) = _
  rw [nearest_rung]
  refine congrArg (fun r => some (Ieee.double.word s r)) ?_
  have e2 : 2 * (m * 2 ^ (B - 52)) + 0 = m * 2 ^ (B - 51) := by
    rw [show B - 51 = (B - 52) + 1 by omega, Nat.pow_succ, Nat.add_zero, Nat.mul_comm 2, Nat.mul_assoc]
  rw [e2, rung_scale]
  congr 1; omega
theorem read_65536q : Ieee.double.read 4679240012837945344 = .number false 4503599627370496 (-36) := by decide +kernel
def sizeLq (L : List Int) : Nat := (L.map Int.natAbs).sum
theorem sizeL_consq (v : Int) (t : List Int) : sizeLq (v :: t) = v.natAbs + sizeLq t := by simp [sizeLq]
theorem X_formq {x : Nat} (h : rung32 x < 2139095040) : ∃ m g, (sampleZ x).natAbs = m * 2 ^ g ∧ m < 2 ^ 24 ∧ g ≤ 1178 :=
  ⟨mag32 (rung32 x), plc32 (rung32 x) + 925, signed_abs _ _ _, mag_lt32 _, by have := plc_le32 h; omega⟩
/-- A word of binary64 that is worth k times a sample's X. -/
def IsDq (X k : Int) (W : Nat) : Prop := W < 18446744073709551616 ∧ rung64 W = rungOf Ieee.double (k * X).natAbs (-1074) ∧ (k * X ≠ 0 → sgn64 W = decide (k * X < 0))
theorem word_lt64q (s : Bool) (r : Nat) (h : r ≤ 9218868437227405312) : Ieee.double.word s r < 18446744073709551616 := by
  unfold Ieee.Format.word
  rw [show Ieee.double.signWeight = 9223372036854775808 by decide]
  cases s <;> simp <;> omega
theorem rung_le64'q (M : Nat) (p : Int) : rungOf Ieee.double M p ≤ 9218868437227405312 := rungOf_le _ _ _
theorem IsDq.mk {X k : Int} {s : Bool} (h : k * X ≠ 0 → s = decide (k * X < 0)) : IsDq X k (Ieee.double.word s (rungOf Ieee.double (k * X).natAbs (-1074))) := by
  have hr := rung_le64'q (k * X).natAbs (-1074)
  obtain ⟨h1, h2⟩ := sgn_word64 s (r := rungOf Ieee.double (k * X).natAbs (-1074)) (by omega)
  exact ⟨word_lt64q _ _ hr, h2, fun g => by rw [h1]; exact h g⟩
theorem kX_valq {X k : Int} {m g : Nat} (hX : X.natAbs = m * 2 ^ g) (hm : m < 2 ^ 24) (hg : g ≤ 1178) (hk : k.natAbs ≤ 2 ^ 28) : val64 (rungOf Ieee.double (k * X).natAbs (-1074)) = (k * X).natAbs ∧ rungOf Ieee.double (k * X).natAbs (-1074) < 9218868437227405312 := by
  have e : (k * X).natAbs = k.natAbs * m * 2 ^ g := by rw [Int.natAbs_mul, hX, Nat.mul_assoc]
  have hkm : k.natAbs * m < 2 ^ 53 := Nat.lt_of_le_of_lt (Nat.mul_le_mul hk (Nat.le_of_lt hm)) (by decide)
  have hb : (k * X).natAbs < 2 ^ (53 + g) := by rw [e, Nat.pow_add]; exact Nat.mul_lt_mul_of_pos_right hkm (Nat.two_pow_pos g)
  have hlog : (k * X).natAbs.log2 ≤ 2000 := by
    by_cases h0 : (k * X).natAbs = 0
    · rw [h0]; decide
    · have := (Nat.log2_lt h0).2 hb; omega
  have hv := vN_exact (M := (k * X).natAbs) (g := g) hlog ⟨k.natAbs * m, by rw [e, Nat.mul_comm]⟩ hb
  refine ⟨hv, ?_⟩
  refine val_inj_lt64.1 ?_
  rw [hv]
  refine Nat.lt_of_lt_of_le hb ?_
  show 2 ^ (53 + g) ≤ mag64 9218868437227405312 * 2 ^ plc64 9218868437227405312
  obtain ⟨P, hP, hP2⟩ : ∃ P, plc64 9218868437227405312 = P ∧ 2046 ≤ P := ⟨_, rfl, by decide⟩
  rw [show mag64 9218868437227405312 = 2 ^ 52 by decide, hP, ← Nat.pow_add]
  exact Nat.pow_le_pow_right (by decide) (by omega)
theorem IsDq.sval {X k : Int} {W m g : Nat} (h : IsDq X k W) (hX : X.natAbs = m * 2 ^ g) (hm : m < 2 ^ 24) (hg : g ≤ 1178) (hk : k.natAbs ≤ 2 ^ 28) : rung64 W < 9218868437227405312 ∧ sval64 W = k * X := by
  obtain ⟨hv, hr⟩ := kX_valq hX hm hg hk
  obtain ⟨_, h1, h2⟩ := h
  rw [← h1] at hv hr
  refine ⟨hr, ?_⟩
  unfold sval64
  rw [hv]
  by_cases h0 : k * X = 0
  · rw [h0]; simp
  · rw [h2 h0]
    by_cases hn : k * X < 0
    · rw [if_pos (decide_eq_true hn)]; omega
    · rw [if_neg (by simpa using hn)]; omega
theorem sval_signed64q (a : Nat) : sval64 a = Ieee.signed (sgn64 a) (mag64 (rung64 a)) (plc64 (rung64 a)) := by
  unfold sval64 val64; rw [signed_eqq]
theorem told64_numq (s : Bool) (N : Nat) (b : Int) : told64 (some (.number s N b)) = Ieee.double.word s (rungOf Ieee.double N b) := nearest_rung _ _ _ _
theorem IsDq.add {X a b : Int} {A B m g : Nat} (hA : IsDq X a A) (hB : IsDq X b B) (hX : X.natAbs = m * 2 ^ g) (hm : m < 2 ^ 24) (hg : g ≤ 1178) (ha : a.natAbs ≤ 2 ^ 28) (hb : b.natAbs ≤ 2 ^ 28) : IsDq X (a + b) (add64V A B) := by
  obtain ⟨a1, a2⟩ := hA.sval hX hm hg ha
  obtain ⟨b1, b2⟩ := hB.sval hX hm hg hb
  unfold add64V
  rw [read_fin64 a1, read_fin64 b1]
  obtain ⟨N, c, e1, e2⟩ := sum_units (sgn64 A) (sgn64 B) (mag64 (rung64 A)) (mag64 (rung64 B)) (-1074 + (plc64 (rung64 A) : Int)) (-1074 + (plc64 (rung64 B) : Int)) (by omega) (by omega)
  rw [show (-1074 + (plc64 (rung64 A) : Int) + 1074).toNat = plc64 (rung64 A) by omega, show (-1074 + (plc64 (rung64 B) : Int) + 1074).toNat = plc64 (rung64 B) by omega, ← sval_signed64q, ← sval_signed64q, a2, b2, ← Int.add_mul] at e1 e2
  rw [e1, told64_numq, e2]
  exact IsDq.mk fun h => sg_of h
theorem IsDq.nought (X : Int) : IsDq X 0 9223372036854775808 := by
  refine ⟨by decide, ?_, fun h => absurd (Int.zero_mul X) h⟩
  rw [Int.zero_mul]
  show _ = rungOf Ieee.double 0 (-1074)
  rw [rungOf_zero]
  decide
theorem IsDq.prod {x : Nat} (h : rung32 x < 2139095040) {y : Int} (h0 : y ≤ 268435456) (h1 : -268435456 ≤ y) : IsDq (sampleZ x) y (prodV y x) := by
  obtain ⟨j, p, hr, hp⟩ := read_weightq h0 h1
  rcases wideW_casesq x with ⟨hn, _⟩ | ⟨hi, _⟩ | ⟨_, _, M, P, hw, hP, hs⟩
  · rw [nanN_rung] at hn; have := of_decide_eq_true hn; omega
  · omega
  · unfold prodV
    rw [hr, hw]
    have he : (Ieee.Datum.number (decide (y < 0)) (y.natAbs * 2 ^ j) p).product (.number (sgn32 x) M P) = some (.number (decide (y < 0) ^^ sgn32 x) (y.natAbs * 2 ^ j * M) (p + P)) := rfl
    rw [he, told64_numq]
    have hX : (sampleZ x).natAbs = M * 2 ^ (P + 1074).toNat := by rw [← hs]; exact signed_abs _ _ _
    have hrung : rungOf Ieee.double (y.natAbs * 2 ^ j * M) (p + P) = rungOf Ieee.double (y * sampleZ x).natAbs (-1074) := by
      rw [Int.natAbs_mul, hX]
      by_cases hy : y = 0
      · subst hy; simp [rungOf_zero]
      · rw [hp hy, show y.natAbs * 2 ^ j * M = y.natAbs * M * 2 ^ j by rw [Nat.mul_assoc, Nat.mul_comm (2 ^ j), ← Nat.mul_assoc], rung_scale, ← Nat.mul_assoc, rung_scale]
        congr 1
        omega
    rw [hrung]
    refine IsDq.mk fun hne => ?_
    have hs0 : sampleZ x ≠ 0 := fun e => hne (by rw [e, Int.mul_zero])
    have hy0 : y ≠ 0 := fun e => hne (by rw [e, Int.zero_mul])
    have hsx : sgn32 x = decide (sampleZ x < 0) := signed_sign (s := sgn32 x) (m := mag32 (rung32 x)) (k := plc32 (rung32 x) + 925) hs0
    rw [hsx]
    generalize sampleZ x = X at *
    rcases Int.lt_trichotomy y 0 with g | g | g
    · rcases Int.lt_trichotomy X 0 with k | k | k
      · have := Int.mul_pos_of_neg_of_neg g k
        rw [decide_eq_true g, decide_eq_true k, decide_eq_false (by omega)]; rfl
      · exact absurd k hs0
      · have := Int.mul_neg_of_neg_of_pos g k
        rw [decide_eq_true g, decide_eq_false (by omega), decide_eq_true this]; rfl
    · exact absurd g hy0
    · rcases Int.lt_trichotomy X 0 with k | k | k
      · have := Int.mul_neg_of_pos_of_neg g k
        rw [decide_eq_false (by omega), decide_eq_true k, decide_eq_true this]; rfl
      · exact absurd k hs0
      · have := Int.mul_pos g k
        rw [decide_eq_false (by omega), decide_eq_false (by omega), decide_eq_false (by omega)]; rfl
theorem IsDq.same {X k : Int} {A B : Nat} (hA : IsDq X k A) (hB : IsDq X k B) : A = B ∨ (A % 9223372036854775808 = 0 ∧ B % 9223372036854775808 = 0) := by
  obtain ⟨a0, a1, a2⟩ := hA
  obtain ⟨b0, b1, b2⟩ := hB
  have hr : A % 9223372036854775808 = B % 9223372036854775808 := a1.trans b1.symm
  by_cases h : k * X = 0
  · right
    rw [h, show (0 : Int).natAbs = 0 from rfl, rungOf_zero] at a1 b1
    exact ⟨a1, b1⟩
  · left
    have hs := (a2 h).trans (b2 h).symm
    unfold sgn64 at hs
    have hA2 : A / 9223372036854775808 % 2 = A / 9223372036854775808 := by omega
    have hB2 : B / 9223372036854775808 % 2 = B / 9223372036854775808 := by omega
    rw [hA2, hB2] at hs
    have : A / 9223372036854775808 = B / 9223372036854775808 := by
      have hA3 : A / 9223372036854775808 = 0 ∨ A / 9223372036854775808 = 1 := by omega
      have hB3 : B / 9223372036854775808 = 0 ∨ B / 9223372036854775808 = 1 := by omega
      rcases hA3 with e | e <;> rcases hB3 with f | f <;> rw [e, f] at hs ⊢ <;> first | rfl | (exact absurd hs (by decide))
    omega
theorem fold_Dq {X : Int} {m g : Nat} (hX : X.natAbs = m * 2 ^ g) (hm : m < 2 ^ 24) (hg : g ≤ 1178) : ∀ (l : List (Int × Nat)) (z : Int) (A : Nat), IsDq X z A → (∀ p ∈ l, IsDq X p.1 p.2) → z.natAbs + sizeLq (l.map Prod.fst) ≤ 2 ^ 28 → IsDq X (z + (l.map Prod.fst).sum) ((l.map Prod.snd).foldl add64V A)
  | [], z, A, hA, _, _ => by simpa using hA
  | p :: t, z, A, hA, hl, hs => by
    rw [List.map_cons, sizeL_consq] at hs
    rw [List.map_cons, List.map_cons, List.foldl_cons, List.sum_cons, ← Int.add_assoc]
    exact fold_Dq hX hm hg t (z + p.1) _ (hA.add (hl p (List.mem_cons_self ..)) hX hm hg (by omega) (by omega)) (fun q hq => hl q (List.mem_cons_of_mem _ hq)) (by omega)
theorem dot_Dq {x : Nat} (hx : rung32 x < 2139095040) {W : List Int} (hs : sizeLq W ≤ 2 ^ 28) (hb : ∀ y ∈ W, y.natAbs ≤ 268435456) : IsDq (sampleZ x) W.sum (dotF (prods W (List.replicate W.length x))) := by
  obtain ⟨m, g, h1, h2, h3⟩ := X_formq hx
  have e : prods W (List.replicate W.length x) = W.map fun y => prodV y x := by
    refine List.ext_getElem? fun i => ?_
    rcases Nat.lt_or_ge i W.length with h | h
    · have hp := prods_at W (List.replicate W.length x) (i := i) (by simp; exact h)
      have hl : i < (prods W (List.replicate W.length x)).length := by rw [prods_length]; simp; exact h
      rw [List.getD_eq_getElem?_getD, List.getElem?_eq_getElem hl] at hp
      rw [List.getElem?_eq_getElem hl, List.getElem?_map, List.getElem?_eq_getElem h]
      simp only [Option.getD_some, Option.map_some] at hp ⊢
      rw [hp, List.getD_eq_getElem?_getD, List.getElem?_eq_getElem h, List.getD_eq_getElem?_getD, List.getElem?_replicate, if_pos h]
      rfl
    · rw [List.getElem?_eq_none (by rw [prods_length]; simp; exact h), List.getElem?_eq_none (by simp; exact h)]
  rw [e]
  unfold dotF
  cases W with
  | nil =>
    rw [if_pos (show List.map (fun y => prodV y x) [] = [] from rfl)]
    refine ⟨by decide, ?_, fun h => absurd (Int.zero_mul _) h⟩
    show rung64 0 = rungOf Ieee.double (0 * sampleZ x).natAbs (-1074)
    rw [Int.zero_mul, show (0 : Int).natAbs = 0 from rfl, rungOf_zero]
    decide
  | cons y t =>
    rw [if_neg (by simp)]
    have := fold_Dq h1 h2 h3 ((y :: t).map fun y => (y, prodV y x)) 0 9223372036854775808 (IsDq.nought _) (fun p hp => by
      obtain ⟨z, hz, rfl⟩ := List.mem_map.1 hp
      have := hb z hz
      exact IsDq.prod hx (by omega) (by omega)) (by rw [List.map_map]; show 0 + sizeLq ((y :: t).map fun z => z) ≤ _; rw [List.map_id', Nat.zero_add]; exact hs)
    rw [List.map_map, List.map_map, Int.zero_add] at this
    have e1 : (y :: t).map (Prod.fst ∘ fun y => (y, prodV y x)) = y :: t := by
      show (y :: t).map (fun z => z) = _
      exact List.map_id' _
    rw [e1] at this
    exact this
end Go.Proofs.Ytpobgkcobgecoab

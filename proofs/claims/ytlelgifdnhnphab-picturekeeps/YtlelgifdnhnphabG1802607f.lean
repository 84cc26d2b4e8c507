/- Plain facts: the program's product and sum in binary64, the sum made odd, made narrow: the exact number rounded once. -/
import Derived.Test.YtlelgifdnhnphabGef72ce2b
import Derived.Test.YtlelgifdnhnphabGe90d8e83
namespace Go.Proofs.Ytlelgifdnhnphab
open Go.RowKit

/-- A finite sample in least units of binary64. -/
def sampleZ (a : Nat) : Int := Ieee.signed (sgn32 a) (mag32 (rung32 a)) (plc32 (rung32 a) + 925)
theorem signed_abs (s : Bool) (m k : Nat) : (Ieee.signed s m k).natAbs = m * 2 ^ k := by
  unfold Ieee.signed; rw [Nat.shiftLeft_eq]; split <;> omega
theorem signed_sign {s : Bool} {m k : Nat} (h : Ieee.signed s m k ≠ 0) : s = decide (Ieee.signed s m k < 0) := by
  unfold Ieee.signed at *; rw [Nat.shiftLeft_eq] at *
  cases s
  · simp only [Bool.false_eq_true, if_false]; rw [decide_eq_false (by omega)]
  · simp only [if_true] at *; rw [decide_eq_true (by omega)]
theorem signed_dvd (s : Bool) (m : Nat) {k g : Nat} (h : g ≤ k) : ((2 ^ g : Nat) : Int) ∣ Ieee.signed s m k := by
  rw [Int.ofNat_dvd_left, signed_abs]
  exact Nat.dvd_trans (Nat.pow_dvd_pow 2 h) (Nat.dvd_mul_left _ _)
theorem cap_units {m k e : Nat} (hm : m < 2 ^ e) (h : k + e ≤ 1990) : m * 2 ^ k < 2 ^ capJ := by
  have h1 : m * 2 ^ k < 2 ^ e * 2 ^ k := Nat.mul_lt_mul_of_pos_right hm (Nat.two_pow_pos _)
  rw [← Nat.pow_add] at h1
  exact Nat.lt_of_lt_of_le h1 (Nat.pow_le_pow_right (by decide) (by unfold capJ; omega))
theorem units_log {n : Nat} (h : n < 2 ^ capJ) : n.log2 ≤ 2000 := cap_log (by omega)
/-- A whole number of few digits, in least units, is a word as it is. -/
theorem units_word {s : Bool} {m k : Nat} (hm : m < 2 ^ 53) (hk : k ≤ 1900) :
    rung64 (wordOf s (Ieee.signed s m k)) < 9218868437227405312 ∧ sgn64 (wordOf s (Ieee.signed s m k)) = s ∧ sval64 (wordOf s (Ieee.signed s m k)) = Ieee.signed s m k := by
  have hl : (Ieee.signed s m k).natAbs.log2 ≤ 2000 := by rw [signed_abs]; exact units_log (cap_units hm (by omega))
  obtain ⟨a, b, c, d⟩ := wordOf_facts (σ := s) hl signed_sign
  refine ⟨c, b, ?_⟩
  rw [d]
  refine RN_exact hl (signed_dvd s m (Nat.le_refl k)) ?_
  rw [signed_abs, Nat.pow_add]
  exact Nat.mul_lt_mul_of_pos_right hm (Nat.two_pow_pos _)
theorem plc_le32 {a : Nat} (h : rung32 a < 2139095040) : plc32 (rung32 a) ≤ 253 := by unfold plc32; omega
theorem wide_units {a : Nat} (h : rung32 a < 2139095040) : wideN a = wordOf (sgn32 a) (sampleZ a) := by
  unfold wideN wordOf sampleZ
  rw [read_fin32 h]
  show Ieee.double.nearest _ _ _ = _
  rw [nearest_rung, signed_abs, rung_scale, show (-1074 : Int) + ((plc32 (rung32 a) + 925 : Nat) : Int) = -149 + (plc32 (rung32 a) : Int) by omega]
theorem wide_fin {a : Nat} (h : rung32 a < 2139095040) : rung64 (wideN a) < 9218868437227405312 ∧ sgn64 (wideN a) = sgn32 a ∧ sval64 (wideN a) = sampleZ a := by
  rw [wide_units h]
  have hp := plc_le32 h
  have hm := mag_lt32 (rung32 a)
  exact units_word (by omega) (by omega)
theorem val_abs (x : Nat) : (sval64 x).natAbs = val64 (rung64 x) := by unfold sval64; split <;> omega

/-- A product of two samples in least units. -/
def prodZ (a b : Nat) : Int := Ieee.signed (sgn32 a ^^ sgn32 b) (mag32 (rung32 a) * mag32 (rung32 b)) (plc32 (rung32 a) + plc32 (rung32 b) + 776)
theorem prod_lt (a b : Nat) : mag32 (rung32 a) * mag32 (rung32 b) < 2 ^ 48 := by
  have h1 := mag_lt32 (rung32 a)
  have h2 := mag_lt32 (rung32 b)
  have a1 : mag32 (rung32 a) * mag32 (rung32 b) ≤ 16777215 * mag32 (rung32 b) := Nat.mul_le_mul_right _ (by omega)
  omega
theorem prod_units {a b : Nat} (ha : rung32 a < 2139095040) (hb : rung32 b < 2139095040) : floatBits .mul .f64 (wideN a) (wideN b) = some (wordOf (sgn32 a ^^ sgn32 b) (prodZ a b)) := by
  obtain ⟨r1, s1, v1⟩ := wide_fin ha
  obtain ⟨r2, s2, v2⟩ := wide_fin hb
  show ((Ieee.double.read (wideN a)).product (Ieee.double.read (wideN b))).map Ieee.double.write = _
  rw [read_fin64 r1, read_fin64 r2, s1, s2]
  show some (Ieee.double.nearest _ _ _) = _
  rw [nearest_rung]
  unfold wordOf prodZ
  rw [signed_abs]
  have w1 : mag64 (rung64 (wideN a)) * 2 ^ plc64 (rung64 (wideN a)) = mag32 (rung32 a) * 2 ^ (plc32 (rung32 a) + 925) := by
    have := val_abs (wideN a)
    rw [v1] at this
    unfold sampleZ at this
    rw [signed_abs] at this
    exact this.symm
  have w2 : mag64 (rung64 (wideN b)) * 2 ^ plc64 (rung64 (wideN b)) = mag32 (rung32 b) * 2 ^ (plc32 (rung32 b) + 925) := by
    have := val_abs (wideN b)
    rw [v2] at this
    unfold sampleZ at this
    rw [signed_abs] at this
    exact this.symm
  obtain ⟨E, hE⟩ : ∃ E : Nat, E = 1074 := ⟨_, rfl⟩
  have e : mag64 (rung64 (wideN a)) * mag64 (rung64 (wideN b)) * 2 ^ (plc64 (rung64 (wideN a)) + plc64 (rung64 (wideN b))) = mag32 (rung32 a) * mag32 (rung32 b) * 2 ^ (plc32 (rung32 a) + plc32 (rung32 b) + 776) * 2 ^ E := by
    have a1 : mag64 (rung64 (wideN a)) * mag64 (rung64 (wideN b)) * 2 ^ (plc64 (rung64 (wideN a)) + plc64 (rung64 (wideN b))) = (mag64 (rung64 (wideN a)) * 2 ^ plc64 (rung64 (wideN a))) * (mag64 (rung64 (wideN b)) * 2 ^ plc64 (rung64 (wideN b))) := by
      rw [Nat.pow_add, Nat.mul_mul_mul_comm]
    rw [a1, w1, w2, Nat.mul_mul_mul_comm, ← Nat.pow_add, Nat.mul_assoc (mag32 (rung32 a) * mag32 (rung32 b)), ← Nat.pow_add]
    congr 2; omega
  have k1 := rung_scale Ieee.double (mag64 (rung64 (wideN a)) * mag64 (rung64 (wideN b))) (plc64 (rung64 (wideN a)) + plc64 (rung64 (wideN b))) (-2148)
  rw [e, rung_scale, show (-2148 : Int) + (E : Int) = -1074 by omega] at k1
  have e4 : (-1074 : Int) + (plc64 (rung64 (wideN a)) : Int) + (-1074 + (plc64 (rung64 (wideN b)) : Int)) = -2148 + ((plc64 (rung64 (wideN a)) + plc64 (rung64 (wideN b)) : Nat) : Int) := by omega
  rw [e4, ← k1]

theorem rung_pos {M : Nat} (h : M ≠ 0) : 0 < rne M (lostK M) := by
  rcases Nat.eq_zero_or_pos (lostK M) with g | g
  · rw [g, rne_zero]; omega
  · have := (kept_bd (M := M)).2 g; omega
theorem stick_bd {M : Nat} (hK : 0 < lostK M) : 4503599627370496 ≤ stick M (lostK M + 1) ∧ stick M (lostK M + 1) ≤ 9007199254740992 := by
  have h0 : M ≠ 0 := by intro h0; subst h0; exact absurd hK (by decide)
  have h1 := Nat.log2_self_le h0
  have h2 : M < 2 ^ (M.log2 + 1) := Nat.lt_log2_self
  have e : M.log2 = 52 + lostK M := by unfold lostK at *; omega
  rw [e] at h1 h2
  have a1 : 2 ^ 51 ≤ M / 2 ^ (lostK M + 1) := by
    rw [Nat.le_div_iff_mul_le (Nat.two_pow_pos _), ← Nat.pow_add, show 51 + (lostK M + 1) = 52 + lostK M by omega]; exact h1
  have a2 : M / 2 ^ (lostK M + 1) < 2 ^ 52 := by
    rw [Nat.div_lt_iff_lt_mul (Nat.two_pow_pos _), ← Nat.pow_add, show 52 + (lostK M + 1) = 52 + lostK M + 1 by omega]; exact h2
  unfold stick
  split <;> omega
/-- The sum made odd, as a word. -/
theorem odd_word {σ : Bool} {Z : Int} {l : Nat} (hZ : Z.natAbs.log2 ≤ 2000) (h0 : Z ≠ 0) (hσ : σ = decide (Z < 0)) (hl : rung64 l < 9218868437227405312) (vl : sval64 l = Z - RN Z) :
    ∃ R, oddV (wordOf σ Z) l = Ieee.double.word σ R ∧ R < 9218868437227405312 ∧ rungOf Ieee.single (val64 R) (-1074) = rungOf Ieee.single Z.natAbs (-1074) := by
  obtain ⟨f1, f2, f3, f4⟩ := wordOf_facts (σ := σ) hZ (fun _ => hσ)
  obtain ⟨M, hM⟩ : ∃ M, M = Z.natAbs := ⟨_, rfl⟩
  have hM0 : M ≠ 0 := by omega
  have hR := RN_abs Z
  rw [← hM] at hZ hR
  rw [vN_eq hZ] at hR
  have hsg : RN Z < 0 ↔ Z < 0 := by
    unfold RN
    rw [← hM, vN_eq hZ]
    have := Nat.mul_pos (rung_pos hM0) (Nat.two_pow_pos (lostK M))
    generalize rne M (lostK M) * 2 ^ lostK M = V at this
    split <;> omega
  have hc := kept_bd (M := M)
  have hc0 := rung_pos hM0
  have es : wordOf σ Z = σ.toNat * 9223372036854775808 + (lostK M * 4503599627370496 + rne M (lostK M)) := by
    unfold wordOf
    rw [← hM, word64, rung64_eq hZ]
  have hst := odd_stick M
  have eo : oddV (wordOf σ Z) l = σ.toNat * 9223372036854775808 + (lostK M * 4503599627370496 + (if rne M (lostK M) % 2 = 1 ∨ rne M (lostK M) * 2 ^ lostK M = M then rne M (lostK M) else if rne M (lostK M) * 2 ^ lostK M < M then rne M (lostK M) + 1 else rne M (lostK M) - 1)) := by
    unfold oddV
    have c1 : (wordOf σ Z % 2 = 1 ∨ rung64 l = 0) ↔ (rne M (lostK M) % 2 = 1 ∨ rne M (lostK M) * 2 ^ lostK M = M) := by
      have d1 : wordOf σ Z % 2 = 1 ↔ rne M (lostK M) % 2 = 1 := by rw [es]; omega
      have d2 : rung64 l = 0 ↔ rne M (lostK M) * 2 ^ lostK M = M := by
        rw [← sval_zero, vl]
        generalize rne M (lostK M) * 2 ^ lostK M = V at hR
        omega
      rw [d1, d2]
    by_cases h1 : rne M (lostK M) % 2 = 1 ∨ rne M (lostK M) * 2 ^ lostK M = M
    · rw [if_pos (c1.2 h1), if_pos h1, es]
    · rw [if_neg (fun h => h1 (c1.1 h)), if_neg h1]
      have c2 : ((Ieee.double.order l 0 == some Ordering.lt) = (Ieee.double.order (wordOf σ Z) 0 == some Ordering.lt)) ↔ rne M (lostK M) * 2 ^ lostK M < M := by
        rw [order_neg hl, order_neg f3, vl, f4, decide_eq_decide]
        have h2 : ¬ rne M (lostK M) * 2 ^ lostK M = M := fun h => h1 (Or.inr h)
        generalize rne M (lostK M) * 2 ^ lostK M = V at hR h2
        omega
      by_cases h3 : rne M (lostK M) * 2 ^ lostK M < M
      · rw [if_pos (c2.2 h3), if_pos h3, es]; omega
      · rw [if_neg (fun h => h3 (c2.1 h)), if_neg h3, es]; omega
  rw [hst] at eo
  have hk : lostK M ≤ 1948 := by unfold lostK; omega
  rcases Nat.eq_zero_or_pos (lostK M) with g | g
  · have e1 : stick M (lostK M + 1) = M := by
      rw [g]; unfold stick
      rw [show 0 + 1 = 1 from rfl, Nat.pow_one]
      split <;> omega
    have hb : M ≤ 9007199254740992 := by
      have h2 : M < 2 ^ (M.log2 + 1) := Nat.lt_log2_self
      have : 2 ^ (M.log2 + 1) ≤ 2 ^ 53 := Nat.pow_le_pow_right (by decide) (by unfold lostK at g; omega)
      omega
    refine ⟨lostK M * 4503599627370496 + stick M (lostK M + 1), ?_, ?_, ?_⟩
    · rw [eo, word64]
    · rw [e1]; omega
    · rw [e1, val_of hb (by omega), g, Nat.pow_zero, Nat.mul_one, hM]
  · obtain ⟨s1, s2⟩ := stick_bd g
    refine ⟨lostK M * 4503599627370496 + stick M (lostK M + 1), ?_, ?_, ?_⟩
    · rw [eo, word64]
    · omega
    · rw [val_of s2 (fun _ => s1), stick_rung hZ g, hM]
end Go.Proofs.Ytlelgifdnhnphab
/- What package arith's Fma returns: of numbers without an answer, and of others by its steps in binary64; what was in memory stays as it was. -/
namespace Go.Proofs.Ytlelgifdnhnphab
open Go.RowKit

theorem go_mul1 (a : Nat) (u : World) (y : Nat) (w : World) : (binOp .mul 37 (.float .f64 (nanc .f64 a u)) (.float .f64 y)).run Try.prog w = .ok (.float .f64 (nanw .f64 (nanc .f64 a u) y w)) w.drew :=
  run_arith_none .mul (by simp) 37 .f64 _ y (mul_nan1 (nanc64 a u).1 y) Try.prog w
theorem go_mul2 (a : Nat) (u : World) (x : Nat) (w : World) : (binOp .mul 37 (.float .f64 x) (.float .f64 (nanc .f64 a u))).run Try.prog w = .ok (.float .f64 (nanw .f64 x (nanc .f64 a u) w)) w.drew :=
  run_arith_none .mul (by simp) 37 .f64 x _ (mul_nan2 (nanc64 a u).1 x) Try.prog w
theorem wide_nan {a : Nat} (h : nanN a = true) (w : World) : (convert 59 37 (.float .f32 a)).run Try.prog w = .ok (.float .f64 (nanc .f64 a w)) w.drew :=
  run_conv_nan (P := Try.prog) 59 37 .f32 .f64 a (by decide) (by kernel_rfl) Try.underlying37 (read32_nan h) w
theorem wide_num {a : Nat} (h : nanN a = false) (w : World) : (convert 59 37 (.float .f32 a)).run Try.prog w = .ok (.float .f64 (wideN a)) w :=
  run_convert_float_float (P := Try.prog) w 59 37 .f32 .f64 a _ (by kernel_rfl) Try.underlying37 (wide_conv h)

set_option maxHeartbeats 800000 in
theorem fma_nnn (a b c : Nat) (ha : nanN a = true) (hb : nanN b = true) (hc : nanN c = true) (w : World) :
    Calls Try.prog 33 #[.int .u32 (a : Int), .int .u32 (b : Int), .int .u32 (c : Int)] w fun e w' => e = .returned (.int .u32 (2143289344 : Nat)) ∧ Q w w' := by
  have l0 := same64
  have la := fun w => wide_nan ha w
  have lb := fun w => wide_nan hb w
  have lc := fun w => wide_nan hc w
  have lm := go_mul1
  clear ha hb hc
  go_enter Try.func33, Try.ntmps33
  go_wp2_with fail
  refine (number_any a _).mono ?_
  rintro e w1 ⟨rfl, rfl⟩
  go_wp2_with fail
  refine (number_any b _).mono ?_
  rintro e w1 ⟨rfl, rfl⟩
  go_wp2_with fail
  refine (number_any c _).mono ?_
  rintro e w1 ⟨rfl, rfl⟩
  go_wp2_with fail
  refine (odd_nan _ _ (add_nan1 (nanw64 _ _ _).1 _) _).mono ?_
  rintro e w2 ⟨z, rfl, hz, q2⟩
  go_wp2_with fail
  refine (narrowed_any z _).mono ?_
  rintro e w3 ⟨rfl, q3⟩
  go_wp2_with fail
  go_ret
  exact ⟨ret_int (by rw [nar_nan hz]), ((Q.refl _).drew.drew.drew.drew.trans q2).trans q3⟩

set_option maxHeartbeats 800000 in
theorem fma_nnf (a b c : Nat) (ha : nanN a = true) (hb : nanN b = true) (hc : nanN c = false) (w : World) :
    Calls Try.prog 33 #[.int .u32 (a : Int), .int .u32 (b : Int), .int .u32 (c : Int)] w fun e w' => e = .returned (.int .u32 (2143289344 : Nat)) ∧ Q w w' := by
  have l0 := same64
  have la := fun w => wide_nan ha w
  have lb := fun w => wide_nan hb w
  have lc := fun w => wide_num hc w
  have lm := go_mul1
  clear ha hb hc
  go_enter Try.func33, Try.ntmps33
  go_wp2_with fail
  refine (number_any a _).mono ?_
  rintro e w1 ⟨rfl, rfl⟩
  go_wp2_with fail
  refine (number_any b _).mono ?_
  rintro e w1 ⟨rfl, rfl⟩
  go_wp2_with fail
  refine (number_any c _).mono ?_
  rintro e w1 ⟨rfl, rfl⟩
  go_wp2_with fail
  refine (odd_nan _ _ (add_nan1 (nanw64 _ _ _).1 _) _).mono ?_
  rintro e w2 ⟨z, rfl, hz, q2⟩
  go_wp2_with fail
  refine (narrowed_any z _).mono ?_
  rintro e w3 ⟨rfl, q3⟩
  go_wp2_with fail
  go_ret
  exact ⟨ret_int (by rw [nar_nan hz]), ((Q.refl _).drew.drew.drew.trans q2).trans q3⟩

set_option maxHeartbeats 800000 in
theorem fma_nfn (a b c : Nat) (ha : nanN a = true) (hb : nanN b = false) (hc : nanN c = true) (w : World) :
    Calls Try.prog 33 #[.int .u32 (a : Int), .int .u32 (b : Int), .int .u32 (c : Int)] w fun e w' => e = .returned (.int .u32 (2143289344 : Nat)) ∧ Q w w' := by
  have l0 := same64
  have la := fun w => wide_nan ha w
  have lb := fun w => wide_num hb w
  have lc := fun w => wide_nan hc w
  have lm := go_mul1
  clear ha hb hc
  go_enter Try.func33, Try.ntmps33
  go_wp2_with fail
  refine (number_any a _).mono ?_
  rintro e w1 ⟨rfl, rfl⟩
  go_wp2_with fail
  refine (number_any b _).mono ?_
  rintro e w1 ⟨rfl, rfl⟩
  go_wp2_with fail
  refine (number_any c _).mono ?_
  rintro e w1 ⟨rfl, rfl⟩
  go_wp2_with fail
  refine (odd_nan _ _ (add_nan1 (nanw64 _ _ _).1 _) _).mono ?_
  rintro e w2 ⟨z, rfl, hz, q2⟩
  go_wp2_with fail
  refine (narrowed_any z _).mono ?_
  rintro e w3 ⟨rfl, q3⟩
  go_wp2_with fail
  go_ret
  exact ⟨ret_int (by rw [nar_nan hz]), ((Q.refl _).drew.drew.drew.trans q2).trans q3⟩

set_option maxHeartbeats 800000 in
theorem fma_nff (a b c : Nat) (ha : nanN a = true) (hb : nanN b = false) (hc : nanN c = false) (w : World) :
    Calls Try.prog 33 #[.int .u32 (a : Int), .int .u32 (b : Int), .int .u32 (c : Int)] w fun e w' => e = .returned (.int .u32 (2143289344 : Nat)) ∧ Q w w' := by
  have l0 := same64
  have la := fun w => wide_nan ha w
  have lb := fun w => wide_num hb w
  have lc := fun w => wide_num hc w
  have lm := go_mul1
  clear ha hb hc
  go_enter Try.func33, Try.ntmps33
  go_wp2_with fail
  refine (number_any a _).mono ?_
  rintro e w1 ⟨rfl, rfl⟩
  go_wp2_with fail
  refine (number_any b _).mono ?_
  rintro e w1 ⟨rfl, rfl⟩
  go_wp2_with fail
  refine (number_any c _).mono ?_
  rintro e w1 ⟨rfl, rfl⟩
  go_wp2_with fail
  refine (odd_nan _ _ (add_nan1 (nanw64 _ _ _).1 _) _).mono ?_
  rintro e w2 ⟨z, rfl, hz, q2⟩
  go_wp2_with fail
  refine (narrowed_any z _).mono ?_
  rintro e w3 ⟨rfl, q3⟩
  go_wp2_with fail
  go_ret
  exact ⟨ret_int (by rw [nar_nan hz]), ((Q.refl _).drew.drew.trans q2).trans q3⟩

set_option maxHeartbeats 800000 in
theorem fma_fnn (a b c : Nat) (ha : nanN a = false) (hb : nanN b = true) (hc : nanN c = true) (w : World) :
    Calls Try.prog 33 #[.int .u32 (a : Int), .int .u32 (b : Int), .int .u32 (c : Int)] w fun e w' => e = .returned (.int .u32 (2143289344 : Nat)) ∧ Q w w' := by
  have l0 := same64
  have la := fun w => wide_num ha w
  have lb := fun w => wide_nan hb w
  have lc := fun w => wide_nan hc w
  have lm := go_mul2
  clear ha hb hc
  go_enter Try.func33, Try.ntmps33
  go_wp2_with fail
  refine (number_any a _).mono ?_
  rintro e w1 ⟨rfl, rfl⟩
  go_wp2_with fail
  refine (number_any b _).mono ?_
  rintro e w1 ⟨rfl, rfl⟩
  go_wp2_with fail
  refine (number_any c _).mono ?_
  rintro e w1 ⟨rfl, rfl⟩
  go_wp2_with fail
  refine (odd_nan _ _ (add_nan1 (nanw64 _ _ _).1 _) _).mono ?_
  rintro e w2 ⟨z, rfl, hz, q2⟩
  go_wp2_with fail
  refine (narrowed_any z _).mono ?_
  rintro e w3 ⟨rfl, q3⟩
  go_wp2_with fail
  go_ret
  exact ⟨ret_int (by rw [nar_nan hz]), ((Q.refl _).drew.drew.drew.trans q2).trans q3⟩

set_option maxHeartbeats 800000 in
theorem fma_fnf (a b c : Nat) (ha : nanN a = false) (hb : nanN b = true) (hc : nanN c = false) (w : World) :
    Calls Try.prog 33 #[.int .u32 (a : Int), .int .u32 (b : Int), .int .u32 (c : Int)] w fun e w' => e = .returned (.int .u32 (2143289344 : Nat)) ∧ Q w w' := by
  have l0 := same64
  have la := fun w => wide_num ha w
  have lb := fun w => wide_nan hb w
  have lc := fun w => wide_num hc w
  have lm := go_mul2
  clear ha hb hc
  go_enter Try.func33, Try.ntmps33
  go_wp2_with fail
  refine (number_any a _).mono ?_
  rintro e w1 ⟨rfl, rfl⟩
  go_wp2_with fail
  refine (number_any b _).mono ?_
  rintro e w1 ⟨rfl, rfl⟩
  go_wp2_with fail
  refine (number_any c _).mono ?_
  rintro e w1 ⟨rfl, rfl⟩
  go_wp2_with fail
  refine (odd_nan _ _ (add_nan1 (nanw64 _ _ _).1 _) _).mono ?_
  rintro e w2 ⟨z, rfl, hz, q2⟩
  go_wp2_with fail
  refine (narrowed_any z _).mono ?_
  rintro e w3 ⟨rfl, q3⟩
  go_wp2_with fail
  go_ret
  exact ⟨ret_int (by rw [nar_nan hz]), ((Q.refl _).drew.drew.trans q2).trans q3⟩

set_option maxHeartbeats 800000 in
theorem fma_pn (a b c : Nat) (ha : nanN a = false) (hb : nanN b = false) (hc : nanN c = true) (hm : floatBits .mul .f64 (wideN a) (wideN b) = none) (w : World) :
    Calls Try.prog 33 #[.int .u32 (a : Int), .int .u32 (b : Int), .int .u32 (c : Int)] w fun e w' => e = .returned (.int .u32 (2143289344 : Nat)) ∧ Q w w' := by
  have l0 := same64
  have la := fun w => wide_num ha w
  have lb := fun w => wide_num hb w
  have lc := fun w => wide_nan hc w
  have lm := fun w => run_arith_none .mul (by simp) 37 .f64 _ _ hm Try.prog w
  clear ha hb hc hm
  go_enter Try.func33, Try.ntmps33
  go_wp2_with fail
  refine (number_any a _).mono ?_
  rintro e w1 ⟨rfl, rfl⟩
  go_wp2_with fail
  refine (number_any b _).mono ?_
  rintro e w1 ⟨rfl, rfl⟩
  go_wp2_with fail
  refine (number_any c _).mono ?_
  rintro e w1 ⟨rfl, rfl⟩
  go_wp2_with fail
  refine (odd_nan _ _ (add_nan1 (nanw64 _ _ _).1 _) _).mono ?_
  rintro e w2 ⟨z, rfl, hz, q2⟩
  go_wp2_with fail
  refine (narrowed_any z _).mono ?_
  rintro e w3 ⟨rfl, q3⟩
  go_wp2_with fail
  go_ret
  exact ⟨ret_int (by rw [nar_nan hz]), ((Q.refl _).drew.drew.trans q2).trans q3⟩

set_option maxHeartbeats 800000 in
theorem fma_pf (a b c : Nat) (ha : nanN a = false) (hb : nanN b = false) (hc : nanN c = false) (hm : floatBits .mul .f64 (wideN a) (wideN b) = none) (w : World) :
    Calls Try.prog 33 #[.int .u32 (a : Int), .int .u32 (b : Int), .int .u32 (c : Int)] w fun e w' => e = .returned (.int .u32 (2143289344 : Nat)) ∧ Q w w' := by
  have l0 := same64
  have la := fun w => wide_num ha w
  have lb := fun w => wide_num hb w
  have lc := fun w => wide_num hc w
  have lm := fun w => run_arith_none .mul (by simp) 37 .f64 _ _ hm Try.prog w
  clear ha hb hc hm
  go_enter Try.func33, Try.ntmps33
  go_wp2_with fail
  refine (number_any a _).mono ?_
  rintro e w1 ⟨rfl, rfl⟩
  go_wp2_with fail
  refine (number_any b _).mono ?_
  rintro e w1 ⟨rfl, rfl⟩
  go_wp2_with fail
  refine (number_any c _).mono ?_
  rintro e w1 ⟨rfl, rfl⟩
  go_wp2_with fail
  refine (odd_nan _ _ (add_nan1 (nanw64 _ _ _).1 _) _).mono ?_
  rintro e w2 ⟨z, rfl, hz, q2⟩
  go_wp2_with fail
  refine (narrowed_any z _).mono ?_
  rintro e w3 ⟨rfl, q3⟩
  go_wp2_with fail
  go_ret
  exact ⟨ret_int (by rw [nar_nan hz]), ((Q.refl _).drew.trans q2).trans q3⟩

set_option maxHeartbeats 800000 in
theorem fma_sn (a b c : Nat) (p : Nat) (ha : nanN a = false) (hb : nanN b = false) (hc : nanN c = true) (hm : floatBits .mul .f64 (wideN a) (wideN b) = some p) (w : World) :
    Calls Try.prog 33 #[.int .u32 (a : Int), .int .u32 (b : Int), .int .u32 (c : Int)] w fun e w' => e = .returned (.int .u32 (2143289344 : Nat)) ∧ Q w w' := by
  have l0 := same64
  have la := fun w => wide_num ha w
  have lb := fun w => wide_num hb w
  have lc := fun w => wide_nan hc w
  have lm := fun w => run_float_arith (P := Try.prog) w .mul 37 .f64 _ _ _ hm
  clear ha hb hc hm
  go_enter Try.func33, Try.ntmps33
  go_wp2_with fail
  refine (number_any a _).mono ?_
  rintro e w1 ⟨rfl, rfl⟩
  go_wp2_with fail
  refine (number_any b _).mono ?_
  rintro e w1 ⟨rfl, rfl⟩
  go_wp2_with fail
  refine (number_any c _).mono ?_
  rintro e w1 ⟨rfl, rfl⟩
  go_wp2_with fail
  refine (odd_nan _ _ (add_nan2 (nanc64 c _).1 _) _).mono ?_
  rintro e w2 ⟨z, rfl, hz, q2⟩
  go_wp2_with fail
  refine (narrowed_any z _).mono ?_
  rintro e w3 ⟨rfl, q3⟩
  go_wp2_with fail
  go_ret
  exact ⟨ret_int (by rw [nar_nan hz]), ((Q.refl _).drew.trans q2).trans q3⟩

set_option maxHeartbeats 800000 in
theorem fma_sf (a b c : Nat) (p : Nat) (ha : nanN a = false) (hb : nanN b = false) (hc : nanN c = false) (hm : floatBits .mul .f64 (wideN a) (wideN b) = some p) (hs : floatBits .add .f64 p (wideN c) = none) (w : World) :
    Calls Try.prog 33 #[.int .u32 (a : Int), .int .u32 (b : Int), .int .u32 (c : Int)] w fun e w' => e = .returned (.int .u32 (2143289344 : Nat)) ∧ Q w w' := by
  have l0 := same64
  have la := fun w => wide_num ha w
  have lb := fun w => wide_num hb w
  have lc := fun w => wide_num hc w
  have lm := fun w => run_float_arith (P := Try.prog) w .mul 37 .f64 _ _ _ hm
  clear ha hb hc hm
  go_enter Try.func33, Try.ntmps33
  go_wp2_with fail
  refine (number_any a _).mono ?_
  rintro e w1 ⟨rfl, rfl⟩
  go_wp2_with fail
  refine (number_any b _).mono ?_
  rintro e w1 ⟨rfl, rfl⟩
  go_wp2_with fail
  refine (number_any c _).mono ?_
  rintro e w1 ⟨rfl, rfl⟩
  go_wp2_with fail
  refine (odd_nan _ _ hs _).mono ?_
  rintro e w2 ⟨z, rfl, hz, q2⟩
  go_wp2_with fail
  refine (narrowed_any z _).mono ?_
  rintro e w3 ⟨rfl, q3⟩
  go_wp2_with fail
  go_ret
  exact ⟨ret_int (by rw [nar_nan hz]), ((Q.refl _).trans q2).trans q3⟩

/-- One that is a NaN, or a product or a sum without an answer. -/
theorem cfma_nan (a b c : Nat) (h : nanN a = true ∨ nanN b = true ∨ nanN c = true ∨ floatBits .mul .f64 (wideN a) (wideN b) = none ∨ ∃ p, floatBits .mul .f64 (wideN a) (wideN b) = some p ∧ floatBits .add .f64 p (wideN c) = none) (w : World) :
    Calls Try.prog 33 #[.int .u32 (a : Int), .int .u32 (b : Int), .int .u32 (c : Int)] w fun e w' => e = .returned (.int .u32 (2143289344 : Nat)) ∧ Q w w' := by
  cases ha : nanN a <;> cases hb : nanN b <;> cases hc : nanN c
  · rcases h with h | h | h | h | ⟨p, h, g⟩
    · rw [ha] at h; cases h
    · rw [hb] at h; cases h
    · rw [hc] at h; cases h
    · exact fma_pf a b c ha hb hc h w
    · exact fma_sf a b c p ha hb hc h g w
  · cases hm : floatBits .mul .f64 (wideN a) (wideN b) with
    | none => exact fma_pn a b c ha hb hc hm w
    | some p => exact fma_sn a b c p ha hb hc hm w
  · exact fma_fnf a b c ha hb hc w
  · exact fma_fnn a b c ha hb hc w
  · exact fma_nff a b c ha hb hc w
  · exact fma_nfn a b c ha hb hc w
  · exact fma_nnf a b c ha hb hc w
  · exact fma_nnn a b c ha hb hc w

set_option maxHeartbeats 800000 in
theorem cfma_odd (a b c p z : Nat) (ha : nanN a = false) (hb : nanN b = false) (hc : nanN c = false) (hm : floatBits .mul .f64 (wideN a) (wideN b) = some p)
    (hO : ∀ w, Calls Try.prog 50 #[.float .f64 p, .float .f64 (wideN c)] w fun e w' => e = .returned (.float .f64 z) ∧ Q w w') (w : World) :
    Calls Try.prog 33 #[.int .u32 (a : Int), .int .u32 (b : Int), .int .u32 (c : Int)] w fun e w' => e = .returned (.int .u32 (toldD (some (Ieee.double.read z)) : Nat)) ∧ Q w w' := by
  have l0 := same64
  have la := fun w => wide_num ha w
  have lb := fun w => wide_num hb w
  have lc := fun w => wide_num hc w
  have lm := fun w => run_float_arith (P := Try.prog) w .mul 37 .f64 _ _ _ hm
  clear ha hb hc hm
  go_enter Try.func33, Try.ntmps33
  go_wp2_with fail
  refine (number_any a _).mono ?_
  rintro e w1 ⟨rfl, rfl⟩
  go_wp2_with fail
  refine (number_any b _).mono ?_
  rintro e w1 ⟨rfl, rfl⟩
  go_wp2_with fail
  refine (number_any c _).mono ?_
  rintro e w1 ⟨rfl, rfl⟩
  go_wp2_with fail
  refine (hO _).mono ?_
  rintro e w2 ⟨rfl, q2⟩
  go_wp2_with fail
  refine (narrowed_any z _).mono ?_
  rintro e w3 ⟨rfl, q3⟩
  go_wp2_with fail
  go_ret
  exact ⟨rfl, q2.trans q3⟩
end Go.Proofs.Ytlelgifdnhnphab

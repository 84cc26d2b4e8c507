/- YCC, Log and Exp in least units of binary64: plain facts. -/
import Derived.Test.YtedafbbpcpebbaaG2039cae3
import Derived.Test.YtedafbbpcpebbaaG5722ba7e
namespace Go.Proofs.Ytedafbbpcpebbaa
open Go.RowKit
set_option linter.unusedVariables false

theorem RN_mono {Y Z : Int} (h : Y ≤ Z) : RN Y ≤ RN Z := by
  unfold RN
  by_cases hy : Y < 0
  · rw [if_pos hy]
    by_cases hz : Z < 0
    · rw [if_pos hz]
      have := val_le64 (rung_mono Ieee.double (-1074) (show Z.natAbs ≤ Y.natAbs by omega))
      omega
    · rw [if_neg hz]; omega
  · rw [if_neg hy, if_neg (by omega)]
    have := val_le64 (rung_mono Ieee.double (-1074) (show Y.natAbs ≤ Z.natAbs by omega))
    omega
theorem opT_of {op : BinOp} (hop : isA op) {x y W : Nat} (h : floatBits op .f64 x y = some W) : opT op x y = W := by
  rw [bits_op op hop] at h
  unfold opT
  cases hd : opD op (Ieee.double.read x) (Ieee.double.read y) with
  | none => rw [hd] at h; cases h
  | some d =>
    rw [hd] at h
    rw [told64_some (opD_num hd)]
    exact Option.some.inj h
/-- A finite word worth Z. -/
structure Wf (x : Nat) (Z : Int) : Prop where
  fin : rung64 x < 9218868437227405312
  val : sval64 x = Z
theorem wide_wf {a : Nat} (h : rung32 a < 2139095040) : Wf (wideW a) (sampleZ a) := by
  rw [wideW_of (fin_num h)]
  exact ⟨(wide_fin h).1, (wide_fin h).2.2⟩
theorem add_wf {x y : Nat} {X Y : Int} (hx : Wf x X) (hy : Wf y Y) (hs : (X + Y).natAbs.log2 ≤ 2000) : Wf (opT .add x y) (RN (X + Y)) := by
  have e := add_fin hx.fin hy.fin
  rw [hx.val, hy.val] at e
  rw [opT_of hA1 e]
  obtain ⟨_, _, h1, h2⟩ := wordOf_facts (σ := sg (sgn64 x) (sgn64 y) (X + Y)) hs (fun h => sg_of h)
  exact ⟨h1, h2⟩
theorem sub_wf {x y : Nat} {X Y : Int} (hx : Wf x X) (hy : Wf y Y) (hs : (X - Y).natAbs.log2 ≤ 2000) : Wf (opT .sub x y) (RN (X - Y)) := by
  have e := sub_fin hx.fin hy.fin
  rw [hx.val, hy.val] at e
  rw [opT_of hA2 e]
  obtain ⟨_, _, h1, h2⟩ := wordOf_facts (σ := sg (sgn64 x) (!sgn64 y) (X - Y)) hs (fun h => sg_of h)
  exact ⟨h1, h2⟩
theorem sval_signed (x : Nat) : sval64 x = Ieee.signed (sgn64 x) (mag64 (rung64 x)) (plc64 (rung64 x)) := by
  have := signed_read x
  rw [show (-1074 + (plc64 (rung64 x) : Int) + 1074).toNat = plc64 (rung64 x) by omega] at this
  exact this.symm
theorem signed_mul (s : Bool) (m k j : Nat) : Ieee.signed s m (k + j) = Ieee.signed s m k * 2 ^ j := by
  rw [signed_shift]
  unfold Ieee.signed
  rw [Nat.shiftLeft_eq, Nat.shiftLeft_eq, Nat.pow_zero, Nat.mul_one]
/-- Times a power of two. -/
theorem shf_up {x : Nat} {Z : Int} (hx : Wf x Z) (k : Nat) (hk : plc64 (rung64 x) + k ≤ 1900) : Wf (shfW x k) (Z * 2 ^ k) := by
  have e : shfW x k = wordOf (sgn64 x) (Ieee.signed (sgn64 x) (mag64 (rung64 x)) (plc64 (rung64 x) + k)) := by
    rw [shfW_num (read_fin64 hx.fin)]
    unfold wordOf
    rw [signed_abs, rung_scale]
    congr 2; omega
  obtain ⟨a, _, c⟩ := units_word (s := sgn64 x) (m := mag64 (rung64 x)) (k := plc64 (rung64 x) + k) (mag_lt64 _) hk
  rw [e]
  refine ⟨a, ?_⟩
  rw [c, signed_mul, ← sval_signed, hx.val]
theorem shf_down {x : Nat} {Z Y : Int} (hx : Wf x Z) (k : Nat) (hk : k ≤ plc64 (rung64 x) ∨ Z = 0) (hp : plc64 (rung64 x) ≤ 1900) (hZ : Z = Y * 2 ^ k) : Wf (shfW x (-(k : Int))) Y := by
  by_cases h0 : Z = 0
  · have hr : rung64 x = 0 := by rw [← sval_zero, hx.val, h0]
    have hY : Y = 0 := by
      rw [h0] at hZ
      rcases Int.mul_eq_zero.1 hZ.symm with h | h
      · exact h
      · have : (0 : Int) < 2 ^ k := Int.pow_pos (by decide)
        omega
    have e : shfW x (-(k : Int)) = Ieee.double.word (sgn64 x) 0 := by
      rw [shfW_num (read_fin64 hx.fin), hr, show mag64 0 = 0 from by decide, rungOf_zero]
    obtain ⟨s1, s2⟩ := sgn_word64 (sgn64 x) (r := 0) (by decide)
    rw [e, hY]
    exact ⟨by rw [s2]; decide, sval_zero.2 s2⟩
  · have hk : k ≤ plc64 (rung64 x) := hk.resolve_right h0
    have e : shfW x (-(k : Int)) = wordOf (sgn64 x) (Ieee.signed (sgn64 x) (mag64 (rung64 x)) (plc64 (rung64 x) - k)) := by
      rw [shfW_num (read_fin64 hx.fin)]
      unfold wordOf
      rw [signed_abs, rung_scale]
      congr 2; omega
    obtain ⟨a, _, c⟩ := units_word (s := sgn64 x) (m := mag64 (rung64 x)) (k := plc64 (rung64 x) - k) (mag_lt64 _) (by omega)
    rw [e]
    refine ⟨a, ?_⟩
    rw [c]
    have h2 := signed_mul (sgn64 x) (mag64 (rung64 x)) (plc64 (rung64 x) - k) k
    rw [show plc64 (rung64 x) - k + k = plc64 (rung64 x) by omega, ← sval_signed, hx.val, hZ] at h2
    have : (2 : Int) ^ k ≠ 0 := Int.ne_of_gt (Int.pow_pos (by decide))
    exact (Int.eq_of_mul_eq_mul_right this h2).symm
theorem nar_wf {x : Nat} {Z : Int} (hx : Wf x Z) : srung32 (narW x) = RS Z ∧ nanN (narW x) = false := by
  unfold narW
  rw [read_fin64 hx.fin]
  refine srung_told (fun h => ?_) ?_
  · have := signed_sign (s := sgn64 x) (m := mag64 (rung64 x)) (k := plc64 (rung64 x))
    rw [← sval_signed, hx.val] at this
    exact this h
  · rw [← hx.val, val_abs]
    unfold val64
    rw [rung_scale]
/-- How great numbers are, by letters. -/
structure Caps (D K : Nat) : Prop where
  d0 : 0 < D
  lg : ∀ Z : Int, ab Z < 64 * K → Z.natAbs.log2 ≤ 2000
  up : ∀ r, val64 r < 64 * K → plc64 r ≤ 1300
  lo : ∀ r, D ≤ val64 r → 800 ≤ plc64 r
  sd : ∀ a, (D : Int) ∣ sampleZ a
  sk : ∀ a, rung32 a < 2139095040 → ab (sampleZ a) < K
  rd : ∀ Z : Int, ab Z < 64 * K → (D : Int) ∣ Z → (D : Int) ∣ RN Z
  d4 : ∀ k, k ≤ 3 → (2 ^ k : Int) ∣ (D : Int)
theorem caps : ∃ D K, Caps D K := by
  obtain ⟨c, hc⟩ : ∃ c : Nat, c = 925 := ⟨_, rfl⟩
  obtain ⟨j, hj⟩ : ∃ j : Nat, j = 1210 := ⟨_, rfl⟩
  have lg : ∀ n, n < 64 * 2 ^ j → n.log2 ≤ 2000 := by
    intro n h
    by_cases h0 : n = 0
    · subst h0; decide
    · have h2 : n < 2 ^ (j + 6) := by rw [Nat.pow_add]; omega
      have := (Nat.log2_lt h0).2 h2
      omega
  refine ⟨2 ^ c, 2 ^ j, ⟨Nat.two_pow_pos _, fun Z h => lg _ h, ?_, ?_, ?_, ?_, ?_, ?_⟩⟩
  · intro r h
    rcases Nat.lt_or_ge 1300 (plc64 r) with g | g
    · exfalso
      have h1 := mag_ge64 (r := r) (by omega)
      unfold val64 at h
      have h2 : 64 * 2 ^ j ≤ 4503599627370496 * 2 ^ plc64 r := by
        have : 2 ^ j ≤ 2 ^ plc64 r := Nat.pow_le_pow_right (by decide) (by omega)
        omega
      have h3 : 4503599627370496 * 2 ^ plc64 r ≤ mag64 r * 2 ^ plc64 r := Nat.mul_le_mul_right _ h1
      omega
    · exact g
  · intro r h
    rcases Nat.lt_or_ge (plc64 r) 800 with g | g
    · exfalso
      have h1 := mag_lt64 r
      unfold val64 at h
      have h2 : mag64 r * 2 ^ plc64 r < 2 ^ 53 * 2 ^ plc64 r := Nat.mul_lt_mul_of_pos_right h1 (Nat.two_pow_pos _)
      rw [← Nat.pow_add] at h2
      have h3 : 2 ^ (53 + plc64 r) ≤ 2 ^ c := Nat.pow_le_pow_right (by decide) (by omega)
      omega
    · exact g
  · intro a
    unfold sampleZ
    exact signed_dvd _ _ (by omega)
  · intro a h
    unfold sampleZ ab
    rw [signed_abs]
    have hp := plc_le32 h
    have h1 : mag32 (rung32 a) * 2 ^ (plc32 (rung32 a) + 925) < 2 ^ 24 * 2 ^ (plc32 (rung32 a) + 925) := Nat.mul_lt_mul_of_pos_right (mag_lt32 _) (Nat.two_pow_pos _)
    rw [← Nat.pow_add] at h1
    exact Nat.lt_of_lt_of_le h1 (Nat.pow_le_pow_right (by decide) (by omega))
  · intro Z h hd
    exact RN_dvd (lg _ h) hd
  · intro k hk
    refine ⟨2 ^ (c - k), ?_⟩
    rw [← Int.pow_add, show k + (c - k) = c by omega, Int.natCast_pow]
    rfl
theorem RN_two {a : Nat} {j : Nat} (hj : j ≤ 3) (h : rung32 a < 2139095040) : RN (sampleZ a * 2 ^ j) = sampleZ a * 2 ^ j := by
  have hp := plc_le32 h
  unfold sampleZ
  rw [← signed_mul]
  obtain ⟨_, _, c⟩ := units_word (s := sgn32 a) (m := mag32 (rung32 a)) (k := plc32 (rung32 a) + 925 + j) (by have := mag_lt32 (rung32 a); omega) (by omega)
  obtain ⟨_, _, _, d⟩ := wordOf_facts (σ := sgn32 a) (Z := Ieee.signed (sgn32 a) (mag32 (rung32 a)) (plc32 (rung32 a) + 925 + j)) (by rw [signed_abs]; exact units_log (cap_units (e := 24) (mag_lt32 _) (by omega))) signed_sign
  rw [← d, c]
theorem shf_dn {D K : Nat} (C : Caps D K) {x : Nat} {Z : Int} (hx : Wf x Z) (k : Nat) (hk : k ≤ 3) (hd : (D : Int) ∣ Z) (hb : ab Z < 64 * K) : ∃ Y, Z = Y * 2 ^ k ∧ Wf (shfW x (-(k : Int))) Y := by
  obtain ⟨Y, hY⟩ : (2 ^ k : Int) ∣ Z := Int.dvd_trans (C.d4 k hk) hd
  have hY : Z = Y * 2 ^ k := by rw [hY, Int.mul_comm]
  have hv : (sval64 x).natAbs = val64 (rung64 x) := val_abs x
  rw [hx.val] at hv
  unfold ab at hb
  refine ⟨Y, hY, shf_down hx k ?_ ?_ hY⟩
  · by_cases h0 : Z = 0
    · exact Or.inr h0
    · left
      have h1 : D ≤ Z.natAbs := Nat.le_of_dvd (by omega) (Int.ofNat_dvd_left.1 hd)
      have := C.lo (rung64 x) (by omega)
      omega
  · have := C.up (rung64 x) (by omega)
    omega
theorem RN_le2 {D K : Nat} (C : Caps D K) {Z : Int} (h : ab Z < 64 * K) : ab (RN Z) ≤ 2 * ab Z := RN_le (C.lg _ h)
theorem ab_two (z : Int) : ab (2 * z) = 2 * ab z := by unfold ab; omega
/-- What ToYCC's numbers are in least units. -/
theorem ycc_vals {D K : Nat} (C : Caps D K) {r g b : Nat} (hr : rung32 r < 2139095040) (hg : rung32 g < 2139095040) (hb : rung32 b < 2139095040) :
    ∃ Y Cg Co : Int, (RN (RN (sampleZ r + sampleZ b) + 2 * sampleZ g) = 4 * Y ∧ srung32 (ycc0 r g b) = RS Y ∧ nanN (ycc0 r g b) = false) ∧ (RN (2 * sampleZ g - RN (sampleZ r + sampleZ b)) = 4 * Cg ∧ srung32 (ycc1 r g b) = RS Cg ∧ nanN (ycc1 r g b) = false) ∧ (RN (sampleZ r - sampleZ b) = 2 * Co ∧ srung32 (ycc2 r g b) = RS Co ∧ nanN (ycc2 r g b) = false) := by
  have R := wide_wf hr
  have G := wide_wf hg
  have B := wide_wf hb
  have r1 := C.sk r hr
  have g1 := C.sk g hg
  have b1 := C.sk b hb
  have r2 := C.sd r
  have g2 := C.sd g
  have b2 := C.sd b
  have p1 := ab_add (sampleZ r) (sampleZ b)
  have p2 := ab_sub (sampleZ r) (sampleZ b)
  have p3 := ab_two (sampleZ g)
  have S := add_wf R B (C.lg _ (by omega))
  have s1 := RN_le2 C (Z := sampleZ r + sampleZ b) (by omega)
  have s2 : (D : Int) ∣ RN (sampleZ r + sampleZ b) := C.rd _ (by omega) (Int.dvd_add r2 b2)
  have Dg : Wf (yD g) (2 * sampleZ g) := by
    unfold yD
    rw [mul_2]
    have := shf_up G 1 (by
      have hv := val_abs (wideW g)
      rw [G.val] at hv
      unfold ab at g1
      have := C.up (rung64 (wideW g)) (by omega)
      omega)
    rw [show sampleZ g * 2 ^ 1 = 2 * sampleZ g by rw [Int.mul_comm]; rfl] at this
    exact this
  have d2 : (D : Int) ∣ 2 * sampleZ g := Int.dvd_trans g2 (Int.dvd_mul_left ..)
  have p4 := ab_add (RN (sampleZ r + sampleZ b)) (2 * sampleZ g)
  have p5 := ab_sub (2 * sampleZ g) (RN (sampleZ r + sampleZ b))
  have A := add_wf S Dg (C.lg _ (by omega))
  have a1 := RN_le2 C (Z := RN (sampleZ r + sampleZ b) + 2 * sampleZ g) (by omega)
  have a2 := C.rd (RN (sampleZ r + sampleZ b) + 2 * sampleZ g) (by omega) (Int.dvd_add s2 d2)
  have E := sub_wf Dg S (C.lg _ (by omega))
  have e1 := RN_le2 C (Z := 2 * sampleZ g - RN (sampleZ r + sampleZ b)) (by omega)
  have e2 := C.rd (2 * sampleZ g - RN (sampleZ r + sampleZ b)) (by omega) (Int.dvd_sub d2 s2)
  have O := sub_wf R B (C.lg _ (by omega))
  have o1 := RN_le2 C (Z := sampleZ r - sampleZ b) (by omega)
  have o2 := C.rd (sampleZ r - sampleZ b) (by omega) (Int.dvd_sub r2 b2)
  obtain ⟨Y, hY, wY⟩ := shf_dn C A 2 (by decide) a2 (by omega)
  obtain ⟨Cg, hC, wC⟩ := shf_dn C E 2 (by decide) e2 (by omega)
  obtain ⟨Co, hO, wO⟩ := shf_dn C O 1 (by decide) o2 (by omega)
  refine ⟨Y, Cg, Co, ⟨by rw [hY, Int.mul_comm]; rfl, ?_⟩, ⟨by rw [hC, Int.mul_comm]; rfl, ?_⟩, ⟨by rw [hO, Int.mul_comm]; rfl, ?_⟩⟩
  · unfold ycc0; rw [quo_4]; exact nar_wf wY
  · unfold ycc1; rw [quo_4]; exact nar_wf wC
  · unfold ycc2; rw [quo_2]; exact nar_wf wO
/-- The mean lies between. -/
theorem mean_between {r g b lo hi : Nat} (hr : rung32 r < 2139095040) (hg : rung32 g < 2139095040) (hb : rung32 b < 2139095040) (hlo : rung32 lo < 2139095040) (hhi : rung32 hi < 2139095040)
    (l1 : srung32 lo ≤ srung32 r) (l2 : srung32 lo ≤ srung32 g) (l3 : srung32 lo ≤ srung32 b) (u1 : srung32 r ≤ srung32 hi) (u2 : srung32 g ≤ srung32 hi) (u3 : srung32 b ≤ srung32 hi) :
    srung32 lo ≤ srung32 (ycc0 r g b) ∧ srung32 (ycc0 r g b) ≤ srung32 hi ∧ nanN (ycc0 r g b) = false := by
  obtain ⟨D, K, C⟩ := caps
  obtain ⟨Y, Cg, Co, ⟨h1, h2, h3⟩, _⟩ := ycc_vals C hr hg hb
  have a1 := samp_le l1
  have a2 := samp_le l2
  have a3 := samp_le l3
  have b1 := samp_le u1
  have b2 := samp_le u2
  have b3 := samp_le u3
  have k2l := RN_two (a := lo) (j := 1) (by decide) hlo
  have k2h := RN_two (a := hi) (j := 1) (by decide) hhi
  have k4l := RN_two (a := lo) (j := 2) (by decide) hlo
  have k4h := RN_two (a := hi) (j := 2) (by decide) hhi
  rw [show (2 : Int) ^ 1 = 2 from rfl] at k2l k2h
  rw [show (2 : Int) ^ 2 = 4 from rfl] at k4l k4h
  have m1 := RN_mono (Y := sampleZ lo * 2) (Z := sampleZ r + sampleZ b) (by omega)
  have m2 := RN_mono (Z := sampleZ hi * 2) (Y := sampleZ r + sampleZ b) (by omega)
  have m3 := RN_mono (Y := sampleZ lo * 4) (Z := RN (sampleZ r + sampleZ b) + 2 * sampleZ g) (by omega)
  have m4 := RN_mono (Z := sampleZ hi * 4) (Y := RN (sampleZ r + sampleZ b) + 2 * sampleZ g) (by omega)
  have n1 := RS_mono (Y := sampleZ lo) (Z := Y) (by omega)
  have n2 := RS_mono (Y := Y) (Z := sampleZ hi) (by omega)
  rw [RS_self hlo] at n1
  rw [RS_self hhi] at n2
  rw [h2]
  exact ⟨n1, n2, h3⟩
end Go.Proofs.Ytedafbbpcpebbaa
/- YCC there and back: how far it is off, in least units. -/
namespace Go.Proofs.Ytedafbbpcpebbaa
open Go.RowKit
set_option linter.unusedVariables false

/-- Rounding to binary64: off by at most one part in 2^53. -/
theorem rne_err {M K : Nat} (h : 0 < K) (hl : M.log2 = K + 52) (h0 : M ≠ 0) : 9007199254740992 * (((rne M K * 2 ^ K : Nat) : Int) - (M : Int)).natAbs ≤ M := by
  obtain ⟨n1, n2⟩ := rne_near M K
  have hlow := Nat.log2_self_le h0
  rw [hl, Nat.pow_add, show (2 : Nat) ^ 52 = 4503599627370496 from rfl] at hlow
  generalize rne M K * 2 ^ K = V at *
  generalize 2 ^ K = P at *
  omega
theorem RN_abs_err (Z : Int) : (RN Z - Z).natAbs = ((val64 (rungOf Ieee.double Z.natAbs (-1074)) : Int) - (Z.natAbs : Int)).natAbs := by
  unfold RN
  generalize val64 (rungOf Ieee.double Z.natAbs (-1074)) = V
  split <;> omega
theorem RN_err {Z : Int} (hs : Z.natAbs.log2 ≤ 2000) : 9007199254740992 * (RN Z - Z).natAbs ≤ Z.natAbs := by
  rw [RN_abs_err, vN_eq hs]
  generalize Z.natAbs = M at *
  rcases Nat.eq_zero_or_pos (lostK M) with h | h
  · rw [h, rne_zero, Nat.pow_zero, Nat.mul_one, Int.sub_self]
    exact Nat.zero_le _
  · refine rne_err h (by unfold lostK at h ⊢; omega) ?_
    intro h0; rw [h0] at h; revert h; decide
/-- Rounding to a sample: off by at most one part in 2^24, or half a least unit. -/
theorem RS_err {M c : Nat} (hc : c = 924) (hr : rungOf Ieee.single M (-1074) < 2139095040) : 16777216 * (((val32 (rungOf Ieee.single M (-1074)) * 2 ^ (c + 1) : Nat) : Int) - (M : Int)).natAbs ≤ M + 16777216 * 2 ^ c := by
  by_cases h0 : M = 0
  · subst h0
    rw [rungOf_zero, val_zero32, Nat.zero_mul]
    show 16777216 * 0 ≤ _
    omega
  · have hc1 : c + 1 = 925 := by omega
    rw [valZ hc1 h0 hr]
    clear hc1
    obtain ⟨n1, n2⟩ := rne_near M (lostZ M)
    rcases Nat.lt_or_ge 925 (lostZ M) with g | g
    · have hl : M.log2 = lostZ M + 23 := by unfold lostZ at g ⊢; omega
      have hlow := Nat.log2_self_le h0
      rw [hl, Nat.pow_add, show (2 : Nat) ^ 23 = 8388608 from rfl] at hlow
      generalize rne M (lostZ M) * 2 ^ lostZ M = V at *
      generalize 2 ^ lostZ M = P at *
      generalize 2 ^ c = R at *
      omega
    · have hl : lostZ M = c + 1 := by have := lostZ_ge M; omega
      rw [hl] at n1 n2 ⊢
      rw [Nat.pow_succ] at n1 n2 ⊢
      generalize rne M (c + 1) * (2 ^ c * 2) = V at *
      generalize 2 ^ c = R at *
      omega
theorem samp_abs {a c : Nat} (hc : c = 925) : (sampleZ a).natAbs = val32 (rung32 a) * 2 ^ c := by
  unfold sampleZ val32
  rw [signed_abs, Nat.pow_add, ← hc, Nat.mul_assoc]
theorem samp_sign {a : Nat} : sampleZ a < 0 ↔ srung32 a < 0 := by
  unfold sampleZ srung32 Ieee.signed
  rw [Nat.shiftLeft_eq]
  cases sgn32 a
  · simp only [Bool.false_eq_true, if_false]
    constructor <;> intro h <;> omega
  · simp only [if_true]
    have hm : 0 < mag32 (rung32 a) * 2 ^ (plc32 (rung32 a) + 925) ↔ 0 < rung32 a := by
      constructor
      · intro h
        rcases Nat.eq_zero_or_pos (rung32 a) with z | z
        · rw [z, show mag32 0 = 0 from by decide, Nat.zero_mul] at h; exact absurd h (Nat.lt_irrefl 0)
        · exact z
      · intro h
        exact Nat.mul_pos (Nat.pos_of_ne_zero (mag_ne32 (Nat.ne_of_gt h))) (Nat.two_pow_pos _)
    generalize mag32 (rung32 a) * 2 ^ (plc32 (rung32 a) + 925) = N at *
    omega
theorem abs_like {A Z : Int} (h : A < 0 ↔ Z < 0) : (A - Z).natAbs = ((A.natAbs : Int) - (Z.natAbs : Int)).natAbs := by
  by_cases k : Z < 0
  · have := h.2 k; omega
  · have : ¬ A < 0 := fun k' => k (h.1 k')
    omega
theorem abs_zero {A Z : Int} (h : A = 0) : (A - Z).natAbs = ((A.natAbs : Int) - (Z.natAbs : Int)).natAbs := by omega
theorem RS_sign {Z : Int} (h : RS Z ≠ 0) : RS Z < 0 ↔ Z < 0 := by
  unfold RS at *
  split at h
  · rename_i k
    rw [if_pos k]
    constructor
    · intro _; exact k
    · intro _; omega
  · rename_i k
    rw [if_neg k]
    constructor
    · intro _; omega
    · intro k'; exact absurd k' k
/-- A sample that is Z rounded: its units. -/
theorem samp_err {a : Nat} {Z : Int} {c : Nat} (hc : c = 924) (h : srung32 a = RS Z) (hf : rungOf Ieee.single Z.natAbs (-1074) < 2139095040) : rung32 a < 2139095040 ∧ 16777216 * (sampleZ a - Z).natAbs ≤ Z.natAbs + 16777216 * 2 ^ c := by
  have hr : rung32 a = rungOf Ieee.single Z.natAbs (-1074) := by
    have h' := h
    unfold srung32 RS at h'
    generalize rungOf Ieee.single Z.natAbs (-1074) = R at *
    cases g : sgn32 a <;> rw [g] at h' <;> simp only [Bool.false_eq_true, if_false, if_true] at h' <;> split at h' <;> omega
  refine ⟨by rw [hr]; exact hf, ?_⟩
  have e := RS_err hc hf
  rw [← hr, ← samp_abs (a := a) (c := c + 1) (by omega)] at e
  have e3 : (sampleZ a - Z).natAbs = (((sampleZ a).natAbs : Int) - (Z.natAbs : Int)).natAbs := by
    by_cases z : srung32 a = 0
    · refine abs_zero ?_
      have h0 : rung32 a = 0 := by unfold srung32 at z; split at z <;> omega
      have := samp_abs (a := a) (c := c + 1) (by omega)
      rw [h0, val_zero32, Nat.zero_mul] at this
      exact Int.natAbs_eq_zero.1 this
    · refine abs_like (samp_sign.trans ?_)
      rw [h]
      exact RS_sign (by rw [← h]; exact z)
  rw [e3]; exact e
theorem RN_eps {Z : Int} {M q ε : Nat} (hs : Z.natAbs.log2 ≤ 2000) (hz : ab Z ≤ 16 * (M + q)) (hε : M + q < 1099511627776 * ε) : RN Z - Z ≤ ε ∧ -(ε : Int) ≤ RN Z - Z := by
  have h := RN_err hs
  unfold ab at hz
  generalize RN Z = Y at *
  omega
/-- What FromYCC's numbers are in least units. -/
theorem rgb_vals {D K : Nat} (C : Caps D K) {y c p : Nat} (hy : rung32 y < 2139095040) (hc : rung32 c < 2139095040) (hp : rung32 p < 2139095040) :
    (srung32 (rgb0 y c p) = RS (RN (RN (sampleZ y - sampleZ c) + sampleZ p))) ∧ (srung32 (rgb1 y c p) = RS (RN (sampleZ y + sampleZ c))) ∧ (srung32 (rgb2 y c p) = RS (RN (RN (sampleZ y - sampleZ c) - sampleZ p))) := by
  have Y := wide_wf hy
  have Cc := wide_wf hc
  have P := wide_wf hp
  have r1 := C.sk y hy
  have g1 := C.sk c hc
  have b1 := C.sk p hp
  have p1 := ab_sub (sampleZ y) (sampleZ c)
  have p2 := ab_add (sampleZ y) (sampleZ c)
  have T := sub_wf Y Cc (C.lg _ (by omega))
  have s1 := RN_le2 C (Z := sampleZ y - sampleZ c) (by omega)
  have p3 := ab_add (RN (sampleZ y - sampleZ c)) (sampleZ p)
  have p4 := ab_sub (RN (sampleZ y - sampleZ c)) (sampleZ p)
  refine ⟨(nar_wf (add_wf T P (C.lg _ (by omega)))).1, (nar_wf (add_wf Y Cc (C.lg _ (by omega)))).1, (nar_wf (sub_wf T P (C.lg _ (by omega)))).1⟩
theorem sum_r {R G B M q ε S Y C P y c p t : Int} (s1 : S - (R + B) ≤ ε) (s2 : -ε ≤ S - (R + B)) (y1 : 4 * Y - (S + 2 * G) ≤ ε) (y2 : -ε ≤ 4 * Y - (S + 2 * G)) (c1 : 4 * C - (2 * G - S) ≤ ε) (c2 : -ε ≤ 4 * C - (2 * G - S)) (p1 : 2 * P - (R - B) ≤ ε) (p2 : -ε ≤ 2 * P - (R - B))
    (y3 : 16777216 * (y - Y) ≤ M + ε + 16777216 * q) (y4 : -(M + ε + 16777216 * q) ≤ 16777216 * (y - Y)) (c3 : 16777216 * (c - C) ≤ M + ε + 16777216 * q) (c4 : -(M + ε + 16777216 * q) ≤ 16777216 * (c - C)) (p3 : 16777216 * (p - P) ≤ M + ε + 16777216 * q) (p4 : -(M + ε + 16777216 * q) ≤ 16777216 * (p - P))
    (t1 : t - (y - c) ≤ ε) (t2 : -ε ≤ t - (y - c)) (e0 : 0 ≤ ε) :
    (∀ T, T - (t + p) ≤ ε → -ε ≤ T - (t + p) → 16777216 * (T - R) ≤ 3 * M + 3 * 16777216 * q + 150000000 * ε ∧ -(3 * M + 3 * 16777216 * q + 150000000 * ε) ≤ 16777216 * (T - R)) ∧
    (∀ T, T - (y + c) ≤ ε → -ε ≤ T - (y + c) → 0 ≤ M → 0 ≤ q → 16777216 * (T - G) ≤ 3 * M + 3 * 16777216 * q + 150000000 * ε ∧ -(3 * M + 3 * 16777216 * q + 150000000 * ε) ≤ 16777216 * (T - G)) ∧
    (∀ T, T - (t - p) ≤ ε → -ε ≤ T - (t - p) → 16777216 * (T - B) ≤ 3 * M + 3 * 16777216 * q + 150000000 * ε ∧ -(3 * M + 3 * 16777216 * q + 150000000 * ε) ≤ 16777216 * (T - B)) := by
  refine ⟨fun T h1 h2 => ⟨by omega, by omega⟩, fun T h1 h2 h3 h4 => ⟨by omega, by omega⟩, fun T h1 h2 => ⟨by omega, by omega⟩⟩
theorem last_r {R T : Int} {M q ε uT : Nat} {u : Int} (hq : 1152921504606846976 ≤ q) (hε : 1099511627776 * ε ≤ M + q + 2199023255552) (r1 : ab R ≤ M)
    (h : 16777216 * (T - R) ≤ 3 * (M : Int) + 3 * 16777216 * (q : Int) + 150000000 * (ε : Int)) (h' : -(3 * (M : Int) + 3 * 16777216 * (q : Int) + 150000000 * (ε : Int)) ≤ 16777216 * (T - R)) (hu : 16777216 * (u - T).natAbs ≤ T.natAbs + 16777216 * q) : 16777216 * (R - u).natAbs ≤ 5 * M + 8 * 16777216 * q ∧ ab T ≤ 4 * (M + q) := by
  unfold ab at *
  omega
theorem T_bd {R T : Int} {M q ε : Nat} (hq : 1152921504606846976 ≤ q) (hε : 1099511627776 * ε ≤ M + q + 2199023255552) (r1 : ab R ≤ M)
    (h : 16777216 * (T - R) ≤ 3 * (M : Int) + 3 * 16777216 * (q : Int) + 150000000 * (ε : Int)) (h' : -(3 * (M : Int) + 3 * 16777216 * (q : Int) + 150000000 * (ε : Int)) ≤ 16777216 * (T - R)) : ab T ≤ 4 * (M + q) := by
  unfold ab at *
  omega
theorem Y_bd {X Y : Int} {k : Int} {M q ε : Nat} (hq : 1152921504606846976 ≤ q) (hε : 1099511627776 * ε ≤ M + q + 2199023255552) (h : ab X ≤ 4 * M + ε) (hy : 4 * Y - X ≤ ε) (hy' : -(ε : Int) ≤ 4 * Y - X) : ab Y ≤ M + ε := by
  unfold ab at *
  omega
theorem O_bd {X Co : Int} {M ε : Nat} (h1 : 2 * Co - X ≤ ε) (h2 : -(ε : Int) ≤ 2 * Co - X) (h : ab X ≤ 2 * M) : ab Co ≤ M + ε := by
  unfold ab at *
  omega
theorem near_bd {a Y : Int} {M q ε : Nat} (hq : 1152921504606846976 ≤ q) (hε : 1099511627776 * ε ≤ M + q + 2199023255552) (hY : ab Y ≤ M + ε) (h1 : 16777216 * (a - Y) ≤ (M : Int) + (ε : Int) + 16777216 * (q : Int)) (h2 : -((M : Int) + (ε : Int) + 16777216 * (q : Int)) ≤ 16777216 * (a - Y)) : ab a ≤ 2 * (M + q) := by
  unfold ab at *
  omega
theorem two_sided {a Y : Int} {M q ε : Nat} (h : 16777216 * (a - Y).natAbs ≤ Y.natAbs + 16777216 * q) (hY : ab Y ≤ M + ε) : 16777216 * (a - Y) ≤ (M : Int) + (ε : Int) + 16777216 * (q : Int) ∧ -((M : Int) + (ε : Int) + 16777216 * (q : Int)) ≤ 16777216 * (a - Y) := by
  unfold ab at *
  omega
set_option maxHeartbeats 1000000 in
/-- YCC there and back: how far each is off; the bounds by letters. -/
theorem back_all {D K M q ε c : Nat} (C : Caps D K) {r g b : Nat} (hr : rung32 r < 2139095040) (hg : rung32 g < 2139095040) (hb : rung32 b < 2139095040) (hc : c = 924) (hqc : q = 2 ^ c) (hq : 1152921504606846976 ≤ q) (hε : 1099511627776 * ε ≤ M + q + 2199023255552) (hε2 : M + q < 1099511627776 * ε)
    (r1 : ab (sampleZ r) ≤ M) (g1 : ab (sampleZ g) ≤ M) (b1 : ab (sampleZ b) ≤ M) (hK : 8 * (M + q) ≤ K) (hT : ∀ Z : Int, ab Z ≤ 4 * (M + q) → rungOf Ieee.single Z.natAbs (-1074) < 2139095040) :
    (rung32 (rgb0 (ycc0 r g b) (ycc1 r g b) (ycc2 r g b)) < 2139095040 ∧ 16777216 * (sampleZ r - sampleZ (rgb0 (ycc0 r g b) (ycc1 r g b) (ycc2 r g b))).natAbs ≤ 5 * M + 8 * 16777216 * q) ∧
    (rung32 (rgb1 (ycc0 r g b) (ycc1 r g b) (ycc2 r g b)) < 2139095040 ∧ 16777216 * (sampleZ g - sampleZ (rgb1 (ycc0 r g b) (ycc1 r g b) (ycc2 r g b))).natAbs ≤ 5 * M + 8 * 16777216 * q) ∧
    (rung32 (rgb2 (ycc0 r g b) (ycc1 r g b) (ycc2 r g b)) < 2139095040 ∧ 16777216 * (sampleZ b - sampleZ (rgb2 (ycc0 r g b) (ycc1 r g b) (ycc2 r g b))).natAbs ≤ 5 * M + 8 * 16777216 * q) := by
  obtain ⟨Y, Cg, Co, ⟨y1, y2, _⟩, ⟨c1, c2, _⟩, ⟨o1, o2, _⟩⟩ := ycc_vals C hr hg hb
  generalize sampleZ r = R at *
  generalize sampleZ g = G at *
  generalize sampleZ b = B at *
  have a1 := ab_add R B
  have a2 := ab_sub R B
  have a3 := ab_two G
  have S := RN_eps (Z := R + B) (M := M) (q := q) (ε := ε) (C.lg _ (by omega)) (by omega) hε2
  generalize RN (R + B) = SS at *
  have sS : ab SS ≤ 2 * M + ε := by unfold ab at *; omega
  have a4 := ab_add SS (2 * G)
  have a5 := ab_sub (2 * G) SS
  have eA := RN_eps (Z := SS + 2 * G) (M := M) (q := q) (ε := ε) (C.lg _ (by omega)) (by omega) hε2
  have eE := RN_eps (Z := 2 * G - SS) (M := M) (q := q) (ε := ε) (C.lg _ (by omega)) (by omega) hε2
  have eO := RN_eps (Z := R - B) (M := M) (q := q) (ε := ε) (C.lg _ (by omega)) (by omega) hε2
  rw [y1] at eA
  rw [c1] at eE
  rw [o1] at eO
  clear y1 c1 o1
  have bY := Y_bd (X := SS + 2 * G) (Y := Y) (k := 0) hq hε (by omega) eA.1 eA.2
  have bC := Y_bd (X := 2 * G - SS) (Y := Cg) (k := 0) hq hε (by omega) eE.1 eE.2
  have bO : ab Co ≤ M + ε := O_bd eO.1 eO.2 (by omega)
  have rY := samp_err hc y2 (hT Y (by omega))
  have rC := samp_err hc c2 (hT Cg (by omega))
  have rO := samp_err hc o2 (hT Co (by omega))
  rw [← hqc] at rY rC rO
  obtain ⟨vU, vV, vW⟩ := rgb_vals C rY.1 rC.1 rO.1
  have wY := two_sided rY.2 bY
  have wC := two_sided rC.2 bC
  have wO := two_sided rO.2 bO
  clear rY rC rO y2 c2 o2
  generalize sampleZ (ycc0 r g b) = y at *
  generalize sampleZ (ycc1 r g b) = cc at *
  generalize sampleZ (ycc2 r g b) = p at *
  have by' : ab y ≤ 2 * (M + q) := near_bd hq hε bY wY.1 wY.2
  have bc' : ab cc ≤ 2 * (M + q) := near_bd hq hε bC wC.1 wC.2
  have bp' : ab p ≤ 2 * (M + q) := near_bd hq hε bO wO.1 wO.2
  have a6 := ab_sub y cc
  have a7 := ab_add y cc
  have eT := RN_eps (Z := y - cc) (M := M) (q := q) (ε := ε) (C.lg _ (by omega)) (by omega) hε2
  have eV := RN_eps (Z := y + cc) (M := M) (q := q) (ε := ε) (C.lg _ (by omega)) (by omega) hε2
  generalize RN (y - cc) = t at *
  have bt : ab t ≤ 4 * (M + q) + ε := by unfold ab at *; omega
  have a8 := ab_add t p
  have a9 := ab_sub t p
  have eU := RN_eps (Z := t + p) (M := M) (q := q) (ε := ε) (C.lg _ (by omega)) (by omega) hε2
  have eW := RN_eps (Z := t - p) (M := M) (q := q) (ε := ε) (C.lg _ (by omega)) (by omega) hε2
  obtain ⟨k1, k2, k3⟩ := sum_r (R := R) (G := G) (B := B) (M := M) (q := q) (ε := ε) S.1 S.2 eA.1 eA.2 eE.1 eE.2 eO.1 eO.2 wY.1 wY.2 wC.1 wC.2 wO.1 wO.2 eT.1 eT.2 (by omega)
  have l1 := k1 _ eU.1 eU.2
  have l2 := k2 _ eV.1 eV.2 (by omega) (by omega)
  have l3 := k3 _ eW.1 eW.2
  generalize RN (t + p) = TU at *
  generalize RN (y + cc) = TV at *
  generalize RN (t - p) = TW at *
  have f1 := samp_err hc vU (hT TU (T_bd hq hε r1 l1.1 l1.2))
  have f2 := samp_err hc vV (hT TV (T_bd hq hε g1 l2.1 l2.2))
  have f3 := samp_err hc vW (hT TW (T_bd hq hε b1 l3.1 l3.2))
  rw [← hqc] at f1 f2 f3
  have m1 := (last_r (uT := 0) hq hε r1 l1.1 l1.2 f1.2).1
  have m2 := (last_r (uT := 0) hq hε g1 l2.1 l2.2 f2.2).1
  have m3 := (last_r (uT := 0) hq hε b1 l3.1 l3.2 f3.2).1
  exact ⟨⟨f1.1, m1⟩, ⟨f2.1, m2⟩, ⟨f3.1, m3⟩⟩
end Go.Proofs.Ytedafbbpcpebbaa

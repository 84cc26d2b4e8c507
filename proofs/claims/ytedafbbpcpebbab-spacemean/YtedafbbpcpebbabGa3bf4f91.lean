/- YCC, Log and Exp in least units of binary64: plain facts. -/
import Derived.Test.YtedafbbpcpebbabG85af7683
import Derived.Test.YtedafbbpcpebbabG6c091527
import Derived.Test.YtedafbbpcpebbabGb28fea4e
namespace Go.Proofs.Ytedafbbpcpebbab
open Go.RowKit
set_option linter.unusedVariables false

theorem RN_mono {Y Z : Int} (h : Y ≤ Z) : RN Y ≤ RN Z := by
  unfold RN
  by_cases hy : Y < 0
  · rw [if_pos hy]
    by_cases hz : Z < 0
    · rw [if_pos hz]
      have := val_le64 (rung_mono Ieee.double (-1074) (show Z.natAbs ≤ Y.natAbs by omega))
      omega
    · rw [if_neg hz]; omega
  · rw [if_neg hy, if_neg (by omega)]
    have := val_le64 (rung_mono Ieee.double (-1074) (show Y.natAbs ≤ Z.natAbs by omega))
    omega
theorem opT_of {op : BinOp} (hop : isA op) {x y W : Nat} (h : floatBits op .f64 x y = some W) : opT op x y = W := by
  rw [bits_op op hop] at h
  unfold opT
  cases hd : opD op (Ieee.double.read x) (Ieee.double.read y) with
  | none => rw [hd] at h; cases h
  | some d =>
    rw [hd] at h
    rw [told64_some (opD_num hd)]
    exact Option.some.inj h
/-- A finite word worth Z. -/
structure Wf (x : Nat) (Z : Int) : Prop where
  fin : rung64 x < 9218868437227405312
  val : sval64 x = Z
theorem wide_wf {a : Nat} (h : rung32 a < 2139095040) : Wf (wideW a) (sampleZ a) := by
  rw [wideW_of (fin_num h)]
  exact ⟨(wide_fin h).1, (wide_fin h).2.2⟩
theorem add_wf {x y : Nat} {X Y : Int} (hx : Wf x X) (hy : Wf y Y) (hs : (X + Y).natAbs.log2 ≤ 2000) : Wf (opT .add x y) (RN (X + Y)) := by
  have e := add_fin hx.fin hy.fin
  rw [hx.val, hy.val] at e
  rw [opT_of hA1 e]
  obtain ⟨_, _, h1, h2⟩ := wordOf_facts (σ := sg (sgn64 x) (sgn64 y) (X + Y)) hs (fun h => sg_of h)
  exact ⟨h1, h2⟩
theorem sub_wf {x y : Nat} {X Y : Int} (hx : Wf x X) (hy : Wf y Y) (hs : (X - Y).natAbs.log2 ≤ 2000) : Wf (opT .sub x y) (RN (X - Y)) := by
  have e := sub_fin hx.fin hy.fin
  rw [hx.val, hy.val] at e
  rw [opT_of hA2 e]
  obtain ⟨_, _, h1, h2⟩ := wordOf_facts (σ := sg (sgn64 x) (!sgn64 y) (X - Y)) hs (fun h => sg_of h)
  exact ⟨h1, h2⟩
theorem sval_signed (x : Nat) : sval64 x = Ieee.signed (sgn64 x) (mag64 (rung64 x)) (plc64 (rung64 x)) := by
  have := signed_read x
  rw [show (-1074 + (plc64 (rung64 x) : Int) + 1074).toNat = plc64 (rung64 x) by omega] at this
  exact this.symm
theorem signed_mul (s : Bool) (m k j : Nat) : Ieee.signed s m (k + j) = Ieee.signed s m k * 2 ^ j := by
  rw [signed_shift]
  unfold Ieee.signed
  rw [Nat.shiftLeft_eq, Nat.shiftLeft_eq, Nat.pow_zero, Nat.mul_one]
/-- Times a power of two. -/
theorem shf_up {x : Nat} {Z : Int} (hx : Wf x Z) (k : Nat) (hk : plc64 (rung64 x) + k ≤ 1900) : Wf (shfW x k) (Z * 2 ^ k) := by
  have e : shfW x k = wordOf (sgn64 x) (Ieee.signed (sgn64 x) (mag64 (rung64 x)) (plc64 (rung64 x) + k)) := by
    rw [shfW_num (read_fin64 hx.fin)]
    unfold wordOf
    rw [signed_abs, rung_scale]
    congr 2; omega
  obtain ⟨a, _, c⟩ := units_word (s := sgn64 x) (m := mag64 (rung64 x)) (k := plc64 (rung64 x) + k) (mag_lt64 _) hk
  rw [e]
  refine ⟨a, ?_⟩
  rw [c, signed_mul, ← sval_signed, hx.val]
theorem shf_down {x : Nat} {Z Y : Int} (hx : Wf x Z) (k : Nat) (hk : k ≤ plc64 (rung64 x) ∨ Z = 0) (hp : plc64 (rung64 x) ≤ 1900) (hZ : Z = Y * 2 ^ k) : Wf (shfW x (-(k : Int))) Y := by
  by_cases h0 : Z = 0
  · have hr : rung64 x = 0 := by rw [← sval_zero, hx.val, h0]
    have hY : Y = 0 := by
      rw [h0] at hZ
      rcases Int.mul_eq_zero.1 hZ.symm with h | h
      · exact h
      · have : (0 : Int) < 2 ^ k := Int.pow_pos (by decide)
        omega
    have e : shfW x (-(k : Int)) = Ieee.double.word (sgn64 x) 0 := by
      rw [shfW_num (read_fin64 hx.fin), hr, show mag64 0 = 0 from by decide, rungOf_zero]
    obtain ⟨s1, s2⟩ := sgn_word64 (sgn64 x) (r := 0) (by decide)
    rw [e, hY]
    exact ⟨by rw [s2]; decide, sval_zero.2 s2⟩
  · have hk : k ≤ plc64 (rung64 x) := hk.resolve_right h0
    have e : shfW x (-(k : Int)) = wordOf (sgn64 x) (Ieee.signed (sgn64 x) (mag64 (rung64 x)) (plc64 (rung64 x) - k)) := by
      rw [shfW_num (read_fin64 hx.fin)]
      unfold wordOf
      rw [signed_abs, rung_scale]
      congr 2; omega
    obtain ⟨a, _, c⟩ := units_word (s := sgn64 x) (m := mag64 (rung64 x)) (k := plc64 (rung64 x) - k) (mag_lt64 _) (by omega)
    rw [e]
    refine ⟨a, ?_⟩
    rw [c]
    have h2 := signed_mul (sgn64 x) (mag64 (rung64 x)) (plc64 (rung64 x) - k) k
    rw [show plc64 (rung64 x) - k + k = plc64 (rung64 x) by omega, ← sval_signed, hx.val, hZ] at h2
    have : (2 : Int) ^ k ≠ 0 := Int.ne_of_gt (Int.pow_pos (by decide))
    exact (Int.eq_of_mul_eq_mul_right this h2).symm
theorem nar_wf {x : Nat} {Z : Int} (hx : Wf x Z) : srung32 (narW x) = RS Z ∧ nanN (narW x) = false := by
  unfold narW
  rw [read_fin64 hx.fin]
  refine srung_told (fun h => ?_) ?_
  · have := signed_sign (s := sgn64 x) (m := mag64 (rung64 x)) (k := plc64 (rung64 x))
    rw [← sval_signed, hx.val] at this
    exact this h
  · rw [← hx.val, val_abs]
    unfold val64
    rw [rung_scale]
/-- How great numbers are, by letters. -/
structure Caps (D K : Nat) : Prop where
  d0 : 0 < D
  lg : ∀ Z : Int, ab Z < 64 * K → Z.natAbs.log2 ≤ 2000
  up : ∀ r, val64 r < 64 * K → plc64 r ≤ 1300
  lo : ∀ r, D ≤ val64 r → 800 ≤ plc64 r
  sd : ∀ a, (D : Int) ∣ sampleZ a
  sk : ∀ a, rung32 a < 2139095040 → ab (sampleZ a) < K
  rd : ∀ Z : Int, ab Z < 64 * K → (D : Int) ∣ Z → (D : Int) ∣ RN Z
  d4 : ∀ k, k ≤ 3 → (2 ^ k : Int) ∣ (D : Int)
theorem caps : ∃ D K, Caps D K := by
  obtain ⟨c, hc⟩ : ∃ c : Nat, c = 925 := ⟨_, rfl⟩
  obtain ⟨j, hj⟩ : ∃ j : Nat, j = 1210 := ⟨_, rfl⟩
  have lg : ∀ n, n < 64 * 2 ^ j → n.log2 ≤ 2000 := by
    intro n h
    by_cases h0 : n = 0
    · subst h0; decide
    · have h2 : n < 2 ^ (j + 6) := by rw [Nat.pow_add]; omega
      have := (Nat.log2_lt h0).2 h2
      omega
  refine ⟨2 ^ c, 2 ^ j, ⟨Nat.two_pow_pos _, fun Z h => lg _ h, ?_, ?_, ?_, ?_, ?_, ?_⟩⟩
  · intro r h
    rcases Nat.lt_or_ge 1300 (plc64 r) with g | g
    · exfalso
      have h1 := mag_ge64 (r := r) (by omega)
      unfold val64 at h
      have h2 : 64 * 2 ^ j ≤ 4503599627370496 * 2 ^ plc64 r := by
        have : 2 ^ j ≤ 2 ^ plc64 r := Nat.pow_le_pow_right (by decide) (by omega)
        omega
      have h3 : 4503599627370496 * 2 ^ plc64 r ≤ mag64 r * 2 ^ plc64 r := Nat.mul_le_mul_right _ h1
      omega
    · exact g
  · intro r h
    rcases Nat.lt_or_ge (plc64 r) 800 with g | g
    · exfalso
      have h1 := mag_lt64 r
      unfold val64 at h
      have h2 : mag64 r * 2 ^ plc64 r < 2 ^ 53 * 2 ^ plc64 r := Nat.mul_lt_mul_of_pos_right h1 (Nat.two_pow_pos _)
      rw [← Nat.pow_add] at h2
      have h3 : 2 ^ (53 + plc64 r) ≤ 2 ^ c := Nat.pow_le_pow_right (by decide) (by omega)
      omega
    · exact g
  · intro a
    unfold sampleZ
    exact signed_dvd _ _ (by omega)
  · intro a h
    unfold sampleZ ab
    rw [signed_abs]
    have hp := plc_le32 h
    have h1 : mag32 (rung32 a) * 2 ^ (plc32 (rung32 a) + 925) < 2 ^ 24 * 2 ^ (plc32 (rung32 a) + 925) := Nat.mul_lt_mul_of_pos_right (mag_lt32 _) (Nat.two_pow_pos _)
    rw [← Nat.pow_add] at h1
    exact Nat.lt_of_lt_of_le h1 (Nat.pow_le_pow_right (by decide) (by omega))
  · intro Z h hd
    exact RN_dvd (lg _ h) hd
  · intro k hk
    refine ⟨2 ^ (c - k), ?_⟩
    rw [← Int.pow_add, show k + (c - k) = c by omega, Int.natCast_pow]
    rfl
theorem RN_two {a : Nat} {j : Nat} (hj : j ≤ 3) (h : rung32 a < 2139095040) : RN (sampleZ a * 2 ^ j) = sampleZ a * 2 ^ j := by
  have hp := plc_le32 h
  unfold sampleZ
  rw [← signed_mul]
  obtain ⟨_, _, c⟩ := units_word (s := sgn32 a) (m := mag32 (rung32 a)) (k := plc32 (rung32 a) + 925 + j) (by have := mag_lt32 (rung32 a); omega) (by omega)
  obtain ⟨_, _, _, d⟩ := wordOf_facts (σ := sgn32 a) (Z := Ieee.signed (sgn32 a) (mag32 (rung32 a)) (plc32 (rung32 a) + 925 + j)) (by rw [signed_abs]; exact units_log (cap_units (e := 24) (mag_lt32 _) (by omega))) signed_sign
  rw [← d, c]
theorem shf_dn {D K : Nat} (C : Caps D K) {x : Nat} {Z : Int} (hx : Wf x Z) (k : Nat) (hk : k ≤ 3) (hd : (D : Int) ∣ Z) (hb : ab Z < 64 * K) : ∃ Y, Z = Y * 2 ^ k ∧ Wf (shfW x (-(k : Int))) Y := by
  obtain ⟨Y, hY⟩ : (2 ^ k : Int) ∣ Z := Int.dvd_trans (C.d4 k hk) hd
  have hY : Z = Y * 2 ^ k := by rw [hY, Int.mul_comm]
  have hv : (sval64 x).natAbs = val64 (rung64 x) := val_abs x
  rw [hx.val] at hv
  unfold ab at hb
  refine ⟨Y, hY, shf_down hx k ?_ ?_ hY⟩
  · by_cases h0 : Z = 0
    · exact Or.inr h0
    · left
      have h1 : D ≤ Z.natAbs := Nat.le_of_dvd (by omega) (Int.ofNat_dvd_left.1 hd)
      have := C.lo (rung64 x) (by omega)
      omega
  · have := C.up (rung64 x) (by omega)
    omega
theorem RN_le2 {D K : Nat} (C : Caps D K) {Z : Int} (h : ab Z < 64 * K) : ab (RN Z) ≤ 2 * ab Z := RN_le (C.lg _ h)
theorem ab_two (z : Int) : ab (2 * z) = 2 * ab z := by unfold ab; omega
/-- What ToYCC's numbers are in least units. -/
theorem ycc_vals {D K : Nat} (C : Caps D K) {r g b : Nat} (hr : rung32 r < 2139095040) (hg : rung32 g < 2139095040) (hb : rung32 b < 2139095040) :
    ∃ Y Cg Co : Int, (RN (RN (sampleZ r + sampleZ b) + 2 * sampleZ g) = 4 * Y ∧ srung32 (ycc0 r g b) = RS Y ∧ nanN (ycc0 r g b) = false) ∧ (RN (2 * sampleZ g - RN (sampleZ r + sampleZ b)) = 4 * Cg ∧ srung32 (ycc1 r g b) = RS Cg ∧ nanN (ycc1 r g b) = false) ∧ (RN (sampleZ r - sampleZ b) = 2 * Co ∧ srung32 (ycc2 r g b) = RS Co ∧ nanN (ycc2 r g b) = false) := by
  have R := wide_wf hr
  have G := wide_wf hg
  have B := wide_wf hb
  have r1 := C.sk r hr
  have g1 := C.sk g hg
  have b1 := C.sk b hb
  have r2 := C.sd r
  have g2 := C.sd g
  have b2 := C.sd b
  have p1 := ab_add (sampleZ r) (sampleZ b)
  have p2 := ab_sub (sampleZ r) (sampleZ b)
  have p3 := ab_two (sampleZ g)
  have S := add_wf R B (C.lg _ (by omega))
  have s1 := RN_le2 C (Z := sampleZ r + sampleZ b) (by omega)
  have s2 : (D : Int) ∣ RN (sampleZ r + sampleZ b) := C.rd _ (by omega) (Int.dvd_add r2 b2)
  have Dg : Wf (yD g) (2 * sampleZ g) := by
    unfold yD
    rw [mul_2]
    have := shf_up G 1 (by
      have hv := val_abs (wideW g)
      rw [G.val] at hv
      unfold ab at g1
      have := C.up (rung64 (wideW g)) (by omega)
      omega)
    rw [show sampleZ g * 2 ^ 1 = 2 * sampleZ g by rw [Int.mul_comm]; rfl] at this
    exact this
  have d2 : (D : Int) ∣ 2 * sampleZ g := Int.dvd_trans g2 (Int.dvd_mul_left ..)
  have p4 := ab_add (RN (sampleZ r + sampleZ b)) (2 * sampleZ g)
  have p5 := ab_sub (2 * sampleZ g) (RN (sampleZ r + sampleZ b))
  have A := add_wf S Dg (C.lg _ (by omega))
  have a1 := RN_le2 C (Z := RN (sampleZ r + sampleZ b) + 2 * sampleZ g) (by omega)
  have a2 := C.rd (RN (sampleZ r + sampleZ b) + 2 * sampleZ g) (by omega) (Int.dvd_add s2 d2)
  have E := sub_wf Dg S (C.lg _ (by omega))
  have e1 := RN_le2 C (Z := 2 * sampleZ g - RN (sampleZ r + sampleZ b)) (by omega)
  have e2 := C.rd (2 * sampleZ g - RN (sampleZ r + sampleZ b)) (by omega) (Int.dvd_sub d2 s2)
  have O := sub_wf R B (C.lg _ (by omega))
  have o1 := RN_le2 C (Z := sampleZ r - sampleZ b) (by omega)
  have o2 := C.rd (sampleZ r - sampleZ b) (by omega) (Int.dvd_sub r2 b2)
  obtain ⟨Y, hY, wY⟩ := shf_dn C A 2 (by decide) a2 (by omega)
  obtain ⟨Cg, hC, wC⟩ := shf_dn C E 2 (by decide) e2 (by omega)
  obtain ⟨Co, hO, wO⟩ := shf_dn C O 1 (by decide) o2 (by omega)
  refine ⟨Y, Cg, Co, ⟨by rw [hY, Int.mul_comm]; rfl, ?_⟩, ⟨by rw [hC, Int.mul_comm]; rfl, ?_⟩, ⟨by rw [hO, Int.mul_comm]; rfl, ?_⟩⟩
  · unfold ycc0; rw [quo_4]; exact nar_wf wY
  · unfold ycc1; rw [quo_4]; exact nar_wf wC
  · unfold ycc2; rw [quo_2]; exact nar_wf wO
/-- The mean lies between. -/
theorem mean_between {r g b lo hi : Nat} (hr : rung32 r < 2139095040) (hg : rung32 g < 2139095040) (hb : rung32 b < 2139095040) (hlo : rung32 lo < 2139095040) (hhi : rung32 hi < 2139095040)
    (l1 : srung32 lo ≤ srung32 r) (l2 : srung32 lo ≤ srung32 g) (l3 : srung32 lo ≤ srung32 b) (u1 : srung32 r ≤ srung32 hi) (u2 : srung32 g ≤ srung32 hi) (u3 : srung32 b ≤ srung32 hi) :
    srung32 lo ≤ srung32 (ycc0 r g b) ∧ srung32 (ycc0 r g b) ≤ srung32 hi ∧ nanN (ycc0 r g b) = false := by
  obtain ⟨D, K, C⟩ := caps
  obtain ⟨Y, Cg, Co, ⟨h1, h2, h3⟩, _⟩ := ycc_vals C hr hg hb
  have a1 := samp_le l1
  have a2 := samp_le l2
  have a3 := samp_le l3
  have b1 := samp_le u1
  have b2 := samp_le u2
  have b3 := samp_le u3
  have k2l := RN_two (a := lo) (j := 1) (by decide) hlo
  have k2h := RN_two (a := hi) (j := 1) (by decide) hhi
  have k4l := RN_two (a := lo) (j := 2) (by decide) hlo
  have k4h := RN_two (a := hi) (j := 2) (by decide) hhi
  rw [show (2 : Int) ^ 1 = 2 from rfl] at k2l k2h
  rw [show (2 : Int) ^ 2 = 4 from rfl] at k4l k4h
  have m1 := RN_mono (Y := sampleZ lo * 2) (Z := sampleZ r + sampleZ b) (by omega)
  have m2 := RN_mono (Z := sampleZ hi * 2) (Y := sampleZ r + sampleZ b) (by omega)
  have m3 := RN_mono (Y := sampleZ lo * 4) (Z := RN (sampleZ r + sampleZ b) + 2 * sampleZ g) (by omega)
  have m4 := RN_mono (Z := sampleZ hi * 4) (Y := RN (sampleZ r + sampleZ b) + 2 * sampleZ g) (by omega)
  have n1 := RS_mono (Y := sampleZ lo) (Z := Y) (by omega)
  have n2 := RS_mono (Y := Y) (Z := sampleZ hi) (by omega)
  rw [RS_self hlo] at n1
  rw [RS_self hhi] at n2
  rw [h2]
  exact ⟨n1, n2, h3⟩
end Go.Proofs.Ytedafbbpcpebbab
/- The document's Log and Exp. -/
namespace Go.Proofs.Ytedafbbpcpebbab
open Go.RowKit
theorem keyR_srung7 {a : Nat} (h : a < 4294967296) : keyR a = srung32 a := by
  unfold keyR srung32 rung32
  rw [sgn_hi h]
  by_cases g : a < 2147483648
  · rw [if_pos g, decide_eq_false (by omega), if_neg (by decide)]; omega
  · rw [if_neg g, decide_eq_true (by omega), if_pos rfl]; omega
/-- Log of a sample above 0, rounded at once. -/
theorem int_shf {n : Int} (h : n.natAbs < 9007199254740992) : narW (shfW (floatOfInt .f64 n) (-23)) = Ieee.single.nearest (decide (n < 0)) n.natAbs (-23) := by
  have e1 : floatOfInt .f64 n = Ieee.double.nearest (decide (n < 0)) n.natAbs 0 := rfl
  rw [e1, nearest_rung]
  obtain ⟨s, hs⟩ : ∃ s, s = decide (n < 0) := ⟨_, rfl⟩
  obtain ⟨N, hN⟩ : ∃ N, N = n.natAbs := ⟨_, rfl⟩
  rw [← hs, ← hN]
  rw [← hN] at h
  by_cases h0 : N = 0
  · have hn : n = 0 := by omega
    have : s = false := by rw [hs, hn]; decide
    rw [this, h0]
    decide +kernel
  · have a0 := Nat.log2_self_le h0
    have a1 : N < 2 ^ (N.log2 + 1) := Nat.lt_log2_self
    have aL : N.log2 ≤ 52 := by
      have := (Nat.log2_lt h0).2 (show N < 2 ^ 53 from h)
      omega
    generalize N.log2 = M at *
    have b1 : N * 2 ^ (52 - M) < 9007199254740992 := by
      have := Nat.mul_lt_mul_of_pos_right a1 (Nat.two_pow_pos (52 - M))
      rw [← Nat.pow_add, show M + 1 + (52 - M) = 53 by omega] at this
      exact this
    have b0 : 4503599627370496 ≤ N * 2 ^ (52 - M) := by
      have := Nat.mul_le_mul_right (2 ^ (52 - M)) a0
      rw [← Nat.pow_add, show M + (52 - M) = 52 by omega] at this
      exact this
    have e2 := nearest_exact (neg := s) (k := 0) (p := 0) a0 a1 aL (by omega) (by omega)
    rw [Nat.pow_zero, Nat.mul_one] at e2
    have e3 : shfW (Ieee.double.nearest s N 0) (-23) = wd s (N * 2 ^ (52 - M)) ((M : Int) - 75) := by
      have hr : Ieee.double.read (Ieee.double.nearest s N 0) = .number s (N * 2 ^ (52 - M)) (0 + ((0 : Nat) : Int) + M - 52) := by rw [e2, read_wd b0 b1 (by omega) (by omega)]
      rw [shfW_num hr, ← nearest_rung]
      have := nearest_exact (neg := s) (o := N * 2 ^ (52 - M)) (L := 52) (k := 0) (p := 0 + ((0 : Nat) : Int) + M - 52 + -23) b0 b1 (by omega) (by omega) (by omega)
      rw [Nat.pow_zero, Nat.mul_one] at this
      rw [this]
      congr 1; omega
    rw [← nearest_rung, e3]
    unfold narW
    rw [read_wd b0 b1 (by omega) (by omega), toldD_num, nearest_rung]
    congr 1
    rw [rung_scale]
    congr 1; omega
theorem logP_eq {x : Nat} (hx : x < 4294967296) : logP x = Ieee.single.nearest (decide ((x : Int) - 1065353216 < 0)) ((x : Int) - 1065353216).natAbs (-23) := by
  unfold logP; exact int_shf (by omega)
end Go.Proofs.Ytedafbbpcpebbab
/- Log and Exp rise; the scale's ends. -/
namespace Go.Proofs.Ytedafbbpcpebbab
open Go.RowKit
set_option linter.unusedVariables false

theorem exN_val (y : Nat) : exN y = rne (val32 (rung32 y)) 126 := by
  unfold val32
  rcases Nat.le_total (plc32 (rung32 y)) 126 with h | h
  · rw [exN_lo h]
    have := rne_scale (mag32 (rung32 y)) (126 - plc32 (rung32 y)) (plc32 (rung32 y))
    rw [show 126 - plc32 (rung32 y) + plc32 (rung32 y) = 126 by omega] at this
    exact this.symm
  · rw [exN_hi h]
    have := rne_exact (mag32 (rung32 y) * 2 ^ (plc32 (rung32 y) - 126)) 126
    rw [Nat.mul_assoc, ← Nat.pow_add, show plc32 (rung32 y) - 126 + 126 = plc32 (rung32 y) by omega] at this
    exact this.symm
theorem exN_mono {x y : Nat} (h : rung32 x ≤ rung32 y) : exN x ≤ exN y := by
  rw [exN_val, exN_val]; exact rne_mono _ (val_le32 h)
theorem expI_mono {x y : Nat} (h : srung32 x ≤ srung32 y) : expI x ≤ expI y := by
  unfold expI
  rw [sgn0, sgn0]
  unfold srung32 at h
  cases hx : sgn32 x <;> cases hy : sgn32 y <;> rw [hx, hy] at h <;> simp only [Bool.false_eq_true, if_false, if_true] at h ⊢
  · have := exN_mono (x := x) (y := y) (by omega); omega
  · have h1 : rung32 x = 0 := by omega
    have h2 : rung32 y = 0 := by omega
    have e1 : exN x = 0 := by rw [exN_val, h1]; decide +kernel
    have e2 : exN y = 0 := by rw [exN_val, h2]; decide +kernel
    omega
  · omega
  · have := exN_mono (x := y) (y := x) (by omega); omega
theorem expW_mid {y : Nat} (h : nanN y = false) (h1 : srung32 y < 1124073472) (h2 : -1123942400 ≤ srung32 y) : (expW y : Int) = expI y + 1065353216 := by
  obtain ⟨_, _, b1, b2⟩ := exp_int h1 h2
  unfold expW
  rw [if_neg (by rw [h]; decide), if_neg (by omega), if_neg (by omega)]
  unfold expP; omega
theorem expW_hi {y : Nat} (h : nanN y = false) (h1 : 1124073472 ≤ srung32 y) : expW y = 2139095040 := by
  unfold expW
  rw [if_neg (by rw [h]; decide), if_pos h1]
theorem expW_low {y : Nat} (h : nanN y = false) (h1 : srung32 y < -1123942400) : expW y = 0 := by
  unfold expW
  rw [if_neg (by rw [h]; decide), if_neg (by omega), if_pos h1]
theorem srung_small {x : Nat} (h : x < 2147483648) : srung32 x = x := by
  unfold srung32 sgn32 rung32
  rw [show (x / 2147483648 % 2 == 1) = false from by rw [beq_eq_false_iff_ne]; omega, if_neg (by decide)]
  omega
theorem expW_top {y : Nat} (h : nanN y = false) : expW y ≤ 2139095040 := by
  rcases Int.lt_or_le (srung32 y) 1124073472 with g | g
  · rcases Int.lt_or_le (srung32 y) (-1123942400) with k | k
    · rw [expW_low h k]; omega
    · have := expW_mid h g k
      obtain ⟨_, _, b1, b2⟩ := exp_int g k
      omega
  · rw [expW_hi h g]; omega
theorem exp_rises {x y : Nat} (hx : nanN x = false) (hy : nanN y = false) (h : srung32 x ≤ srung32 y) : srung32 (expW x) ≤ srung32 (expW y) := by
  have tx := expW_top hx
  have ty := expW_top hy
  rw [srung_small (by omega), srung_small (by omega)]
  rcases Int.lt_or_le (srung32 y) 1124073472 with g | g
  · rcases Int.lt_or_le (srung32 x) (-1123942400) with k | k
    · rw [expW_low hx k]; omega
    · have e1 := expW_mid hx (by omega) k
      have e2 := expW_mid hy g (by omega)
      have := expI_mono h
      omega
  · rw [expW_hi hy g]; omega
theorem log_key {x : Nat} (hx : x < 4294967296) {c : Nat} (hc : c = 1051) : srung32 (logP x) = RS (((x : Int) - 1065353216) * 2 ^ c) ∧ nanN (logP x) = false := by
  rw [logP_eq hx, show Ieee.single.nearest (decide ((x : Int) - 1065353216 < 0)) ((x : Int) - 1065353216).natAbs (-23) = toldD (some (.number (decide ((x : Int) - 1065353216 < 0)) ((x : Int) - 1065353216).natAbs (-23))) from rfl]
  have hp : (0 : Int) < 2 ^ c := Int.pow_pos (by decide)
  refine srung_told (fun h => ?_) ?_
  · rw [decide_eq_decide]
    constructor
    · intro h1; exact Int.mul_neg_of_neg_of_pos h1 hp
    · intro h1
      rcases Int.lt_or_le ((x : Int) - 1065353216) 0 with g | g
      · exact g
      · have := Int.mul_nonneg g (Int.le_of_lt hp); omega
  · rw [Int.natAbs_mul, Int.natAbs_pow, show (2 : Int).natAbs = 2 from rfl, rung_scale]
    congr 1; omega
theorem ends {c : Nat} (hc : c = 1051) : RS ((-1065353216) * 2 ^ c) = -1123942400 ∧ RS (1073741824 * 2 ^ c) = 1124073472 := by
  have e1 : sampleZ 3271426048 = (-1065353216) * 2 ^ c := by
    unfold sampleZ
    rw [show sgn32 3271426048 = true from by decide, show mag32 (rung32 3271426048) = 16646144 from by decide, show plc32 (rung32 3271426048) + 925 = 6 + c from by rw [hc]; decide, signed_mul, show Ieee.signed true 16646144 6 = -1065353216 from by decide]
  have e2 : sampleZ 1124073472 = 1073741824 * 2 ^ c := by
    unfold sampleZ
    rw [show sgn32 1124073472 = false from by decide, show mag32 (rung32 1124073472) = 8388608 from by decide, show plc32 (rung32 1124073472) + 925 = 7 + c from by rw [hc]; decide, signed_mul, show Ieee.signed false 8388608 7 = 1073741824 from by decide]
  rw [← e1, ← e2, RS_self (by decide), RS_self (by decide)]
  exact ⟨by decide, by decide⟩
theorem pow_le {a b : Int} {c : Nat} (h : a ≤ b) : a * 2 ^ c ≤ b * 2 ^ c := Int.mul_le_mul_of_nonneg_right h (Int.le_of_lt (Int.pow_pos (by decide)))
theorem log_between {x : Nat} (h : x < 2139095040) : -1123942400 ≤ srung32 (logP x) ∧ srung32 (logP x) ≤ 1124073472 ∧ nanN (logP x) = false := by
  obtain ⟨c, hc⟩ : ∃ c : Nat, c = 1051 := ⟨_, rfl⟩
  obtain ⟨k1, k2⟩ := log_key (x := x) (by omega) hc
  obtain ⟨e1, e2⟩ := ends hc
  have m1 := RS_mono (pow_le (c := c) (show (-1065353216 : Int) ≤ (x : Int) - 1065353216 by omega))
  have m2 := RS_mono (pow_le (c := c) (show (x : Int) - 1065353216 ≤ 1073741824 by omega))
  rw [k1, ← e1, ← e2]
  exact ⟨m1, m2, k2⟩
theorem pos_word {x : Nat} (hx : x < 4294967296) (h : 0 < srung32 x) : x < 2147483648 ∧ srung32 x = x := by
  have hlt : x < 2147483648 := by
    rcases Nat.lt_or_ge x 2147483648 with g | g
    · exact g
    · unfold srung32 at h
      rw [sgn_hi hx, decide_eq_true g, if_pos rfl] at h
      omega
  exact ⟨hlt, srung_small hlt⟩
theorem logV_zero {x : Nat} (hn : nanN x = false) (h : srung32 x = 0) : logV x = 4286578688 := by
  unfold logV; rw [if_neg (by rw [hn]; simp; omega), if_pos h]
theorem logV_inf : logV 2139095040 = 2139095040 := by decide +kernel
theorem logV_pos {x : Nat} (hx : x < 4294967296) (hn : nanN x = false) (h : 0 < srung32 x) (hi : x ≠ 2139095040) : logV x = logP x ∧ x < 2139095040 := by
  obtain ⟨h1, h2⟩ := pos_word hx h
  refine ⟨by unfold logV; rw [if_neg (by rw [hn]; simp; omega), if_neg (by omega), if_neg hi], ?_⟩
  rw [nanN_rung] at hn
  have hn := of_decide_eq_false hn
  unfold rung32 at hn
  omega
theorem log_rises {x y : Nat} (hx : x < 4294967296) (hy : y < 4294967296) (nx : nanN x = false) (ny : nanN y = false) (h0 : 0 ≤ srung32 x) (h : srung32 x ≤ srung32 y) : srung32 (logV x) ≤ srung32 (logV y) := by
  have s1 : srung32 4286578688 = -2139095040 := by decide
  have s2 : srung32 2139095040 = 2139095040 := by decide
  have bd : ∀ z, z < 4294967296 → nanN z = false → 0 ≤ srung32 z → -2139095040 ≤ srung32 (logV z) ∧ srung32 (logV z) ≤ 2139095040 := by
    intro z hz nz h0
    by_cases g : srung32 z = 0
    · rw [logV_zero nz g]; omega
    · by_cases k : z = 2139095040
      · rw [k, logV_inf]; omega
      · obtain ⟨e, hl⟩ := logV_pos hz nz (by omega) k
        have := log_between hl
        rw [e]; omega
  have b1 := bd x hx nx h0
  have b2 := bd y hy ny (by omega)
  by_cases g : srung32 x = 0
  · rw [logV_zero nx g]; omega
  · by_cases k : y = 2139095040
    · rw [k, logV_inf]; omega
    · obtain ⟨e2, l2⟩ := logV_pos hy ny (by omega) k
      by_cases k' : x = 2139095040
      · have a1 := pos_word hy (by omega)
        have a2 := pos_word hx (by omega)
        omega
      · obtain ⟨e1, l1⟩ := logV_pos hx nx (by omega) k'
        obtain ⟨c, hc⟩ : ∃ c : Nat, c = 1051 := ⟨_, rfl⟩
        rw [e1, e2, (log_key hx hc).1, (log_key hy hc).1]
        refine RS_mono (pow_le ?_)
        have a1 := pos_word hy (by omega)
        have a2 := pos_word hx (by omega)
        omega
theorem and_7f (s : Int) (h0 : 0 ≤ s) (h1 : s ≤ 4294967295) : bits .and .u32 s 2147483647 = s % 2147483648 := by go_bits2
set_option maxHeartbeats 400000 in
theorem key7_any (a : Nat) (ha : a < 4294967296) (w : World) : Calls Try.prog 11 #[.int .u32 (a : Int)] w fun e w' => e = .returned (.int .i64 (srung32 a)) ∧ w' = w := by
  have hs := sgn_hi ha
  by_cases h : a < 2147483648
  · have e1 : ((a : Int) / 2147483648 == 1) = false := by rw [beq_eq_false_iff_ne]; omega
    rw [srung_small h]
    clear hs
    go_enter Try.func11, Try.ntmps11
    go_wp2
    go_ret
    exact ⟨rfl, rfl⟩
  · have e1 : ((a : Int) / 2147483648 == 1) = true := by rw [beq_iff_eq]; omega
    have e2 := and_7f a (by omega) (by omega)
    have e3 : srung32 a = -((a : Int) % 2147483648) := by
      unfold srung32; rw [hs, decide_eq_true (by omega), if_pos rfl]; unfold rung32; omega
    rw [e3]
    clear e3 hs
    go_enter Try.func11, Try.ntmps11
    go_wp2
    go_ret
    exact ⟨rfl, rfl⟩
set_option maxHeartbeats 400000 in
theorem fin7_any (a : Nat) (ha : a < 4294967296) (w : World) : Calls Try.prog 8 #[.int .u32 (a : Int)] w fun e w' => e = .returned (.bool (decide (rung32 a < 2139095040))) ∧ w' = w := by
  have e2 := and_7f a (by omega) (by omega)
  have e3 : decide ((a : Int) % 2147483648 < 2139095040) = decide (rung32 a < 2139095040) := by rw [decide_eq_decide]; unfold rung32; omega
  go_enter Try.func8, Try.ntmps8
  go_wp2
  go_ret
  exact ⟨rfl, rfl⟩
end Go.Proofs.Ytedafbbpcpebbab

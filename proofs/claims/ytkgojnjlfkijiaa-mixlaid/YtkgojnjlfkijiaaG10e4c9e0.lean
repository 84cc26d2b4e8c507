/- Arguments as the statements' walks take them: numbers alone. -/
import Derived.Test.YtkgojnjlfkijiaaG462f0baa
import Derived.ProofKit
import Derived.OpenShut
import Derived.ShutString
import Derived.ChangeOld
import Derived.Below
import Derived.Deep.Slices
import Derived.Deep.SlicePairs
import Derived.Lib.SmallJoins
import Derived.Test.YtkgojnjlfkijiaaG08a7e663
namespace Go.Proofs.Ytkgojnjlfkijiaa
open Go.ChangeShapes Go.WideShapes Go.ChangeAt Go.RowKit Go.Deep
set_option linter.unusedVariables false

theorem prog_own : ownKnob Try.prog.godebug = none := by kernel_rfl
theorem prog_laid : laidOutB Try.prog = true := by kernel_rfl
theorem i64_bd {z : Int} (h : (Lit.int .i64 z).wf = true) : -9223372036854775808 ≤ z ∧ z ≤ 9223372036854775807 := by
  simpa [Lit.wf, IntKind.min, IntKind.max, IntKind.signed, IntKind.bits] using h
theorem u32_bd {z : Int} (h : (Lit.int .u32 z).wf = true) : 0 ≤ z ∧ z ≤ 4294967295 := by
  simpa [Lit.wf, IntKind.min, IntKind.max, IntKind.signed, IntKind.bits] using h
end Go.Proofs.Ytkgojnjlfkijiaa
/- Mixing in binary64: what each way tells (mxT), and what it is worth (mxZ): plain. -/
namespace Go.Proofs.Ytkgojnjlfkijiaa
open Go.RowKit
set_option linter.unusedVariables false

/-- 1 - a. -/
def rsT (a : Nat) : Nat := opT .sub 4607182418800017408 a
def mxT : Nat → Nat → Nat → Nat → Nat → Nat
  | 1, s, a, d, b => opT .add s (opT .mul d (rsT a))
  | 2, s, a, d, b => opT .mul s b
  | 3, s, a, d, b => opT .mul s (rsT b)
  | 4, s, a, d, b => opT .add (opT .mul s b) (opT .mul d (rsT a))
  | 5, s, a, d, b => opT .add (opT .mul s (rsT b)) (opT .mul d (rsT a))
  | _, s, a, d, b => opT .add s d
def mstT (a b t : Nat) : Nat := opT .add (opT .mul a (rsT t)) (opT .mul b t)
def mxV (k s sa d da : Nat) : Nat := narW (mxT k (wideW s) (wideW sa) (wideW d) (wideW da))
def mstV (a b t : Nat) : Nat := narW (mstT (wideW a) (wideW b) (wideW t))
theorem mnar_lt (x : Nat) : narW x < 4294967296 := toldD_lt _
theorem mxV_lt (k s sa d da : Nat) : mxV k s sa d da < 4294967296 := mnar_lt _
theorem mstV_lt (a b t : Nat) : mstV a b t < 4294967296 := mnar_lt _

def eU : Nat := 1074
def eB : Nat := 1202
def UZ : Int := ((2 ^ eU : Nat) : Int)
theorem UZ_pos : 0 < UZ := by unfold UZ; have := Nat.two_pow_pos eU; omega
def prZ (X Y : Int) : Int := X * Y / UZ
theorem samp_one : sampleZ 1065353216 = UZ := by decide +kernel
theorem wide_one : wideW 1065353216 = 4607182418800017408 := by decide +kernel
theorem one_wf : Wf 4607182418800017408 UZ := by
  rw [← wide_one, ← samp_one]
  exact wide_wf (by decide +kernel)
theorem mlog_lt {n j : Nat} (h : n < 2 ^ j) (hj : j ≤ 2000) : n.log2 ≤ 2000 := by
  by_cases h0 : n = 0
  · subst h0; exact Nat.zero_le _
  · have := (Nat.log2_lt h0).2 h
    omega
theorem msamp_lt {a : Nat} (h : rung32 a < 2139095040) {j : Nat} (hj : eB ≤ j) : (sampleZ a).natAbs < 2 ^ j := by
  unfold sampleZ
  rw [signed_abs]
  have h1 := plc_le32 h
  obtain ⟨m, hm⟩ : ∃ m, mag32 (rung32 a) = m := ⟨_, rfl⟩
  have h2 : m < 16777216 := by rw [← hm]; exact mag_lt32 _
  obtain ⟨k, hk⟩ : ∃ k, plc32 (rung32 a) + 925 = k := ⟨_, rfl⟩
  have h3 : k ≤ 1178 := by omega
  rw [hk, hm]
  have h4 : m * 2 ^ k < 16777216 * 2 ^ k := Nat.mul_lt_mul_of_pos_right h2 (Nat.two_pow_pos _)
  have h5 : 16777216 * 2 ^ k = 2 ^ (24 + k) := by rw [Nat.pow_add]
  have h6 : 2 ^ (24 + k) ≤ 2 ^ j := Nat.pow_le_pow_right (by omega) (by unfold eB at hj; omega)
  omega
theorem samp_dvd (a : Nat) {g : Nat} (hg : g ≤ 925) : ((2 ^ g : Nat) : Int) ∣ sampleZ a := signed_dvd _ _ (by omega)
theorem sgn_wf {x : Nat} {Z : Int} (hx : Wf x Z) (h : Z ≠ 0) : sgn64 x = decide (Z < 0) := by
  have := signed_sign (s := sgn64 x) (m := mag64 (rung64 x)) (k := plc64 (rung64 x))
  rw [← sval_signed, hx.val] at this
  exact this h
theorem mul_wf {x y : Nat} {X Y P : Int} (hx : Wf x X) (hy : Wf y Y) (hP : X * Y = P * UZ) (hs : P.natAbs.log2 ≤ 2000) : Wf (opT .mul x y) (RN P) := by
  have hU := UZ_pos
  have e : floatBits .mul .f64 x y = some (wordOf (sgn64 x ^^ sgn64 y) P) := by
    show ((Ieee.double.read x).product (Ieee.double.read y)).map Ieee.double.write = _
    rw [read_fin64 hx.fin, read_fin64 hy.fin]
    show some (Ieee.double.nearest _ _ _) = _
    rw [nearest_rung]
    unfold wordOf
    have w1 : mag64 (rung64 x) * 2 ^ plc64 (rung64 x) = X.natAbs := by have := val_abs x; rw [hx.val] at this; exact this.symm
    have w2 : mag64 (rung64 y) * 2 ^ plc64 (rung64 y) = Y.natAbs := by have := val_abs y; rw [hy.val] at this; exact this.symm
    have w3 : X.natAbs * Y.natAbs = P.natAbs * 2 ^ eU := by rw [← Int.natAbs_mul, hP, Int.natAbs_mul]; rfl
    have e1 : mag64 (rung64 x) * mag64 (rung64 y) * 2 ^ (plc64 (rung64 x) + plc64 (rung64 y)) = P.natAbs * 2 ^ eU := by
      rw [Nat.pow_add, Nat.mul_mul_mul_comm, w1, w2, w3]
    have k1 := rung_scale Ieee.double (mag64 (rung64 x) * mag64 (rung64 y)) (plc64 (rung64 x) + plc64 (rung64 y)) (-2148)
    rw [e1, rung_scale, show (-2148 : Int) + (eU : Int) = -1074 from rfl] at k1
    have e4 : (-1074 : Int) + (plc64 (rung64 x) : Int) + (-1074 + (plc64 (rung64 y) : Int)) = -2148 + ((plc64 (rung64 x) + plc64 (rung64 y) : Nat) : Int) := by omega
    rw [e4, ← k1]
  rw [opT_of hA3 e]
  obtain ⟨_, _, h1, h2⟩ := wordOf_facts (σ := sgn64 x ^^ sgn64 y) hs (fun h => by
    have hX : X ≠ 0 := by
      rintro rfl
      rw [Int.zero_mul] at hP
      rcases Int.mul_eq_zero.1 hP.symm with c | c
      · exact h c
      · omega
    have hY : Y ≠ 0 := by
      rintro rfl
      rw [Int.mul_zero] at hP
      rcases Int.mul_eq_zero.1 hP.symm with c | c
      · exact h c
      · omega
    rw [sgn_wf hx hX, sgn_wf hy hY]
    have pn : P < 0 → X * Y < 0 := fun c => by rw [hP]; exact Int.mul_neg_of_neg_of_pos c hU
    have pp : 0 < P → 0 < X * Y := fun c => by rw [hP]; exact Int.mul_pos c hU
    rcases Int.lt_or_gt_of_ne hX with a | a <;> rcases Int.lt_or_gt_of_ne hY with b | b
    · have := Int.mul_pos_of_neg_of_neg a b
      rw [decide_eq_true a, decide_eq_true b, decide_eq_false (fun c => by have := pn c; omega)]; rfl
    · have := Int.mul_neg_of_neg_of_pos a b
      rw [decide_eq_true a, decide_eq_false (by omega), decide_eq_true (by rcases Int.lt_or_gt_of_ne h with c | c; exact c; have := pp c; omega)]; rfl
    · have := Int.mul_neg_of_pos_of_neg a b
      rw [decide_eq_false (by omega), decide_eq_true b, decide_eq_true (by rcases Int.lt_or_gt_of_ne h with c | c; exact c; have := pp c; omega)]; rfl
    · have := Int.mul_pos a b
      rw [decide_eq_false (by omega), decide_eq_false (by omega), decide_eq_false (fun c => by have := pn c; omega)]; rfl)
  exact ⟨h1, h2⟩
theorem RN_U : RN UZ = UZ := by
  refine RN_exact (g := eU) ?_ ?_ ?_
  · show (2 ^ eU : Nat).log2 ≤ 2000
    exact mlog_lt (j := eU + 1) (Nat.pow_lt_pow_right (by omega) (by omega)) (by unfold eU; omega)
  · exact Int.dvd_refl _
  · show 2 ^ eU < 2 ^ (53 + eU)
    exact Nat.pow_lt_pow_right (by omega) (by omega)
/-- An alpha from 0 to 1. -/
structure Al (a : Nat) : Prop where
  fin : rung32 a < 2139095040
  lo : 0 ≤ sampleZ a
  hi : sampleZ a ≤ UZ
def rsZ (A : Int) : Int := RN (UZ - A)
theorem rs_bd {A : Int} (h0 : 0 ≤ A) (h1 : A ≤ UZ) : 0 ≤ rsZ A ∧ rsZ A ≤ UZ := by
  constructor
  · have := RN_mono (show (0 : Int) ≤ UZ - A by omega); rw [RN_zero] at this; exact this
  · have := RN_mono (show UZ - A ≤ UZ by omega); rw [RN_U] at this; exact this
theorem U_lt {j : Nat} (h : eU + 1 ≤ j) : UZ.natAbs < 2 ^ j := by
  show 2 ^ eU < 2 ^ j
  exact Nat.pow_lt_pow_right (by omega) (by omega)
theorem al_lt {A : Int} (h0 : 0 ≤ A) (h1 : A ≤ UZ) : (UZ - A).natAbs.log2 ≤ 2000 := mlog_lt (j := eU + 1) (Nat.lt_of_le_of_lt (show (UZ - A).natAbs ≤ UZ.natAbs by omega) (U_lt (Nat.le_refl _))) (by unfold eU; omega)
theorem rest_wf {a : Nat} (h : Al a) : Wf (rsT (wideW a)) (rsZ (sampleZ a)) := sub_wf one_wf (wide_wf h.fin) (al_lt h.lo h.hi)
theorem pow_dvd_int {i j : Nat} (h : i ≤ j) : ((2 ^ i : Nat) : Int) ∣ ((2 ^ j : Nat) : Int) := Int.ofNat_dvd.2 (Nat.pow_dvd_pow 2 h)
theorem rs_dvd {a : Nat} (h : Al a) {g e f : Nat} (hg : g = 1021) (he : e + 1 = eU) (hf : f = 1050) : ((2 ^ g : Nat) : Int) ∣ rsZ (sampleZ a) := by
  have hl := al_lt h.lo h.hi
  have hA := h.lo
  have hA1 := h.hi
  have he' : e = 1073 := by unfold eU at he; omega
  by_cases hh : 2 ^ e ≤ (UZ - sampleZ a).natAbs
  · unfold rsZ
    rw [Int.ofNat_dvd_left, RN_abs, vN_eq hl]
    have h0 : (UZ - sampleZ a).natAbs ≠ 0 := by have := Nat.two_pow_pos e; omega
    have := (Nat.le_log2 h0).2 hh
    exact Nat.dvd_mul_left_of_dvd (Nat.pow_dvd_pow 2 (by unfold lostK; omega)) _
  · have hb : ((2 ^ f : Nat) : Int) ∣ sampleZ a := by
      have hz : 2 ^ e < (sampleZ a).natAbs := by
        have e1 : (2 ^ eU : Nat) = 2 * 2 ^ e := by rw [← he, Nat.pow_succ, Nat.mul_comm]
        have e2 : UZ = ((2 ^ eU : Nat) : Int) := rfl
        generalize 2 ^ e = T at *
        generalize (2 ^ eU : Nat) = V at *
        omega
      unfold sampleZ at hz ⊢
      rw [signed_abs] at hz
      have h2 : mag32 (rung32 a) < 16777216 := mag_lt32 _
      refine signed_dvd _ _ ?_
      obtain ⟨m, hm⟩ : ∃ m, mag32 (rung32 a) = m := ⟨_, rfl⟩
      obtain ⟨k, hk⟩ : ∃ k, plc32 (rung32 a) + 925 = k := ⟨_, rfl⟩
      rw [hm, hk] at hz
      rw [hm] at h2
      rw [hk]
      have h3 : m * 2 ^ k < 16777216 * 2 ^ k := Nat.mul_lt_mul_of_pos_right h2 (Nat.two_pow_pos _)
      have h5 : 16777216 * 2 ^ k = 2 ^ (24 + k) := by rw [Nat.pow_add]
      have h4 := (Nat.pow_lt_pow_iff_right (a := 2) (by omega)).1 (show 2 ^ e < 2 ^ (24 + k) by omega)
      omega
    have h5 : ((2 ^ f : Nat) : Int) ∣ UZ - sampleZ a := Int.dvd_sub (pow_dvd_int (by unfold eU; omega)) hb
    exact Int.dvd_trans (pow_dvd_int (by omega)) (RN_dvd hl h5)
theorem dvd_prod {X Y : Int} {i j : Nat} (hX : ((2 ^ i : Nat) : Int) ∣ X) (hY : ((2 ^ j : Nat) : Int) ∣ Y) (h : eU ≤ i + j) : X * Y = prZ X Y * UZ := by
  have h1 : ((2 ^ i : Nat) : Int) * ((2 ^ j : Nat) : Int) ∣ X * Y := Int.mul_dvd_mul hX hY
  rw [← Int.natCast_mul, ← Nat.pow_add] at h1
  exact (Int.ediv_mul_cancel (Int.dvd_trans (pow_dvd_int h) h1)).symm
theorem pr_zero (Y : Int) : prZ 0 Y = 0 := by unfold prZ; rw [Int.zero_mul, Int.zero_ediv]
theorem pr_zero' (X : Int) : prZ X 0 = 0 := by unfold prZ; rw [Int.mul_zero, Int.zero_ediv]
theorem pr_one (X : Int) : prZ X UZ = X := by unfold prZ; exact Int.mul_ediv_cancel _ (by have := UZ_pos; omega)
theorem pr_mono {X Y R : Int} (h : X ≤ Y) (hR : 0 ≤ R) : prZ X R ≤ prZ Y R := Int.ediv_le_ediv UZ_pos (Int.mul_le_mul_of_nonneg_right h hR)
theorem pr_mono' {X R S : Int} (h : R ≤ S) (hX : 0 ≤ X) : prZ X R ≤ prZ X S := Int.ediv_le_ediv UZ_pos (Int.mul_le_mul_of_nonneg_left h hX)
theorem pr_abs {X R : Int} (h0 : 0 ≤ R) (h1 : R ≤ UZ) : (prZ X R).natAbs ≤ X.natAbs := by
  rcases Int.lt_or_le X 0 with c | c
  · have a1 : prZ X R ≤ prZ 0 R := pr_mono (by omega) h0
    rw [pr_zero] at a1
    have a2 : prZ X UZ ≤ prZ X R := Int.ediv_le_ediv UZ_pos (Int.mul_le_mul_of_nonpos_left (by omega) h1)
    rw [pr_one] at a2
    omega
  · have a1 : prZ 0 R ≤ prZ X R := pr_mono c h0
    rw [pr_zero] at a1
    have a2 := pr_mono' h1 c
    rw [pr_one] at a2
    omega
theorem two_lt {n j : Nat} (h : n < 2 ^ j) : 2 * n < 2 ^ (j + 1) := by rw [Nat.pow_succ]; omega
/-- A sample times an alpha, or times what it leaves of 1. -/
theorem pr_wf {x y : Nat} {X Y : Int} (hx : Wf x X) (hy : Wf y Y) {i j : Nat} (dX : ((2 ^ i : Nat) : Int) ∣ X) (dY : ((2 ^ j : Nat) : Int) ∣ Y) (h : eU ≤ i + j) (h0 : 0 ≤ Y) (h1 : Y ≤ UZ) (hX : X.natAbs < 2 ^ eB) :
    Wf (opT .mul x y) (RN (prZ X Y)) ∧ (RN (prZ X Y)).natAbs < 2 ^ (eB + 1) := by
  have hl : (prZ X Y).natAbs < 2 ^ eB := Nat.lt_of_le_of_lt (pr_abs h0 h1) hX
  have hl2 := mlog_lt hl (by unfold eB; omega)
  exact ⟨mul_wf hx hy (dvd_prod dX dY h) hl2, Nat.lt_of_le_of_lt (RN_le hl2) (two_lt hl)⟩
theorem sum_lt {X Y : Int} (hX : X.natAbs < 2 ^ (eB + 1)) (hY : Y.natAbs < 2 ^ (eB + 1)) : (X + Y).natAbs.log2 ≤ 2000 := by
  refine mlog_lt (j := eB + 1 + 1) ?_ (by unfold eB; omega)
  have := two_lt (j := eB + 1) (n := max X.natAbs Y.natAbs) (by omega)
  generalize 2 ^ (eB + 1 + 1) = T at *
  omega
theorem samp_small {a : Nat} (h : rung32 a < 2139095040) : (sampleZ a).natAbs < 2 ^ eB := msamp_lt h (Nat.le_refl _)
theorem samp_small' {a : Nat} (h : rung32 a < 2139095040) : (sampleZ a).natAbs < 2 ^ (eB + 1) := msamp_lt h (Nat.le_succ _)
theorem al_wf {x a : Nat} (hx : rung32 x < 2139095040) (h : Al a) : Wf (opT .mul (wideW x) (wideW a)) (RN (prZ (sampleZ x) (sampleZ a))) ∧ (RN (prZ (sampleZ x) (sampleZ a))).natAbs < 2 ^ (eB + 1) :=
  pr_wf (wide_wf hx) (wide_wf h.fin) (samp_dvd x (Nat.le_refl _)) (samp_dvd a (Nat.le_refl _)) (by unfold eU; omega) h.lo h.hi (samp_small hx)
theorem ar_wf {x a : Nat} (hx : rung32 x < 2139095040) (h : Al a) : Wf (opT .mul (wideW x) (rsT (wideW a))) (RN (prZ (sampleZ x) (rsZ (sampleZ a)))) ∧ (RN (prZ (sampleZ x) (rsZ (sampleZ a)))).natAbs < 2 ^ (eB + 1) :=
  pr_wf (wide_wf hx) (rest_wf h) (samp_dvd x (Nat.le_refl _)) (rs_dvd h rfl (e := 1073) rfl rfl) (by unfold eU; omega) (rs_bd h.lo h.hi).1 (rs_bd h.lo h.hi).2 (samp_small hx)
def mxZ : Nat → Int → Int → Int → Int → Int
  | 1, S, A, D, B => RN (S + RN (prZ D (rsZ A)))
  | 2, S, A, D, B => RN (prZ S B)
  | 3, S, A, D, B => RN (prZ S (rsZ B))
  | 4, S, A, D, B => RN (RN (prZ S B) + RN (prZ D (rsZ A)))
  | 5, S, A, D, B => RN (RN (prZ S (rsZ B)) + RN (prZ D (rsZ A)))
  | _, S, A, D, B => RN (S + D)
def mstZ (X Y T : Int) : Int := RN (RN (prZ X (rsZ T)) + RN (prZ Y T))
theorem mx_wf (k : Nat) {s sa d da : Nat} (hs : rung32 s < 2139095040) (hd : rung32 d < 2139095040) (ha : Al sa) (hb : Al da) : Wf (mxT k (wideW s) (wideW sa) (wideW d) (wideW da)) (mxZ k (sampleZ s) (sampleZ sa) (sampleZ d) (sampleZ da)) := by
  obtain ⟨a1, a2⟩ := ar_wf hd ha
  obtain ⟨b1, b2⟩ := al_wf hs hb
  obtain ⟨c1, c2⟩ := ar_wf hs hb
  match k with
  | 1 => exact add_wf (wide_wf hs) a1 (sum_lt (samp_small' hs) a2)
  | 2 => exact b1
  | 3 => exact c1
  | 4 => exact add_wf b1 a1 (sum_lt b2 a2)
  | 5 => exact add_wf c1 a1 (sum_lt c2 a2)
  | 0 => exact add_wf (wide_wf hs) (wide_wf hd) (sum_lt (samp_small' hs) (samp_small' hd))
  | n + 6 => exact add_wf (wide_wf hs) (wide_wf hd) (sum_lt (samp_small' hs) (samp_small' hd))
theorem mst_wf {x y t : Nat} (hx : rung32 x < 2139095040) (hy : rung32 y < 2139095040) (ht : Al t) : Wf (mstT (wideW x) (wideW y) (wideW t)) (mstZ (sampleZ x) (sampleZ y) (sampleZ t)) := by
  obtain ⟨a1, a2⟩ := ar_wf hx ht
  obtain ⟨b1, b2⟩ := al_wf hy ht
  exact add_wf a1 b1 (sum_lt a2 b2)
theorem mx_key15 (k : Nat) {s sa d da : Nat} (hs : rung32 s < 2139095040) (hd : rung32 d < 2139095040) (ha : Al sa) (hb : Al da) : srung32 (mxV k s sa d da) = RS (mxZ k (sampleZ s) (sampleZ sa) (sampleZ d) (sampleZ da)) ∧ nanN (mxV k s sa d da) = false := nar_wf (mx_wf k hs hd ha hb)
theorem mst_key {x y t : Nat} (hx : rung32 x < 2139095040) (hy : rung32 y < 2139095040) (ht : Al t) : srung32 (mstV x y t) = RS (mstZ (sampleZ x) (sampleZ y) (sampleZ t)) ∧ nanN (mstV x y t) = false := nar_wf (mst_wf hx hy ht)
theorem mxZ_rises (k : Nat) {S T A D B : Int} (h : S ≤ T) (hA0 : 0 ≤ A) (hA : A ≤ UZ) (hB0 : 0 ≤ B) (hB : B ≤ UZ) : mxZ k S A D B ≤ mxZ k T A D B ∧ mxZ k D A S B ≤ mxZ k D A T B := by
  obtain ⟨r1, r2⟩ := rs_bd hA0 hA
  obtain ⟨r3, r4⟩ := rs_bd hB0 hB
  have m1 := RN_mono (pr_mono h r1)
  have m2 := RN_mono (pr_mono h r3)
  have m3 := RN_mono (pr_mono h hB0)
  constructor
  · match k with
    | 1 => exact (show RN (S + RN (prZ D (rsZ A))) ≤ RN (T + RN (prZ D (rsZ A))) from RN_mono (Int.add_le_add_right h _))
    | 2 => exact (show RN (prZ S B) ≤ RN (prZ T B) from m3)
    | 3 => exact (show RN (prZ S (rsZ B)) ≤ RN (prZ T (rsZ B)) from m2)
    | 4 => exact (show RN (RN (prZ S B) + RN (prZ D (rsZ A))) ≤ RN (RN (prZ T B) + RN (prZ D (rsZ A))) from RN_mono (Int.add_le_add_right m3 _))
    | 5 => exact (show RN (RN (prZ S (rsZ B)) + RN (prZ D (rsZ A))) ≤ RN (RN (prZ T (rsZ B)) + RN (prZ D (rsZ A))) from RN_mono (Int.add_le_add_right m2 _))
    | 0 => exact (show RN (S + D) ≤ RN (T + D) from RN_mono (Int.add_le_add_right h _))
    | n + 6 => exact (show RN (S + D) ≤ RN (T + D) from RN_mono (Int.add_le_add_right h _))
  · match k with
    | 1 => exact (show RN (D + RN (prZ S (rsZ A))) ≤ RN (D + RN (prZ T (rsZ A))) from RN_mono (Int.add_le_add_left m1 _))
    | 2 => exact (show RN (prZ D B) ≤ RN (prZ D B) from Int.le_refl _)
    | 3 => exact (show RN (prZ D (rsZ B)) ≤ RN (prZ D (rsZ B)) from Int.le_refl _)
    | 4 => exact (show RN (RN (prZ D B) + RN (prZ S (rsZ A))) ≤ RN (RN (prZ D B) + RN (prZ T (rsZ A))) from RN_mono (Int.add_le_add_left m1 _))
    | 5 => exact (show RN (RN (prZ D (rsZ B)) + RN (prZ S (rsZ A))) ≤ RN (RN (prZ D (rsZ B)) + RN (prZ T (rsZ A))) from RN_mono (Int.add_le_add_left m1 _))
    | 0 => exact (show RN (D + S) ≤ RN (D + T) from RN_mono (Int.add_le_add_left h _))
    | n + 6 => exact (show RN (D + S) ≤ RN (D + T) from RN_mono (Int.add_le_add_left h _))
end Go.Proofs.Ytkgojnjlfkijiaa

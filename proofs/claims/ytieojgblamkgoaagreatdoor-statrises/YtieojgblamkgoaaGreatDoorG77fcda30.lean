/- Quotients of words of binary64 by whole numbers, narrowed. Plain. (Out of BlJ.) -/
import Derived.Test.YtieojgblamkgoaaGreatDoorG63bb2d8b
import Derived.Test.YtieojgblamkgoaaGreatDoorG289660dc
import Derived.Test.YtieojgblamkgoaaGreatDoorGde10ca7a
import Derived.Test.YtieojgblamkgoaaGreatDoorGb73dfc15
import Derived.Test.YtieojgblamkgoaaGreatDoorGbc27328e
import Derived.Test.YtieojgblamkgoaaGreatDoorG68e1c248
import Derived.Test.YtieojgblamkgoaaGreatDoorGf88f0262
import Derived.Test.YtieojgblamkgoaaGreatDoorGf196db84
namespace Go.Proofs.YtieojgblamkgoaaGreatDoor
open Go.RowKit
set_option linter.unusedVariables false
set_option linter.unusedSimpArgs false

theorem RNb_mono {Y Z : Int} (h : Y ≤ Z) : RN Y ≤ RN Z := by
  unfold RN
  by_cases hy : Y < 0
  · rw [if_pos hy]
    by_cases hz : Z < 0
    · rw [if_pos hz]
      have := val_le64 (rung_mono Ieee.double (-1074) (show Z.natAbs ≤ Y.natAbs by omega))
      omega
    · rw [if_neg hz]; omega
  · rw [if_neg hy, if_neg (by omega)]
    have := val_le64 (rung_mono Ieee.double (-1074) (show Y.natAbs ≤ Z.natAbs by omega))
    omega
/-- A finite word of binary64 worth Z. -/
structure Wb (x : Nat) (Z : Int) : Prop where
  fin : rung64 x < 9218868437227405312
  val : sval64 x = Z
theorem Wb.prod {x : Nat} (hx : rung32 x < 2139095040) {y : Int} (h0 : y ≤ 268435456) (h1 : -268435456 ≤ y) : Wb (opT .mul (floatOfInt .f64 y) (wideW x)) (y * sampleZ x) := by
  obtain ⟨m, g, a, b, c⟩ := X_formq hx
  obtain ⟨f, v⟩ := (IsDq.prod hx h0 h1).sval a b c (Nat.le_trans (show y.natAbs ≤ 268435456 by omega) (by decide))
  exact ⟨f, v⟩
theorem Wb.add {x y : Nat} {X Y : Int} (hx : Wb x X) (hy : Wb y Y) (hs : (X + Y).natAbs.log2 ≤ 2000) : Wb (opT .add x y) (RN (X + Y)) := by
  show Wb (add64V x y) _
  unfold add64V
  rw [read_fin64 hx.fin, read_fin64 hy.fin]
  obtain ⟨N, c, e1, e2⟩ := sum_units (sgn64 x) (sgn64 y) (mag64 (rung64 x)) (mag64 (rung64 y)) (-1074 + (plc64 (rung64 x) : Int)) (-1074 + (plc64 (rung64 y) : Int)) (by omega) (by omega)
  rw [show (-1074 + (plc64 (rung64 x) : Int) + 1074).toNat = plc64 (rung64 x) by omega, show (-1074 + (plc64 (rung64 y) : Int) + 1074).toNat = plc64 (rung64 y) by omega, ← sval_signed64q, ← sval_signed64q, hx.val, hy.val] at e1 e2
  rw [e1, told64_numq, e2]
  obtain ⟨_, _, h1, h2⟩ := wordOf_facts (σ := sg (sgn64 x) (sgn64 y) (X + Y)) hs (fun h => sg_of h)
  exact ⟨h1, h2⟩
theorem log_powb {n e : Nat} (h : n ≤ 2 ^ e) (he : e ≤ 1990) : n.log2 ≤ 2000 := by
  by_cases h0 : n = 0
  · subst h0; decide
  · have h2 : n < 2 ^ (e + 1) := by rw [Nat.pow_add]; have := Nat.two_pow_pos e; omega
    have := (Nat.log2_lt h0).2 h2
    omega
/-- Sums of products, each rounded. -/
def racc (W : Nat → Int) (S : Nat → Nat) : Nat → Int
  | 0 => W 0 * sampleZ (S 0)
  | k + 1 => RN (racc W S k + W (k + 1) * sampleZ (S (k + 1)))
theorem samp_capb {a : Nat} (h : rung32 a < 2139095040) {y : Int} (h0 : y ≤ 268435456) (h1 : -268435456 ≤ y) {j : Nat} (hj : j = 1230) : (y * sampleZ a).natAbs ≤ 2 ^ j := by
  have hs : (sampleZ a).natAbs ≤ 2 ^ (j - 28) := by
    unfold sampleZ
    rw [signed_abs]
    have hp := plc_le32 h
    have h1 : mag32 (rung32 a) * 2 ^ (plc32 (rung32 a) + 925) < 2 ^ 24 * 2 ^ (plc32 (rung32 a) + 925) := Nat.mul_lt_mul_of_pos_right (mag_lt32 _) (Nat.two_pow_pos _)
    rw [← Nat.pow_add] at h1
    exact Nat.le_trans (Nat.le_of_lt h1) (Nat.pow_le_pow_right (by decide) (by omega))
  rw [Int.natAbs_mul]
  have e : 2 ^ j = 2 ^ 28 * 2 ^ (j - 28) := by rw [← Nat.pow_add]; congr 1; omega
  rw [e]
  refine Nat.mul_le_mul ?_ hs
  have : (2 : Nat) ^ 28 = 268435456 := by decide
  omega
theorem racc_mono {W : Nat → Int} {S T : Nat → Nat} : ∀ k : Nat, (∀ i, i ≤ k → 0 ≤ W i ∧ srung32 (S i) ≤ srung32 (T i)) → racc W S k ≤ racc W T k
  | 0, h => Int.mul_le_mul_of_nonneg_left (samp_le (h 0 (by omega)).2) (h 0 (by omega)).1
  | k + 1, h => by
    have i1 := racc_mono k (fun i hi => h i (by omega))
    have i2 := Int.mul_le_mul_of_nonneg_left (samp_le (h (k + 1) (by omega)).2) (h (k + 1) (by omega)).1
    exact RNb_mono (by omega)
/-- A number divided by a whole number, as a rung. -/
def qrg (k z : Nat) : Nat := rungOf Ieee.double (sqV z k 100) (-1074 - (100 : Nat) - 1)
theorem sqV_mono {k A z y : Nat} (hk : 0 < k) (h : z ≤ y) : sqV z k A ≤ sqV y k A := by
  unfold sqV
  have h1 : z * 2 ^ A ≤ y * 2 ^ A := Nat.mul_le_mul_right _ h
  generalize z * 2 ^ A = a at *
  generalize y * 2 ^ A = b at *
  have d1 := Nat.div_add_mod a k
  have d2 := Nat.div_add_mod b k
  have m1 := Nat.mod_lt a hk
  have m2 := Nat.mod_lt b hk
  have hd : a / k ≤ b / k := Nat.div_le_div_right h1
  rcases Nat.lt_or_ge (a / k) (b / k) with c | c
  · split <;> split <;> omega
  · have e : a / k = b / k := by omega
    rw [e] at d1 ⊢
    split <;> split <;> omega
theorem qrg_mono {k z y : Nat} (hk : 0 < k) (h : z ≤ y) : qrg k z ≤ qrg k y := rung_mono _ _ (sqV_mono hk h)
theorem qrg_exact {k X : Nat} (hk : 0 < k) : qrg k (k * X) = rungOf Ieee.double X (-1074) := by
  have e : sqV (k * X) k 100 = X * 2 ^ 101 := by
    unfold sqV
    have h1 : k * X * 2 ^ 100 = X * 2 ^ 100 * k := by rw [Nat.mul_comm k X, Nat.mul_assoc, Nat.mul_comm k, ← Nat.mul_assoc]
    rw [h1, Nat.mul_div_cancel _ hk, Nat.mul_mod_left, if_pos rfl, Nat.add_zero, show (2 : Nat) ^ 101 = 2 ^ 100 * 2 by decide, Nat.mul_comm 2 (X * 2 ^ 100), Nat.mul_assoc]
  unfold qrg
  rw [e, rung_scale]
  congr 1
theorem sqV_shift (m n A j : Nat) : sqV m (n * 2 ^ j) (A + j) = sqV m n A := by
  unfold sqV
  have hp := Nat.two_pow_pos j
  have e1 : m * 2 ^ (A + j) = m * 2 ^ A * 2 ^ j := by rw [Nat.pow_add, Nat.mul_assoc]
  rw [e1, Nat.mul_div_mul_right _ _ hp, Nat.mul_mod_mul_right]
  have : m * 2 ^ A % n * 2 ^ j = 0 ↔ m * 2 ^ A % n = 0 := by
    constructor
    · intro h
      rcases Nat.mul_eq_zero.1 h with c | c
      · exact c
      · omega
    · intro h; rw [h, Nat.zero_mul]
  by_cases h : m * 2 ^ A % n = 0
  · rw [if_pos h, if_pos (this.2 h)]
  · rw [if_neg h, if_neg (fun c => h (this.1 c))]
theorem quo_word {D k : Nat} {Z : Int} (hD : Wb D Z) (hk : 1 ≤ k) (hk2 : k ≤ 16384) : opT .quo D (floatOfInt .f64 (k : Int)) = Ieee.double.word (sgn64 D) (qrg k Z.natAbs) := by
  obtain ⟨j, p, hr, hp⟩ := read_weightq (y := (k : Int)) (by omega) (by omega)
  rw [decide_eq_false (by omega), hp (by omega), Int.natAbs_natCast] at hr
  have hv : Z.natAbs = mag64 (rung64 D) * 2 ^ plc64 (rung64 D) := by rw [← hD.val]; exact val_abs D
  unfold opT
  rw [read_fin64 hD.fin, hr]
  show told64 ((Ieee.Datum.number (sgn64 D) (mag64 (rung64 D)) (-1074 + (plc64 (rung64 D) : Int))).quotient 54 (.number false (k * 2 ^ j) (-(j : Int)))) = _
  have hn0 : k * 2 ^ j ≠ 0 := by have := Nat.mul_pos hk (Nat.two_pow_pos j); omega
  have em : (Ieee.Datum.number (sgn64 D) (mag64 (rung64 D)) (-1074 + (plc64 (rung64 D) : Int))).quotient 54 (.number false (k * 2 ^ j) (-(j : Int))) = some (.number (sgn64 D ^^ false) (sqV (mag64 (rung64 D)) (k * 2 ^ j) (54 + (k * 2 ^ j).log2 - (mag64 (rung64 D)).log2)) (-1074 + (plc64 (rung64 D) : Int) - (-(j : Int)) - ((54 + (k * 2 ^ j).log2 - (mag64 (rung64 D)).log2 : Nat) : Int) - 1)) := by
    rw [← sq_model]
    simp [Ieee.Datum.quotient, hn0]
  rw [em, told64_numq, Bool.xor_false]
  refine congrArg (Ieee.double.word (sgn64 D)) ?_
  by_cases hm : mag64 (rung64 D) = 0
  · rw [hm] at hv ⊢
    rw [hv, Nat.zero_mul]
    unfold qrg sqV
    simp [rungOf_zero]
  · have hd := quo_digits (m := mag64 (rung64 D)) (n := k * 2 ^ j) hm hn0 (d := 54) (by decide)
    have hlog : (k * 2 ^ j).log2 ≤ j + 14 := by
      have : k * 2 ^ j < 2 ^ (j + 15) := by
        rw [Nat.pow_add, Nat.mul_comm (2 ^ j)]
        exact Nat.mul_lt_mul_of_pos_right (by omega) (Nat.two_pow_pos j)
      have := (Nat.log2_lt hn0).2 this
      omega
    have hl := sq_link Ieee.double (m := mag64 (rung64 D)) (n := k * 2 ^ j) (A := plc64 (rung64 D) + 100 + j) (B := 54 + (k * 2 ^ j).log2 - (mag64 (rung64 D)).log2) (-1074 + (plc64 (rung64 D) : Int) - (-(j : Int))) (by omega) (by omega) hd
    rw [← hl, sqV_shift, show sqV (mag64 (rung64 D)) k (plc64 (rung64 D) + 100) = sqV Z.natAbs k 100 by unfold sqV; rw [hv, Nat.pow_add, Nat.mul_assoc]]
    unfold qrg
    congr 1
    omega
theorem qrg_fin {k z e : Nat} (hk : 1 ≤ k) (hz : z ≤ 2 ^ e) (he : e ≤ 1900) : qrg k z < 9218868437227405312 := by
  have h1 : qrg k z ≤ qrg k (k * 2 ^ e) := qrg_mono hk (Nat.le_trans hz (Nat.le_mul_of_pos_left _ hk))
  rw [qrg_exact hk] at h1
  have h2 : val64 (rungOf Ieee.double (2 ^ e) (-1074)) = 2 ^ e := vN_exact (g := e) (log_powb (Nat.le_refl _) (by omega)) ⟨1, by omega⟩ (by rw [Nat.pow_add]; have := Nat.two_pow_pos e; omega)
  have h3 : rungOf Ieee.double (2 ^ e) (-1074) < 9218868437227405312 := by
    refine val_inj_lt64.1 ?_
    rw [h2]
    show 2 ^ e < mag64 9218868437227405312 * 2 ^ plc64 9218868437227405312
    obtain ⟨P, hP, hP2⟩ : ∃ P, plc64 9218868437227405312 = P ∧ 2046 ≤ P := ⟨_, rfl, by decide⟩
    rw [show mag64 9218868437227405312 = 2 ^ 52 by decide, hP, ← Nat.pow_add]
    exact Nat.pow_lt_pow_right (by decide) (by omega)
  omega
/-- The signed value of a quotient. -/
def qsv (k : Nat) (Z : Int) : Int := if Z < 0 then -(val64 (qrg k Z.natAbs) : Int) else (val64 (qrg k Z.natAbs) : Int)
theorem qsv_mono {k : Nat} (hk : 1 ≤ k) {Y Z : Int} (h : Y ≤ Z) : qsv k Y ≤ qsv k Z := by
  unfold qsv
  by_cases hy : Y < 0
  · rw [if_pos hy]
    by_cases hz : Z < 0
    · rw [if_pos hz]
      have := val_le64 (qrg_mono (k := k) hk (show Z.natAbs ≤ Y.natAbs by omega))
      omega
    · rw [if_neg hz]; omega
  · rw [if_neg hy, if_neg (by omega)]
    have := val_le64 (qrg_mono (k := k) hk (show Y.natAbs ≤ Z.natAbs by omega))
    omega
theorem nar_quo {D k e : Nat} {Z : Int} (hD : Wb D Z) (hk : 1 ≤ k) (hk2 : k ≤ 16384) (hz : Z.natAbs ≤ 2 ^ e) (he : e ≤ 1900) : srung32 (narW (opT .quo D (floatOfInt .f64 (k : Int)))) = RS (qsv k Z) ∧ nanN (narW (opT .quo D (floatOfInt .f64 (k : Int)))) = false := by
  rw [quo_word hD hk hk2]
  have hf := qrg_fin hk hz he
  obtain ⟨k1, k2⟩ := sgn_word64 (sgn64 D) (r := qrg k Z.natAbs) (by omega)
  unfold narW
  rw [read_fin64 (by rw [k2]; exact hf), k1, k2]
  have hsz : Z ≠ 0 → sgn64 D = decide (Z < 0) := fun h => by
    have := signed_sign (s := sgn64 D) (m := mag64 (rung64 D)) (k := plc64 (rung64 D))
    rw [← sval_signed64q, hD.val] at this
    exact this h
  have habs : (qsv k Z).natAbs = val64 (qrg k Z.natAbs) := by unfold qsv; split <;> omega
  refine srung_told (fun h => ?_) ?_
  · have hZ : Z ≠ 0 := fun e => h (by
      rw [e]; unfold qsv qrg sqV
      simp [rungOf_zero]
      decide)
    rw [hsz hZ]
    refine decide_eq_decide.2 ⟨fun g => ?_, fun g => ?_⟩
    · have : qsv k Z = -(val64 (qrg k Z.natAbs) : Int) := by unfold qsv; rw [if_pos g]
      omega
    · rcases Int.lt_or_le Z 0 with c | c
      · exact c
      · have : qsv k Z = (val64 (qrg k Z.natAbs) : Int) := by unfold qsv; rw [if_neg (by omega)]
        omega
  · rw [habs]
    unfold val64
    rw [rung_scale]
theorem qsv_exact {k x : Nat} (hx : rung32 x < 2139095040) (hk : 1 ≤ k) : qsv k ((k : Int) * sampleZ x) = sampleZ x := by
  obtain ⟨m, g, a, b, c⟩ := X_formq hx
  have hv := (kX_valq (X := sampleZ x) (k := 1) a b c (by decide)).1
  rw [Int.one_mul] at hv
  have ha : ((k : Int) * sampleZ x).natAbs = k * (sampleZ x).natAbs := by rw [Int.natAbs_mul, Int.natAbs_natCast]
  unfold qsv
  rw [ha, qrg_exact hk, hv]
  rcases Int.lt_or_le (sampleZ x) 0 with h | h
  · rw [if_pos (Int.mul_neg_of_pos_of_neg (by omega) h)]; omega
  · rw [if_neg (by have := Int.mul_nonneg (show (0 : Int) ≤ (k : Int) by omega) h; omega)]; omega
end Go.Proofs.YtieojgblamkgoaaGreatDoor
/- Plain facts: samples made whole by way of binary64; whole numbers as samples. -/
namespace Go.Proofs.YtieojgblamkgoaaGreatDoor
open Go.RowKit

theorem frac32 : Ieee.single.fractionBits = 23 := rfl
/-- How many digits a number in least units loses. -/
def lostK32 (M : Nat) : Nat := M.log2 - 23
theorem kept_bd32 {M : Nat} : rne M (lostK32 M) ≤ 16777216 ∧ (0 < lostK32 M → 8388608 ≤ rne M (lostK32 M)) := by
  have e1 : lastOf Ieee.single M (-149) = -149 + (lostK32 M : Int) := by unfold lastOf lostK32; rw [least32, frac32]; omega
  have e3 : (-149 : Int) - (-149 + (lostK32 M : Int)) = -(lostK32 M : Int) := by omega
  have hk := kept_le Ieee.single M (-149)
  rw [e1, e3, rz_neg, binade32] at hk
  refine ⟨hk, fun h => ?_⟩
  have hM : M ≠ 0 := by intro h0; subst h0; exact absurd h (by decide)
  have := le_kept Ieee.single hM (-149) (by rw [e1, frac32]; unfold lostK32 at *; omega)
  rw [e1, e3, rz_neg, binade32] at this
  exact this
theorem rung32_eq {M : Nat} (hM : M.log2 ≤ 270) : rungOf Ieee.single M (-149) = lostK32 M * 8388608 + rne M (lostK32 M) := by
  by_cases h : M = 0
  · subst h
    rw [rungOf_zero, show lostK32 0 = 0 from by decide, rne_zero]
  · unfold rungOf
    rw [if_neg h]
    have e1 : lastOf Ieee.single M (-149) = -149 + (lostK32 M : Int) := by unfold lastOf lostK32; rw [least32, frac32]; omega
    have e2 : (-149 + (lostK32 M : Int) - -149).toNat = lostK32 M := by omega
    have e3 : (-149 : Int) - (-149 + (lostK32 M : Int)) = -(lostK32 M : Int) := by omega
    rw [e1, least32, binade32, inf32, e2, e3, rz_neg]
    have hk := (kept_bd32 (M := M)).1
    have hl : lostK32 M ≤ 247 := by unfold lostK32; omega
    rw [Nat.min_eq_left (by omega)]
theorem val_of32 {K c : Nat} (h : c ≤ 16777216) (h' : 0 < K → 8388608 ≤ c) : val32 (K * 8388608 + c) = c * 2 ^ K := by
  unfold val32 mag32
  rcases Nat.lt_or_ge c 16777216 with g | g
  · rcases Nat.lt_or_ge c 8388608 with k | k
    · have hK : K = 0 := by omega
      subst hK
      have e : plc32 (0 * 8388608 + c) = 0 := by unfold plc32; omega
      rw [e]; congr 1; omega
    · have e : plc32 (K * 8388608 + c) = K := by unfold plc32; omega
      rw [e]; congr 1; omega
  · have e : plc32 (K * 8388608 + c) = K + 1 := by unfold plc32; omega
    rw [e, Nat.pow_succ]
    have e2 : K * 8388608 + c - (K + 1) * 8388608 = 8388608 := by omega
    have e3 : c = 8388608 * 2 := by omega
    rw [e2, e3, Nat.mul_assoc, Nat.mul_comm (2 ^ K) 2]
theorem vN_eq32 {M : Nat} (hM : M.log2 ≤ 270) : val32 (rungOf Ieee.single M (-149)) = rne M (lostK32 M) * 2 ^ lostK32 M := by
  rw [rung32_eq hM, val_of32 kept_bd32.1 kept_bd32.2]
theorem vN_div32 {M : Nat} (hM : M.log2 ≤ 270) (h : 2 ^ lostK32 M ∣ M) : val32 (rungOf Ieee.single M (-149)) = M := by
  rw [vN_eq32 hM]
  obtain ⟨o, ho⟩ := h
  have : rne M (lostK32 M) = o := by
    have e := rne_exact o (lostK32 M)
    rw [Nat.mul_comm, ← ho] at e
    exact e
  rw [this, Nat.mul_comm, ← ho]
theorem vN_exact32 {M g : Nat} (hM : M.log2 ≤ 270) (hd : 2 ^ g ∣ M) (hb : M < 2 ^ (24 + g)) : val32 (rungOf Ieee.single M (-149)) = M := by
  by_cases h0 : M = 0
  · subst h0; rw [rungOf_zero]; exact val_zero32
  · refine vN_div32 hM ?_
    have hl := (Nat.log2_lt h0).2 hb
    exact Nat.dvd_trans (Nat.pow_dvd_pow 2 (by unfold lostK32; omega)) hd

theorem cut_down (neg : Bool) (n d : Nat) : Ieee.Toward.down.cut neg n d = n / 2 ^ d + (neg && decide (n % 2 ^ d ≠ 0)).toNat := by
  unfold Ieee.Toward.cut
  have h1 : n < 2 ^ (n.log2 + 1) := Nat.lt_log2_self
  show n / (1 <<< min d (n.log2 + 2)) + (neg && (n % (1 <<< min d (n.log2 + 2)) != 0)).toNat = _
  rw [Nat.shiftLeft_eq, Nat.one_mul]
  have hb : ∀ x : Nat, (x != 0) = decide (x ≠ 0) := by intro x; cases x <;> rfl
  rw [hb]
  rcases Nat.le_total d (n.log2 + 2) with h | h
  · rw [Nat.min_eq_left h]
  · rw [Nat.min_eq_right h]
    have h2 : 2 ^ (n.log2 + 1) ≤ 2 ^ (n.log2 + 2) := Nat.pow_le_pow_right (by decide) (by omega)
    have h3 : 2 ^ (n.log2 + 2) ≤ 2 ^ d := Nat.pow_le_pow_right (by decide) h
    rw [Nat.div_eq_of_lt (by omega), Nat.div_eq_of_lt (by omega), Nat.mod_eq_of_lt (by omega), Nat.mod_eq_of_lt (by omega)]
/-- Down or to the nearest: the value decides. -/
theorem cut_scale {way : Ieee.Toward} (hw : way = .down ∨ way = .even) (neg : Bool) (n d k : Nat) : way.cut neg (n * 2 ^ k) (d + k) = way.cut neg n d := by
  rcases hw with rfl | rfl
  · rw [cut_down, cut_down]
    have hk := Nat.two_pow_pos k
    have e1 : n * 2 ^ k / 2 ^ (d + k) = n / 2 ^ d := by rw [Nat.pow_add, Nat.mul_div_mul_right _ _ hk]
    have e2 : n * 2 ^ k % 2 ^ (d + k) = n % 2 ^ d * 2 ^ k := by rw [Nat.pow_add, Nat.mul_mod_mul_right]
    rw [e1, e2]
    congr 2
    congr 1
    rw [decide_eq_decide]
    constructor
    · intro h h0; rw [h0, Nat.zero_mul] at h; exact h rfl
    · intro h h0
      rcases Nat.mul_eq_zero.1 h0 with g | g
      · exact h g
      · omega
  · rw [cut_rne, cut_rne, rne_scale]
theorem cut_0 {way : Ieee.Toward} (hw : way = .down ∨ way = .even) (neg : Bool) (n : Nat) : way.cut neg n 0 = n := by
  rcases hw with rfl | rfl
  · rw [cut_down, Nat.pow_zero, Nat.div_one, Nat.mod_one]
    cases neg <;> rfl
  · rw [cut_rne, rne_zero]
theorem cut_le {way : Ieee.Toward} (hw : way = .down ∨ way = .even) (neg : Bool) (n d : Nat) : way.cut neg n d ≤ n / 2 ^ d + 1 := by
  rcases hw with rfl | rfl
  · rw [cut_down]
    have := Bool.toNat_lt (neg && decide (n % 2 ^ d ≠ 0))
    omega
  · rw [cut_rne]; unfold rne; split <;> omega

/-- A number made whole. -/
def wholeN (way : Ieee.Toward) (s : Bool) (m : Nat) (p : Int) : Nat := way.cut s (m <<< p.toNat) (-p).toNat
theorem wholeN_scale {way : Ieee.Toward} (hw : way = .down ∨ way = .even) (s : Bool) (m j : Nat) (p : Int) : wholeN way s (m * 2 ^ j) (p - j) = wholeN way s m p := by
  unfold wholeN
  rw [Nat.shiftLeft_eq, Nat.shiftLeft_eq]
  rcases Int.lt_or_le (p - j) 0 with h | h
  · rw [show (p - (j : Int)).toNat = 0 by omega, Nat.pow_zero, Nat.mul_one]
    rcases Int.lt_or_le p 0 with g | g
    · rw [show p.toNat = 0 by omega, Nat.pow_zero, Nat.mul_one, show (-(p - (j : Int))).toNat = (-p).toNat + j by omega, cut_scale hw]
    · obtain ⟨q, rfl⟩ := Int.eq_ofNat_of_zero_le g
      have e : m * 2 ^ j = m * 2 ^ q * 2 ^ (j - q) := by rw [Nat.mul_assoc, ← Nat.pow_add, show q + (j - q) = j by omega]
      rw [e, show (-((q : Int) - (j : Int))).toNat = 0 + (j - q) by omega, cut_scale hw, show ((q : Int)).toNat = q by omega, show (-(q : Int)).toNat = 0 by omega]
  · rw [show (-(p - (j : Int))).toNat = 0 by omega, show (-p).toNat = 0 by omega, cut_0 hw, cut_0 hw, Nat.mul_assoc, ← Nat.pow_add, show j + (p - (j : Int)).toNat = p.toNat by omega]
theorem wholeN_zero {way : Ieee.Toward} (hw : way = .down ∨ way = .even) (s : Bool) (p : Int) : wholeN way s 0 p = 0 := by
  unfold wholeN
  rw [Nat.shiftLeft_eq, Nat.zero_mul]
  rcases hw with rfl | rfl
  · rw [cut_down, Nat.zero_div, Nat.zero_mod]; cases s <;> rfl
  · rw [cut_rne]
    have := rne_exact 0 (-p).toNat
    rw [Nat.zero_mul] at this; exact this
/-- A finite sample, wide, made whole. -/
theorem integral_wide {way : Ieee.Toward} (hw : way = .down ∨ way = .even) {a : Nat} (h : rung32 a < 2139095040) :
    (Ieee.double.read (wideN a)).integral way = .number (sgn32 a) (wholeN way (sgn32 a) (mag32 (rung32 a)) (-149 + (plc32 (rung32 a) : Int))) 0 := by
  by_cases z : rung32 a = 0
  · rw [wide_zero z, read_word64, z, show mag32 0 = 0 from by decide, wholeN_zero hw]
    show Ieee.Datum.number (sgn32 a) (wholeN way (sgn32 a) 0 (-1074)) 0 = _
    rw [wholeN_zero hw]
  · obtain ⟨L, hL, m0, m1, e, hp⟩ := wide_wd z h
    have b0 : 4503599627370496 ≤ mag32 (rung32 a) * 2 ^ (52 - L) := by
      have := Nat.mul_le_mul_right (2 ^ (52 - L)) m0
      rw [← Nat.pow_add, show L + (52 - L) = 52 by omega] at this
      exact this
    have b1 : mag32 (rung32 a) * 2 ^ (52 - L) < 9007199254740992 := by
      have := Nat.mul_lt_mul_of_pos_right m1 (Nat.two_pow_pos (52 - L))
      rw [← Nat.pow_add, show L + 1 + (52 - L) = 53 by omega] at this
      exact this
    rw [e, read_wd b0 b1 (by omega) (by omega)]
    show Ieee.Datum.number (sgn32 a) (wholeN way (sgn32 a) (mag32 (rung32 a) * 2 ^ (52 - L)) (-149 + (plc32 (rung32 a) : Int) + L - 52)) 0 = _
    have := wholeN_scale hw (sgn32 a) (mag32 (rung32 a)) (52 - L) (-149 + (plc32 (rung32 a) : Int))
    rw [show -149 + (plc32 (rung32 a) : Int) - ((52 - L : Nat) : Int) = -149 + (plc32 (rung32 a) : Int) + L - 52 by omega] at this
    rw [this]
/-- What a whole number is as a word, and that word as a whole number. -/
theorem whole_word {s : Bool} {N o k : Nat} (hN : N = o * 2 ^ k) (ho : o < 2 ^ 53) (hk : k ≤ 200) :
    Ieee.double.write (.number s N 0) = wordOf s (Ieee.signed s o (k + 1074)) ∧ rung64 (Ieee.double.write (.number s N 0)) < 9218868437227405312 ∧ sgn64 (Ieee.double.write (.number s N 0)) = s ∧
      ∃ E : Nat, E = 1074 ∧ sval64 (Ieee.double.write (.number s N 0)) = Ieee.signed s N E := by
  obtain ⟨E, hE⟩ : ∃ E : Nat, E = 1074 := ⟨_, rfl⟩
  have e1 : Ieee.double.write (.number s N 0) = wordOf s (Ieee.signed s o (k + 1074)) := by
    show Ieee.double.nearest s N 0 = _
    rw [nearest_rung]
    unfold wordOf
    rw [signed_abs, ← hE, Nat.pow_add, ← Nat.mul_assoc, ← hN, rung_scale, show (-1074 : Int) + (E : Int) = 0 by omega]
  obtain ⟨a, b, c⟩ := units_word (s := s) (m := o) (k := k + 1074) ho (by omega)
  rw [e1]
  refine ⟨rfl, a, b, E, hE, ?_⟩
  rw [c, ← hE]
  unfold Ieee.signed
  rw [Nat.shiftLeft_eq, Nat.shiftLeft_eq, hN, Nat.pow_add, ← Nat.mul_assoc]
theorem trunc_whole {x N E : Nat} {s : Bool} (hx : rung64 x < 9218868437227405312) (hs : sgn64 x = s) (hE : E = 1074) (hv : sval64 x = Ieee.signed s N E) : truncV x = Ieee.signed s N 0 := by
  rw [(trunc_fin hx).2, hs]
  have hval : mag64 (rung64 x) * 2 ^ plc64 (rung64 x) = N * 2 ^ E := by
    have := val_abs x
    rw [hv, signed_abs] at this
    exact this.symm
  have key : mag64 (rung64 x) * 2 ^ (-1074 + (plc64 (rung64 x) : Int)).toNat / 2 ^ (-(-1074 + (plc64 (rung64 x) : Int))).toNat = N := by
    rcases Nat.le_total E (plc64 (rung64 x)) with g | g
    · rw [show (-1074 + (plc64 (rung64 x) : Int)).toNat = plc64 (rung64 x) - E by omega, show (-(-1074 + (plc64 (rung64 x) : Int))).toNat = 0 by omega, Nat.pow_zero, Nat.div_one]
      have : mag64 (rung64 x) * 2 ^ (plc64 (rung64 x) - E) * 2 ^ E = N * 2 ^ E := by
        rw [Nat.mul_assoc, ← Nat.pow_add, show plc64 (rung64 x) - E + E = plc64 (rung64 x) by omega]; exact hval
      exact Nat.eq_of_mul_eq_mul_right (Nat.two_pow_pos E) this
    · rw [show (-1074 + (plc64 (rung64 x) : Int)).toNat = 0 by omega, Nat.pow_zero, Nat.mul_one, show (-(-1074 + (plc64 (rung64 x) : Int))).toNat = E - plc64 (rung64 x) by omega]
      have : mag64 (rung64 x) * 2 ^ plc64 (rung64 x) = N * 2 ^ (E - plc64 (rung64 x)) * 2 ^ plc64 (rung64 x) := by
        rw [Nat.mul_assoc N, ← Nat.pow_add, show E - plc64 (rung64 x) + plc64 (rung64 x) = E by omega]; exact hval
      have := Nat.eq_of_mul_eq_mul_right (Nat.two_pow_pos _) this
      rw [this, Nat.mul_div_cancel _ (Nat.two_pow_pos _)]
  rw [key]
theorem in_whole {x N E : Nat} {s : Bool} (hx : rung64 x < 9218868437227405312) (hE : E = 1074) (hv : sval64 x = Ieee.signed s N E) :
    inWhole x = decide (-9223372036854775808 ≤ Ieee.signed s N 0 ∧ Ieee.signed s N 0 < 9223372036854775808) := by
  have hn : nan64 x = false := by rw [nan64_rung]; exact decide_eq_false (by omega)
  have hp : (0 : Int) < 2 ^ E := Int.pow_pos (by decide)
  have e0 : sval64 x = Ieee.signed s N 0 * 2 ^ E := by
    rw [hv, signed_shift]
    unfold Ieee.signed
    rw [Nat.shiftLeft_eq, Nat.shiftLeft_zero, Nat.zero_add]
  have c1 : sval64 4890909195324358656 = 9223372036854775808 * 2 ^ E := by
    unfold sval64 val64
    rw [show sgn64 4890909195324358656 = false from by decide, show rung64 4890909195324358656 = 4890909195324358656 from by decide, show mag64 4890909195324358656 = 4503599627370496 from by decide, show plc64 4890909195324358656 = 11 + E from by rw [hE]; decide, Nat.pow_add]
    simp only [Bool.false_eq_true, if_false]
    rw [← Nat.mul_assoc, show (4503599627370496 * 2 ^ 11 : Nat) = 9223372036854775808 from rfl, Int.natCast_mul, Int.natCast_pow]
    rfl
  have c2 : sval64 14114281232179134464 = -9223372036854775808 * 2 ^ E := by
    unfold sval64 val64
    rw [show sgn64 14114281232179134464 = true from by decide, show rung64 14114281232179134464 = 4890909195324358656 from by decide, show mag64 4890909195324358656 = 4503599627370496 from by decide, show plc64 4890909195324358656 = 11 + E from by rw [hE]; decide, Nat.pow_add]
    simp only [if_true]
    rw [← Nat.mul_assoc, Int.neg_mul, show (4503599627370496 * 2 ^ 11 : Nat) = 9223372036854775808 from rfl, Int.natCast_mul, Int.natCast_pow]
    rfl
  have k1 := sval_srung64 x 4890909195324358656
  have k2 := sval_srung64 x 14114281232179134464
  rw [whole_hi, c1, e0, cmp_scale hp] at k1
  rw [whole_lo, c2, e0, cmp_scale hp] at k2
  have l1 : srung64 x < 4890909195324358656 ↔ Ieee.signed s N 0 < 9223372036854775808 := by rw [← Int.compare_eq_lt, ← Int.compare_eq_lt, k1]
  have l2 : srung64 x < -4890909195324358656 ↔ Ieee.signed s N 0 < -9223372036854775808 := by rw [← Int.compare_eq_lt, ← Int.compare_eq_lt, k2]
  unfold inWhole
  rw [hn, Bool.not_false, Bool.true_and, ← Bool.decide_and, decide_eq_decide]
  omega
/-- What Floor and Nearest tell of a finite sample. -/
theorem flo_fin {way : Ieee.Toward} (hw : way = .down ∨ way = .even) {a : Nat} (h : rung32 a < 2139095040) :
    ∃ V, V = Ieee.signed (sgn32 a) (wholeN way (sgn32 a) (mag32 (rung32 a)) (-149 + (plc32 (rung32 a) : Int))) 0 ∧
      floI way a = (if -9223372036854775808 ≤ V ∧ V < 9223372036854775808 then V else 0) ∧ floE way a = (if -9223372036854775808 ≤ V ∧ V < 9223372036854775808 then 0 else 20) := by
  obtain ⟨N, hN⟩ : ∃ N, N = wholeN way (sgn32 a) (mag32 (rung32 a)) (-149 + (plc32 (rung32 a) : Int)) := ⟨_, rfl⟩
  have hm := mag_lt32 (rung32 a)
  have hp := plc_le32 h
  have hf : ∃ o k, N = o * 2 ^ k ∧ o < 2 ^ 53 ∧ k ≤ 200 := by
    rcases Int.lt_or_le (-149 + (plc32 (rung32 a) : Int)) 0 with g | g
    · refine ⟨N, 0, by rw [Nat.pow_zero, Nat.mul_one], ?_, by omega⟩
      rw [hN]
      unfold wholeN
      have := cut_le hw (sgn32 a) (mag32 (rung32 a) <<< (-149 + (plc32 (rung32 a) : Int)).toNat) (-(-149 + (plc32 (rung32 a) : Int))).toNat
      have k1 : mag32 (rung32 a) <<< (-149 + (plc32 (rung32 a) : Int)).toNat = mag32 (rung32 a) := by
        rw [show (-149 + (plc32 (rung32 a) : Int)).toNat = 0 by omega, Nat.shiftLeft_zero]
      rw [k1] at this ⊢
      have k2 := Nat.div_le_self (mag32 (rung32 a)) (2 ^ (-(-149 + (plc32 (rung32 a) : Int))).toNat)
      omega
    · refine ⟨mag32 (rung32 a), (-149 + (plc32 (rung32 a) : Int)).toNat, ?_, by omega, by omega⟩
      rw [hN]
      unfold wholeN
      rw [show (-(-149 + (plc32 (rung32 a) : Int))).toNat = 0 by omega, cut_0 hw, Nat.shiftLeft_eq]
  obtain ⟨o, k, e1, e2, e3⟩ := hf
  obtain ⟨w1, w2, w3, E, w4, w5⟩ := whole_word (s := sgn32 a) e1 e2 e3
  have hfl : flD way (wideN a) = Ieee.double.write (.number (sgn32 a) N 0) := by
    unfold flD; rw [integral_wide hw h, hN]
  have hnn := fin_num h
  refine ⟨_, rfl, ?_, ?_⟩
  · unfold floI wholeI
    rw [hnn, if_neg (by decide), hfl, in_whole w2 w4 w5, trunc_whole w2 w3 w4 w5, ← hN]
    simp only [decide_eq_true_eq]
  · unfold floE wholeE
    rw [hnn, if_neg (by decide), hfl, in_whole w2 w4 w5, ← hN]
    simp only [decide_eq_true_eq]
theorem flo_inf {way : Ieee.Toward} {a : Nat} (h : rung32 a = 2139095040) : floI way a = 0 ∧ floE way a = 20 := by
  have e : flD way (wideN a) = Ieee.double.word (sgn32 a) 9218868437227405312 := by
    unfold flD
    rw [wide_read_inf h]
    show Ieee.double.write (.infinity (sgn32 a)) = _
    rw [write_inf]
  have hi : inWhole (Ieee.double.word (sgn32 a) 9218868437227405312) = false := by
    cases sgn32 a <;> decide
  unfold floI floE wholeI wholeE
  rw [inf_num h, e, hi]
  exact ⟨rfl, rfl⟩
theorem flo_nan {way : Ieee.Toward} {a : Nat} (h : nanN a = true) : floI way a = 0 ∧ floE way a = 20 := by
  unfold floI floE; rw [h]; exact ⟨rfl, rfl⟩
end Go.Proofs.YtieojgblamkgoaaGreatDoor
/- stat, plain: shares of counts as samples. -/
namespace Go.Proofs.YtieojgblamkgoaaGreatDoor
open Go.RowKit
set_option linter.unusedVariables false
set_option linter.unusedSimpArgs false

theorem told_nans {d : Ieee.Datum} (h : d.isNaN = true) : nan64 (told64 (some d)) = true := by
  unfold told64
  cases d <;> simp_all [Ieee.Datum.isNaN] <;> decide
/-- m of n, as a sample. -/
def shN (m n : Nat) : Nat := narW (opT .quo (floatOfInt .f64 (m : Int)) (floatOfInt .f64 (n : Int)))
theorem int_wbs {k : Nat} (hk : k ≤ 16384) : ∃ E : Nat, E = 1074 ∧ Wb (floatOfInt .f64 (k : Int)) (((k * 2 ^ E : Nat) : Int)) ∧ sgn64 (floatOfInt .f64 (k : Int)) = false := by
  have e : floatOfInt .f64 (k : Int) = Ieee.double.write (.number false k 0) := by
    show Ieee.double.write (.number (decide ((k : Int) < 0)) ((k : Int)).natAbs 0) = _
    rw [decide_eq_false (by omega), Int.natAbs_natCast]
  obtain ⟨w1, w2, w3, E, w4, w5⟩ := whole_word (s := false) (N := k) (o := k) (k := 0) (by rw [Nat.pow_zero, Nat.mul_one]) (Nat.lt_of_le_of_lt hk (by decide)) (by omega)
  rw [e]
  refine ⟨E, w4, ⟨w2, ?_⟩, w3⟩
  rw [w5, signed_pos]
theorem quo_sh {m n : Nat} (h0 : 1 ≤ n) (h1 : n ≤ 16384) (hm : m ≤ n) : ∃ E : Nat, E = 1074 ∧ opT .quo (floatOfInt .f64 (m : Int)) (floatOfInt .f64 (n : Int)) = Ieee.double.word false (qrg n (m * 2 ^ E)) ∧ qrg n (m * 2 ^ E) ≤ 4607182418800017408 := by
  obtain ⟨E, hE, hw, hs⟩ := int_wbs (k := m) (by omega)
  refine ⟨E, hE, ?_, ?_⟩
  · rw [quo_word hw (by omega) (by omega), hs, Int.natAbs_natCast]
  · refine Nat.le_trans (qrg_mono (by omega) (Nat.mul_le_mul_right _ hm)) ?_
    rw [qrg_exact (by omega), hE]
    decide +kernel
theorem sh_conv {m n : Nat} (h0 : 1 ≤ n) (h1 : n ≤ 16384) (hm : m ≤ n) : ∃ r, floatBits .quo .f64 (floatOfInt .f64 (m : Int)) (floatOfInt .f64 (n : Int)) = some r ∧ floatToFloatBits .f64 r .f32 = some (shN m n) := by
  obtain ⟨E, hE, e1, e2⟩ := quo_sh h0 h1 hm
  have hx : rung64 (Ieee.double.word false (qrg n (m * 2 ^ E))) < 5183643170835005440 := by
    rw [(sgn_word64 false (by omega)).2]; omega
  have hnn : nan64 (Ieee.double.word false (qrg n (m * 2 ^ E))) = false := by rw [nan64_rung]; exact decide_eq_false (by omega)
  have hlv : shN m n = Ieee.single.write (Ieee.double.read (Ieee.double.word false (qrg n (m * 2 ^ E)))) := by
    unfold shN
    rw [e1]
    unfold narW
    rw [toldD_some (read64_num hnn)]
  refine ⟨Ieee.double.word false (qrg n (m * 2 ^ E)), ?_, ?_⟩
  · unfold opT opD at e1
    show ((Ieee.double.read (floatOfInt .f64 (m : Int))).quotient 54 (Ieee.double.read (floatOfInt .f64 (n : Int)))).map Ieee.double.write = _
    cases hq : (Ieee.double.read (floatOfInt .f64 (m : Int))).quotient 54 (Ieee.double.read (floatOfInt .f64 (n : Int))) with
    | none =>
      exfalso
      have e1' : told64 none = Ieee.double.word false (qrg n (m * 2 ^ E)) := by rw [← hq]; exact e1
      have : nan64 (told64 none) = true := by decide
      rw [e1', hnn] at this
      cases this
    | some d =>
      have e1' : told64 (some d) = Ieee.double.word false (qrg n (m * 2 ^ E)) := by rw [← hq]; exact e1
      show some (Ieee.double.write d) = _
      cases hd : d.isNaN with
      | false => rw [told64_some hd] at e1'; rw [e1']
      | true =>
        exfalso
        have : nan64 (told64 (some d)) = true := told_nans hd
        rw [e1', hnn] at this
        cases this
  · rw [nar_conv hx, hlv]
theorem qsh_word {r : Nat} (h : r ≤ 4607182418800017408) : ∃ x, toldD (some (Ieee.double.read (Ieee.double.word false r))) = x ∧ x < 4294967296 := ⟨_, rfl, toldD_lt _⟩
theorem shN_lt (m n : Nat) : shN m n < 4294967296 := toldD_lt _
end Go.Proofs.YtieojgblamkgoaaGreatDoor
/- stat: shares as samples, how many up to each class, planes levelled. -/
namespace Go.Proofs.YtieojgblamkgoaaGreatDoor
open Go.RowKit
set_option linter.unusedVariables false
set_option linter.unusedSimpArgs false

set_option maxHeartbeats 1000000 in
theorem sshr_any (m n : Nat) (h0 : 1 ≤ n) (h1 : n ≤ 16384) (hm : m ≤ n) (w : World) : Calls Tryz.prog 84 #[.int .i64 (m : Int), .int .i64 (n : Int)] w fun e w' => e = .returned (.int .u32 (shN m n : Nat)) ∧ w' = w := by
  have l2 := f32bits
  obtain ⟨r, hr, hc⟩ := sh_conv h0 h1 hm
  have l5 := fun w => run_float_arith (P := Tryz.prog) w .quo 108 .f64 _ _ r hr
  have l1 := fun w => run_convert_float_float (P := Tryz.prog) w 108 64 .f64 .f32 r _ (by kernel_rfl) Tryz.underlying64 hc
  have HL : Hid (shN m n < 4294967296) := shN_lt m n
  clear hr hc
  generalize shN m n = z at *
  go_enter Tryz.func84, Tryz.ntmps84
  go_wp2_with fail
  go_ret
  exact ⟨rfl, rfl⟩
theorem preN_big (c : Nat → Nat) (B : Nat) (hc : ∀ j, preN c j ≤ B) (j : Nat) : c j ≤ B := by
  have := hc j
  cases j with
  | zero => exact this
  | succ j => unfold preN at this; omega
set_option maxHeartbeats 4000000 in
set_option maxRecDepth 100000 in
theorem upto_any (b H kc : Nat) (c : Nat → Nat) (w : World) (h2 : b ≤ 12) (hT : VR w H (2 ^ b) (fun j => .int .i64 (c j : Nat))) (hc : ∀ j, preN c j ≤ 35184372087808) :
    Calls Tryz.prog 82 #[talV b H kc] w fun e w' => ∃ G, e = .returned (.slice (some ⟨G, 0, none⟩) (2 ^ b) (2 ^ b)) ∧ VR w' G (2 ^ b) (fun j => .int .i64 ((preN c j : Nat) : Int)) ∧ w.heap.size ≤ G ∧ Q w w' := by
  have hp : 2 ^ b ≤ 2 ^ 12 := Nat.pow_le_pow_right (by decide) h2
  have hp1 : 1 ≤ 2 ^ b := Nat.one_le_two_pow
  obtain ⟨M, hM, hV⟩ := make_vi (2 ^ b) (by omega)
  unfold talV
  generalize 2 ^ b = N at *
  obtain ⟨w1, hw1⟩ : ∃ w1, w.alloc (.cells #[.int .i64 (b : Int), .slice (some ⟨H, 0, none⟩) N kc] 72) = w1 := ⟨_, rfl⟩
  obtain ⟨A, hA⟩ : ∃ A, w.heap.size = A := ⟨_, rfl⟩
  have q1 : Q w w1 := by rw [← hw1]; exact (Q.refl w).cells _ _
  have s1 : w1.heap.size = A + 1 := by rw [← hw1, ← hA]; simp [go_sem]
  have z1 : w1.cell? ⟨A, 1, none⟩ = some (.slice (some ⟨H, 0, none⟩) N kc) := by rw [← hw1, ← hA]; simp [go_sem]
  have hMw := hM w1
  have hVw := hV w1
  have q2 : Q w1 (w1.alloc (.cells M 3)) := (Q.refl w1).cells _ _
  rw [s1] at hMw hVw
  have HH : Hid (H < A) := by have := hT.lt hp1; show H < A; omega
  generalize w1.alloc (.cells M 3) = w2 at *
  have z1' := q2.cell z1
  have HV2 : Hid (VR w2 (A + 1) N (sofar (fun j => .int .i64 ((preN c j : Nat) : Int)) (.int .i64 0) 0) ∧ Q w w2) := ⟨by rw [sofar_zero]; exact hVw, q1.trans q2⟩
  have HT : Hid (∀ i, i < N → w.cell? ⟨H, i, none⟩ = some (.int .i64 (c i : Nat))) := fun i hi => hT.cell i hi
  have HC : Hid (∀ j, preN c j ≤ 35184372087808) := hc
  have HZ : Hid (∀ wr, Q w2 wr → wr.cell? ⟨A, 1, none⟩ = some (.slice (some ⟨H, 0, none⟩) N kc)) := fun wr q => q.cell z1'
  have HA : Hid (w.heap.size ≤ A + 1) := by show _ ≤ _; omega
  have hNb : N ≤ 4096 := hp
  clear hM hV hVw q1 q2 hT hc hp
  go_enter Tryz.func82, Tryz.ntmps82
  go_wp2_with fail
  clear hw1 hMw z1 z1' s1
  go_loopg [4, 14] N (fun m s4 s14 wr => ∃ i : Nat, s4 = .int .i64 ((if i = 0 then 0 else preN c (i - 1) : Nat) : Int) ∧ s14 = .int .i64 (i : Int) ∧ i + m = N ∧ Hid (VR wr (A + 1) N (sofar (fun j => .int .i64 ((preN c j : Nat) : Int)) (.int .i64 0) i) ∧ Q w wr))
  case atStart => exact ⟨0, rfl, rfl, by omega, HV2⟩
  case round =>
    clear HV2
    obtain ⟨i, rfl, rfl, hi, HX⟩ := hrel
    obtain ⟨p, hp⟩ : ∃ p, (if i = 0 then 0 else preN c (i - 1)) = p := ⟨_, rfl⟩
    rw [hp]
    by_cases hlt : i < N
    · have hc := HX.out.2.cell (HT.out i hlt)
      have hpi : preN c i = p + c i := by
        rw [← hp]
        cases i with
        | zero => simp [preN]
        | succ i => simp [preN]
      have hbd := HC.out i
      obtain ⟨u, hu⟩ : ∃ u, wr.cell? ⟨A + 1, i, none⟩ = some u := ⟨_, HX.out.1.cell i hlt⟩
      have fu := HX.out.1.free i
      have HY : Hid (VR (wr.setCell ⟨A + 1, i, none⟩ (.int .i64 ((p + c i : Nat) : Int))) (A + 1) N (sofar (fun j => .int .i64 ((preN c j : Nat) : Int)) (.int .i64 0) (i + 1)) ∧ Q w (wr.setCell ⟨A + 1, i, none⟩ (.int .i64 ((p + c i : Nat) : Int)))) := ⟨HX.out.1.fill hlt (by rw [hpi]), HX.out.2.set HA.out _⟩
      have HE : Hid (p + c i = (if i + 1 = 0 then 0 else preN c (i + 1 - 1))) := by show _ = _; rw [if_neg (by omega), Nat.add_sub_cancel, hpi]
      rw [hpi] at hbd
      have ew : wrap64 ((p : Int) + (c i : Int)) = ((p + c i : Nat) : Int) := by unfold wrap64; omega
      have hki : (i : Int) < (N : Int) := by omega
      generalize c i = ci at *
      clear hpi hp
      go_wp2_with fail
      go_roundg (N - (i + 1))
      case measure => go_light; omega
      case rel => go_light; exact ⟨i + 1, by rw [← HE.out]; simp, by go_num, by omega, HY⟩
    · obtain rfl : i = N := by omega
      have hge : ¬ (i : Int) < (i : Int) := by omega
      go_wp2_with fail
      go_ret
      exact ⟨A + 1, rfl, HX.out.1.full, by omega, HX.out.2⟩
/-- A levelled list. -/
def lvlV (b : Nat) (L : List Nat) (s : Nat) : Nat := if nanN s = true then s else shN (preN (clsC b (numL L)) (clsN b s)) (numL L).length
def lvlL (b : Nat) (L : List Nat) : List Nat := L.map (lvlV b L)
theorem lvlL_len (b : Nat) (L : List Nat) : (lvlL b L).length = L.length := List.length_map _
theorem lvlL_get {b : Nat} {L : List Nat} {i : Nat} (h : i < L.length) : (lvlL b L).getD i 0 = lvlV b L (L.getD i 0) := by
  unfold lvlL
  rw [List.getD_eq_getElem?_getD, List.getD_eq_getElem?_getD, List.getElem?_map, List.getElem?_eq_getElem h]
  rfl
end Go.Proofs.YtieojgblamkgoaaGreatDoor
/- stat, plain: the mean of finite samples lies between their ends. -/
namespace Go.Proofs.YtieojgblamkgoaaGreatDoor
open Go.RowKit
set_option linter.unusedVariables false
set_option linter.unusedSimpArgs false

theorem ex_exact {d X : Nat} (hd : 0 < d) : exR (d * X) d = rungOf Ieee.single X (-151) := by
  unfold exR
  rw [sqV_zero, Nat.mul_div_cancel_left _ hd, Nat.mul_mod_right, if_pos rfl, Nat.add_zero, Nat.mul_comm 2 X]
  have := rung_scale Ieee.single X 1 (-152)
  rw [Nat.pow_one] at this
  rw [this]
  rfl
theorem ex_mono {d V U : Nat} (hd : 0 < d) (h : V ≤ U) : exR V d ≤ exR U d := rung_mono _ _ (sqV_mono hd h)
/-- A quotient's signed rung. -/
def erg (d : Nat) (z : Int) : Int := if z < 0 then -(exR z.natAbs d : Int) else (exR z.natAbs d : Int)
theorem erg_mono {d : Nat} (hd : 0 < d) {y z : Int} (h : y ≤ z) : erg d y ≤ erg d z := by
  unfold erg
  by_cases hy : y < 0
  · rw [if_pos hy]
    by_cases hz : z < 0
    · rw [if_pos hz]
      have := ex_mono hd (show z.natAbs ≤ y.natAbs by omega)
      omega
    · rw [if_neg hz]; omega
  · rw [if_neg hy, if_neg (by omega)]
    have := ex_mono hd (show y.natAbs ≤ z.natAbs by omega)
    omega
theorem un_vals (s : Nat) : szS s * 2 ^ atS s = val32 (rung32 s) * 4 := by
  unfold szS atS val32 mag32 plc32 rung32
  have e : s % 2147483648 / 8388608 = s / 8388608 % 256 := by omega
  rw [e]
  by_cases h : s / 8388608 % 256 = 0
  · rw [if_pos h, if_pos h, h]
    have : s % 2147483648 = s % 8388608 := by omega
    rw [this]
    simp
  · rw [if_neg h, if_neg h]
    obtain ⟨k, hk⟩ : ∃ k, s / 8388608 % 256 = k + 1 := ⟨s / 8388608 % 256 - 1, by omega⟩
    rw [hk, Nat.add_sub_cancel, show k + 1 + 1 = k + 2 from rfl, Nat.pow_add, ← Nat.mul_assoc]
    have : s % 2147483648 - k * 8388608 = s % 8388608 + 8388608 := by omega
    rw [this]
theorem un_rung {a : Nat} (h : rung32 a < 2139095040) : rungOf Ieee.single (szS a * 2 ^ atS a) (-151) = rung32 a := by
  rw [un_vals]
  unfold val32
  rw [show mag32 (rung32 a) * 2 ^ plc32 (rung32 a) * 4 = mag32 (rung32 a) * 2 ^ (plc32 (rung32 a) + 2) by rw [Nat.pow_add, Nat.mul_assoc], rung_scale, show (-151 + ((plc32 (rung32 a) + 2 : Nat) : Int)) = -149 + (plc32 (rung32 a) : Int) by omega]
  exact self32 h
theorem ex_zero {d : Nat} (hd : 0 < d) : exR 0 d = 0 := by
  have := ex_exact (X := 0) hd
  rw [Nat.mul_zero] at this
  rw [this]
  exact rungOf_zero _ _
theorem erg_un {d a : Nat} (hd : 0 < d) (ha : a < 4294967296) (h : rung32 a < 2139095040) : erg d ((d : Int) * unZ a) = srung32 a := by
  have hr := un_rung h
  have hx : exR (d * (szS a * 2 ^ atS a)) d = rung32 a := by rw [ex_exact hd, hr]
  have hg : sgn32 a = decide (2147483648 ≤ a) := by
    unfold sgn32
    by_cases c : 2147483648 ≤ a
    · rw [decide_eq_true c]; exact decide_eq_true (by omega)
    · rw [decide_eq_false c]; exact decide_eq_false (by omega)
  unfold srung32 unZ
  rw [hg]
  generalize szS a * 2 ^ atS a = X at *
  by_cases c : a < 2147483648
  · rw [if_pos c, decide_eq_false (by omega), if_neg (by decide)]
    unfold erg
    rw [if_neg (by have := Int.mul_nonneg (Int.natCast_nonneg d) (Int.natCast_nonneg X); omega), ← Int.natCast_mul, Int.natAbs_natCast, hx]
  · rw [if_neg c, decide_eq_true (by omega), if_pos rfl]
    rcases Nat.eq_zero_or_pos X with z | z
    · subst z
      rw [Nat.mul_zero, ex_zero hd] at hx
      rw [← hx]
      simp [erg, ex_zero hd]
    · have hp : (0 : Int) < ((d * X : Nat) : Int) := by have := Nat.mul_pos hd z; omega
      unfold erg
      rw [Int.mul_neg, ← Int.natCast_mul, if_pos (by omega), Int.natAbs_neg, Int.natAbs_natCast, hx]
theorem kind_finite {s : Nat} (h : rung32 s < 2139095040) : kindV s < 4 ∧ unK s = unZ s := by
  have h' : s % 2147483648 < 2139095040 := h
  unfold unK
  by_cases e : s = 2147483648
  · subst e
    exact ⟨by decide, by decide⟩
  · have hk : kindV s = 2 := by
      unfold kindV
      rw [if_neg e, if_pos h']
    rw [hk]
    exact ⟨by decide, by simp⟩
theorem met_finite {L : List Nat} (h : ∀ s ∈ L, rung32 s < 2139095040) : metV L < 4 := by
  induction L using snoc_ind with
  | h0 => decide
  | h1 l s ih =>
    rw [metV_snoc]
    exact Nat.or_lt_two_pow (n := 2) (ih (fun x hx => h x (List.mem_append_left _ hx))) (kind_finite (h s (by simp))).1
theorem un_key {a b : Nat} (ha : a < 4294967296) (hb : b < 4294967296) (h : keyN a ≤ keyN b) : unZ a ≤ unZ b := by
  unfold unZ
  rw [un_vals, un_vals]
  unfold keyN at h
  have r1 : rung32 a = a % 2147483648 := rfl
  have r2 : rung32 b = b % 2147483648 := rfl
  by_cases c : a < 2147483648
  · by_cases d : b < 2147483648
    · rw [if_pos c, if_pos d] at h ⊢
      have := val_le32 (show rung32 a ≤ rung32 b by omega)
      omega
    · rw [if_pos c, if_neg d] at h
      omega
  · by_cases d : b < 2147483648
    · rw [if_neg c, if_pos d]
      omega
    · rw [if_neg c, if_neg d] at h ⊢
      have := val_le32 (show rung32 b ≤ rung32 a by omega)
      omega
theorem sum_between {L : List Nat} {lo hi : Int} (h : ∀ s ∈ L, lo ≤ unK s ∧ unK s ≤ hi) : (L.length : Int) * lo ≤ sumZ L ∧ sumZ L ≤ (L.length : Int) * hi := by
  induction L using snoc_ind with
  | h0 => exact ⟨by simp [sumZ], by simp [sumZ]⟩
  | h1 l s ih =>
    obtain ⟨i1, i2⟩ := ih (fun x hx => h x (List.mem_append_left _ hx))
    obtain ⟨j1, j2⟩ := h s (by simp)
    rw [sumZ_snoc, List.length_append, List.length_singleton, Int.natCast_add, Int.add_mul, Int.add_mul]
    simp only [Int.natCast_one, Int.one_mul] at *
    omega
theorem srung_sum {L : List Nat} {d : Nat} (hd : 0 < d) (h : metV L < 4) : srung32 (sumV L d) = erg d (sumZ L) ∧ nanN (sumV L d) = false ∧ sumV L d < 4294967296 := by
  unfold sumV
  rw [if_pos h]
  by_cases z : sumZ L = 0
  · rw [if_neg (fun k => k z), z]
    have : erg d 0 = 0 := by simp [erg, ex_zero hd]
    rw [this]
    split <;> decide
  · rw [if_pos z]
    unfold exV
    have hle : exR (sumZ L).natAbs d ≤ 2139095040 := by have := rungOf_le Ieee.single (sqV (sumZ L).natAbs d 0) (-152); rw [inf32] at this; exact this
    obtain ⟨a, b⟩ := sgn_word32 (decide (sumZ L < 0)) (r := exR (sumZ L).natAbs d) (by omega)
    refine ⟨?_, nanN_word hle, ?_⟩
    · unfold srung32 erg
      rw [a, b]
      by_cases k : sumZ L < 0
      · rw [if_pos k, if_pos (decide_eq_true k)]
      · rw [if_neg k, if_neg (by simp; omega)]
    · exact word_lt (by omega)
/-- The mean lies between. -/
theorem smean_between {L : List Nat} (hL : ∀ s ∈ L, s < 4294967296 ∧ rung32 s < 2139095040) (h0 : 0 < L.length) {a b : Nat} (ha : a ∈ L) (hb : b ∈ L) (hab : ∀ s ∈ L, keyN a ≤ keyN s ∧ keyN s ≤ keyN b) :
    srung32 a ≤ srung32 (sumV L L.length) ∧ srung32 (sumV L L.length) ≤ srung32 b ∧ nanN (sumV L L.length) = false := by
  obtain ⟨s1, s2, s3⟩ := srung_sum (d := L.length) h0 (met_finite (fun s hs => (hL s hs).2))
  obtain ⟨b1, b2⟩ := sum_between (L := L) (lo := unZ a) (hi := unZ b) (fun s hs => by
    rw [(kind_finite (hL s hs).2).2]
    exact ⟨un_key (hL a ha).1 (hL s hs).1 (hab s hs).1, un_key (hL s hs).1 (hL b hb).1 (hab s hs).2⟩)
  have e1 := erg_mono h0 b1
  have e2 := erg_mono h0 b2
  rw [erg_un h0 (hL a ha).1 (hL a ha).2] at e1
  rw [erg_un h0 (hL b hb).1 (hL b hb).2] at e2
  rw [s1]
  exact ⟨e1, e2, s2⟩
theorem srung_inj {a b : Nat} (ha : a < 4294967296) (hb : b < 4294967296) (h : srung32 a = srung32 b) (hz : srung32 a ≠ 0) : a = b := by
  have r1 : rung32 a = a % 2147483648 := rfl
  have r2 : rung32 b = b % 2147483648 := rfl
  have e : ∀ x : Nat, x < 4294967296 → srung32 x = if 2147483648 ≤ x then -((x % 2147483648 : Nat) : Int) else ((x % 2147483648 : Nat) : Int) := fun x hx => by
    have r : rung32 x = x % 2147483648 := rfl
    have g : sgn32 x = decide (2147483648 ≤ x) := by
      unfold sgn32
      by_cases c : 2147483648 ≤ x
      · rw [decide_eq_true c]; exact decide_eq_true (by omega)
      · rw [decide_eq_false c]; exact decide_eq_false (by omega)
    unfold srung32
    rw [g, r]
    by_cases c : 2147483648 ≤ x
    · rw [decide_eq_true c, if_pos rfl, if_pos c]
    · rw [decide_eq_false c, if_neg (by decide), if_neg c]
  rw [e a ha] at h hz
  rw [e b hb] at h
  split at h <;> split at h <;> split at hz <;> omega
theorem smean_one {s : Nat} (hs : s < 4294967296) (h : rung32 s < 2139095040) : sumV [s] 1 = s := by
  obtain ⟨k1, k2⟩ := kind_finite h
  have hz : sumZ [s] = unZ s := by
    have := sumZ_snoc [] s
    rw [List.nil_append] at this
    rw [this, k2]
    simp [sumZ]
  have hm : metV [s] = kindV s := by
    have := metV_snoc [] s
    rw [List.nil_append] at this
    rw [this]
    simp [metV]
  obtain ⟨s1, s2, s3⟩ := srung_sum (L := [s]) (d := 1) (by decide) (by rw [hm]; exact k1)
  have e := erg_un (d := 1) (a := s) (by decide) hs h
  rw [show ((1 : Nat) : Int) = 1 from rfl, Int.one_mul] at e
  rw [hz, e] at s1
  by_cases z : srung32 s = 0
  · have r1 : rung32 s = 0 := by unfold srung32 at z; split at z <;> omega
    have r2 : s % 2147483648 = 0 := r1
    rcases (show s = 0 ∨ s = 2147483648 by omega) with c | c
    · subst c; decide +kernel
    · subst c; decide +kernel
  · exact srung_inj s3 hs s1 (by rw [s1]; exact z)
end Go.Proofs.YtieojgblamkgoaaGreatDoor
/- stat, plain: what the statements ask of means. -/
namespace Go.Proofs.YtieojgblamkgoaaGreatDoor
open Go.RowKit
set_option linter.unusedVariables false
set_option linter.unusedSimpArgs false

theorem numL_fin {L : List Nat} (h : ∀ s ∈ L, nanN s = false) : numL L = L := by
  unfold numL
  rw [List.filter_eq_self]
  intro s hs
  rw [h s hs]; rfl
theorem fin_nan {s : Nat} (h : rung32 s < 2139095040) : nanN s = false := by
  unfold nanN
  exact decide_eq_false (by unfold rung32 at h; omega)
theorem ord_ge {x y : Nat} (hx : nanN x = false) (hy : nanN y = false) (h : srung32 y ≤ srung32 x) : (Ieee.single.order x y == some Ordering.gt || Ieee.single.order x y == some Ordering.eq) = true := by
  have h1 : rung32 x ≤ 2139095040 := by unfold nanN at hx; have := of_decide_eq_false hx; unfold rung32; omega
  have h2 : rung32 y ≤ 2139095040 := by unfold nanN at hy; have := of_decide_eq_false hy; unfold rung32; omega
  rw [order_num32 h1 h2, cmp_ge]
  exact decide_eq_true h
theorem ord_le {x y : Nat} (hx : nanN x = false) (hy : nanN y = false) (h : srung32 x ≤ srung32 y) : (Ieee.single.order x y == some Ordering.lt || Ieee.single.order x y == some Ordering.eq) = true := by
  have h1 : rung32 x ≤ 2139095040 := by unfold nanN at hx; have := of_decide_eq_false hx; unfold rung32; omega
  have h2 : rung32 y ≤ 2139095040 := by unfold nanN at hy; have := of_decide_eq_false hy; unfold rung32; omega
  rw [order_num32 h1 h2, cmp_le]
  exact decide_eq_true h
/-- What is told of finite samples. -/
theorem mean_told {L : List Nat} (hL : ∀ s ∈ L, s < 4294967296 ∧ rung32 s < 2139095040) (h0 : 0 < L.length) : ∃ m a b, smeanV L = (m, 0) ∧ endsV L = (a, b, 0) ∧ (Ieee.single.order m a == some Ordering.gt || Ieee.single.order m a == some Ordering.eq) = true ∧ (Ieee.single.order m b == some Ordering.lt || Ieee.single.order m b == some Ordering.eq) = true ∧ (L.length = 1 → m = L.getD 0 0) := by
  have hn := numL_fin (fun s hs => fin_nan (hL s hs).2)
  have hne : L ≠ [] := fun e => by rw [e] at h0; cases h0
  obtain ⟨a, b, ha, hb, ea, eb, hab⟩ := ends_some (fun s hs => (hL s hs).1) (by rw [hn]; exact hne)
  rw [hn] at ha hb hab
  obtain ⟨b1, b2, b3⟩ := smean_between hL h0 ha hb hab
  refine ⟨sumV L L.length, a, b, ?_, ?_, ?_, ?_, ?_⟩
  · unfold smeanV; rw [if_neg hne]
  · unfold endsV
    rw [if_neg (by rw [hn]; exact hne), ← ea, ← eb, fkey_key (hL a ha).1, fkey_key (hL b hb).1]
  · exact ord_ge b3 (fin_nan (hL a ha).2) b1
  · exact ord_le b3 (fin_nan (hL b hb).2) b2
  · intro h
    match L, h with
    | [x], _ => exact smean_one (hL x (by simp)).1 (hL x (by simp)).2
end Go.Proofs.YtieojgblamkgoaaGreatDoor
/- stat, plain: what the statement StatRises asks. -/
namespace Go.Proofs.YtieojgblamkgoaaGreatDoor
open Go.RowKit
set_option linter.unusedVariables false
set_option linter.unusedSimpArgs false

theorem sh_one {n : Nat} (h0 : 1 ≤ n) (h1 : n ≤ 16384) : shN n n = 1065353216 := by
  obtain ⟨E, hE, e1, _⟩ := quo_sh (m := n) h0 h1 (Nat.le_refl _)
  unfold shN
  rw [e1, qrg_exact (by omega), hE]
  decide +kernel
theorem sh_mono {j k n : Nat} (h0 : 1 ≤ n) (h1 : n ≤ 16384) (hj : j ≤ k) (hk : k ≤ n) : srung32 (shN j n) ≤ srung32 (shN k n) ∧ nanN (shN j n) = false := by
  obtain ⟨E, hE, w1, _⟩ := int_wbs (k := j) (by omega)
  obtain ⟨E', hE', w2, _⟩ := int_wbs (k := k) (by omega)
  obtain rfl : E' = E := by omega
  have cap : ∀ i : Nat, i ≤ 16384 → ((((i * 2 ^ E' : Nat) : Int))).natAbs ≤ 2 ^ (14 + E') := fun i hi => by
    rw [Int.natAbs_natCast, Nat.pow_add]
    exact Nat.mul_le_mul_right _ (by omega)
  obtain ⟨a1, a2⟩ := nar_quo w1 h0 h1 (cap j (by omega)) (by omega)
  obtain ⟨b1, b2⟩ := nar_quo w2 h0 h1 (cap k (by omega)) (by omega)
  refine ⟨?_, a2⟩
  unfold shN
  rw [a1, b1]
  refine RS_mono (qsv_mono (by omega) ?_)
  exact Int.ofNat_le.2 (Nat.mul_le_mul_right _ hj)
/-- All classes together. -/
theorem his_total {b : Nat} {L : List Nat} (hb : b ≤ 12) (hL : ∀ s ∈ L, s < 4294967296) : preN (clsC b L) (2 ^ b - 1) = L.length := by
  rw [preN_cnt, List.countP_eq_length]
  intro s hs
  have := cls_lt hb (hL s hs)
  exact decide_eq_true (by omega)
theorem nan_ord {a b : Nat} (h : nanN a = true ∨ nanN b = true) : Ieee.single.order a b = none := by
  rcases h with h | h
  · exact order_nan1 _ (read32_nan h)
  · exact order_nan2 _ (read32_nan h)
theorem key_srung {a b : Nat} (ha : a < 4294967296) (hb : b < 4294967296) (h : keyN a ≤ keyN b) : srung32 a ≤ srung32 b := by
  have e : ∀ x : Nat, x < 4294967296 → srung32 x = if 2147483648 ≤ x then -((x % 2147483648 : Nat) : Int) else ((x % 2147483648 : Nat) : Int) := fun x hx => by
    have r : rung32 x = x % 2147483648 := rfl
    have g : sgn32 x = decide (2147483648 ≤ x) := by
      unfold sgn32
      by_cases c : 2147483648 ≤ x
      · rw [decide_eq_true c]; exact decide_eq_true (by omega)
      · rw [decide_eq_false c]; exact decide_eq_false (by omega)
    unfold srung32
    rw [g, r]
    by_cases c : 2147483648 ≤ x
    · rw [decide_eq_true c, if_pos rfl, if_pos c]
    · rw [decide_eq_false c, if_neg (by decide), if_neg c]
  rw [e a ha, e b hb]
  unfold keyN at h
  split at h <;> split at h <;> split <;> split <;> omega
theorem rung_num {a : Nat} (h : nanN a = false) : rung32 a ≤ 2139095040 := by
  unfold nanN at h
  have := of_decide_eq_false h
  unfold rung32; omega
/-- By key not above: by number not above. -/
theorem key_gt {a b : Nat} (ha : a < 4294967296) (hb : b < 4294967296) (h : keyN a ≤ keyN b) : (Ieee.single.order a b == some Ordering.gt) = false := by
  cases na : nanN a
  · cases nb : nanN b
    · rw [order_num32 (rung_num na) (rung_num nb)]
      have := key_srung ha hb h
      rw [beq_eq_false_iff_ne]
      intro e
      injection e with e
      have := Int.compare_eq_gt.1 e
      omega
    · rw [nan_ord (Or.inr nb)]; rfl
  · rw [nan_ord (Or.inl na)]; rfl
theorem lt_key {a b : Nat} (ha : a < 4294967296) (hb : b < 4294967296) (h : (Ieee.single.order a b == some Ordering.lt) = true) : nanN a = false ∧ nanN b = false ∧ keyN a ≤ keyN b := by
  cases na : nanN a
  · cases nb : nanN b
    · refine ⟨rfl, rfl, ?_⟩
      rw [order_num32 (rung_num na) (rung_num nb), cmp_lt] at h
      have h := of_decide_eq_true h
      rcases Nat.le_total (keyN a) (keyN b) with c | c
      · exact c
      · have := key_srung hb ha c
        omega
    · rw [nan_ord (Or.inr nb)] at h; cases h
  · rw [nan_ord (Or.inl na)] at h; cases h
theorem cls_key {b s t : Nat} (h : keyN s ≤ keyN t) : clsN b s ≤ clsN b t := Nat.div_le_div_right h
/-- A levelled plane rises with the plane. -/
theorem lvl_rises {b : Nat} {L : List Nat} {s t : Nat} (hl : L.length ≤ 16384) (hs : s ∈ L) (ns : nanN s = false) (nt : nanN t = false) (h : keyN s ≤ keyN t) : (Ieee.single.order (lvlV b L s) (lvlV b L t) == some Ordering.lt || Ieee.single.order (lvlV b L s) (lvlV b L t) == some Ordering.eq) = true := by
  have hm : s ∈ numL L := by unfold numL; rw [List.mem_filter]; exact ⟨hs, by rw [ns]; rfl⟩
  have h1 : 1 ≤ (numL L).length := List.length_pos_of_mem hm
  have h2 : (numL L).length ≤ 16384 := Nat.le_trans (numL_len L) hl
  have es : lvlV b L s = shN (preN (clsC b (numL L)) (clsN b s)) (numL L).length := by unfold lvlV; rw [ns]; rfl
  have et : lvlV b L t = shN (preN (clsC b (numL L)) (clsN b t)) (numL L).length := by unfold lvlV; rw [nt]; rfl
  have hp := preN_mono (clsC b (numL L)) (cls_key (b := b) h)
  obtain ⟨m1, m2⟩ := sh_mono h1 h2 hp (preN_le b (numL L) _)
  obtain ⟨_, m3⟩ := sh_mono h1 h2 (Nat.le_refl (preN (clsC b (numL L)) (clsN b t))) (preN_le b (numL L) _)
  rw [es, et]
  exact ord_le m2 m3 m1
/-- Up to 1. -/
theorem lvl_top {b : Nat} {L : List Nat} (hl : L.length ≤ 16384) (hL : ∀ s ∈ L, s < 4294967296) (h : numL L ≠ []) : ∃ s ∈ L, lvlV b L s = 1065353216 := by
  obtain ⟨_, t, _, ht, _, _, hab⟩ := ends_some hL h
  have ht' := numL_mem ht
  refine ⟨t, ht'.1, ?_⟩
  have h1 : 1 ≤ (numL L).length := List.length_pos_of_mem ht
  unfold lvlV
  rw [ht'.2, if_neg (by decide)]
  have e : preN (clsC b (numL L)) (clsN b t) = (numL L).length := by
    rw [preN_cnt, List.countP_eq_length]
    intro s hs
    exact decide_eq_true (cls_key (hab s hs).2)
  rw [e]
  exact sh_one h1 (Nat.le_trans (numL_len L) hl)
/-- The ends of a plane without NaNs are its first and its last rank. -/
theorem ends_ranks {L : List Nat} (hL : ∀ s ∈ L, s < 4294967296) (h0 : 0 < L.length) (hn : nanC L = 0) : endsV L = (rkV L 0, rkV L (L.length - 1), 0) := by
  have hnn : numL L = L := by
    refine numL_fin (fun s hs => ?_)
    unfold nanC at hn
    rw [List.countP_eq_zero] at hn
    have := hn s hs
    simpa using this
  have hne : L ≠ [] := fun e => by rw [e] at h0; cases h0
  obtain ⟨a, b, ha, hb, ea, eb, hab⟩ := ends_some hL (by rw [hnn]; exact hne)
  rw [hnn] at ha hb hab
  have r0 : rkV L 0 = a := by
    refine keyN_inj (rk_lt h0 hL) (hL a ha) ?_
    have h1 := (rk_least (t := keyN a) h0).2 ⟨a, ha, Nat.le_refl _⟩
    have h2 := (hab _ (rk_mem (k := 0) h0)).1
    omega
  have r1 : rkV L (L.length - 1) = b := by
    refine keyN_inj (rk_lt (by omega) hL) (hL b hb) ?_
    have h1 := (rk_most (t := keyN b) h0).2 (fun s hs => (hab s hs).2)
    have h2 := (rk_most (t := keyN (rkV L (L.length - 1))) h0).1 (Nat.le_refl _) b hb
    omega
  unfold endsV
  rw [if_neg (by rw [hnn]; exact hne), ← ea, ← eb, fkey_key (hL a ha), fkey_key (hL b hb), r0, r1]
end Go.Proofs.YtieojgblamkgoaaGreatDoor

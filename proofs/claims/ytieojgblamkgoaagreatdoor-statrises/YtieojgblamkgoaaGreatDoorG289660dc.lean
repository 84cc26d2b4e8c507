/- Plain facts: numbers of binary64 in its least units: rounding, what it keeps, sums and differences; what is lost of a sum is told exactly. -/
import Derived.Test.YtieojgblamkgoaaGreatDoorGc55c58d4
namespace Go.Proofs.YtieojgblamkgoaaGreatDoor
open Go.RowKit

/-- How many digits a number in least units loses. -/
def lostK (M : Nat) : Nat := M.log2 - 52
theorem kept_bd {M : Nat} : rne M (lostK M) ≤ 9007199254740992 ∧ (0 < lostK M → 4503599627370496 ≤ rne M (lostK M)) := by
  have e1 : lastOf Ieee.double M (-1074) = -1074 + (lostK M : Int) := by unfold lastOf lostK; rw [least64, frac64]; omega
  have e3 : (-1074 : Int) - (-1074 + (lostK M : Int)) = -(lostK M : Int) := by omega
  have hk := kept_le Ieee.double M (-1074)
  rw [e1, e3, rz_neg, binade64] at hk
  refine ⟨hk, fun h => ?_⟩
  have hM : M ≠ 0 := by intro h0; subst h0; exact absurd h (by decide)
  have := le_kept Ieee.double hM (-1074) (by rw [e1, frac64]; unfold lostK at *; omega)
  rw [e1, e3, rz_neg, binade64] at this
  exact this
theorem rung64_eq {M : Nat} (hM : M.log2 ≤ 2000) : rungOf Ieee.double M (-1074) = lostK M * 4503599627370496 + rne M (lostK M) := by
  by_cases h : M = 0
  · subst h
    rw [rungOf_zero, show lostK 0 = 0 from by decide, rne_zero]
  · unfold rungOf
    rw [if_neg h]
    have e1 : lastOf Ieee.double M (-1074) = -1074 + (lostK M : Int) := by unfold lastOf lostK; rw [least64, frac64]; omega
    have e2 : (-1074 + (lostK M : Int) - -1074).toNat = lostK M := by omega
    have e3 : (-1074 : Int) - (-1074 + (lostK M : Int)) = -(lostK M : Int) := by omega
    rw [e1, least64, binade64, inf64, e2, e3, rz_neg]
    have hk := (kept_bd (M := M)).1
    have hl : lostK M ≤ 1948 := by unfold lostK; omega
    rw [Nat.min_eq_left (by omega)]
theorem val_of {K c : Nat} (h : c ≤ 9007199254740992) (h' : 0 < K → 4503599627370496 ≤ c) : val64 (K * 4503599627370496 + c) = c * 2 ^ K := by
  unfold val64 mag64
  rcases Nat.lt_or_ge c 9007199254740992 with g | g
  · rcases Nat.lt_or_ge c 4503599627370496 with k | k
    · have hK : K = 0 := by omega
      subst hK
      have e : plc64 (0 * 4503599627370496 + c) = 0 := by unfold plc64; omega
      rw [e]; congr 1; omega
    · have e : plc64 (K * 4503599627370496 + c) = K := by unfold plc64; omega
      rw [e]; congr 1; omega
  · have e : plc64 (K * 4503599627370496 + c) = K + 1 := by unfold plc64; omega
    rw [e, Nat.pow_succ]
    have e2 : K * 4503599627370496 + c - (K + 1) * 4503599627370496 = 4503599627370496 := by omega
    have e3 : c = 4503599627370496 * 2 := by omega
    rw [e2, e3, Nat.mul_assoc, Nat.mul_comm (2 ^ K) 2]
theorem vN_eq {M : Nat} (hM : M.log2 ≤ 2000) : val64 (rungOf Ieee.double M (-1074)) = rne M (lostK M) * 2 ^ lostK M := by
  rw [rung64_eq hM, val_of kept_bd.1 kept_bd.2]
theorem vN_div {M : Nat} (hM : M.log2 ≤ 2000) (h : 2 ^ lostK M ∣ M) : val64 (rungOf Ieee.double M (-1074)) = M := by
  rw [vN_eq hM]
  obtain ⟨o, ho⟩ := h
  have : rne M (lostK M) = o := by
    have e := rne_exact o (lostK M)
    rw [Nat.mul_comm, ← ho] at e
    exact e
  rw [this, Nat.mul_comm, ← ho]
theorem vN_exact {M g : Nat} (hM : M.log2 ≤ 2000) (hd : 2 ^ g ∣ M) (hb : M < 2 ^ (53 + g)) : val64 (rungOf Ieee.double M (-1074)) = M := by
  by_cases h0 : M = 0
  · subst h0; rw [rungOf_zero]; exact val_zero64
  · refine vN_div hM ?_
    have hl := (Nat.log2_lt h0).2 hb
    exact Nat.dvd_trans (Nat.pow_dvd_pow 2 (by unfold lostK; omega)) hd
theorem vN_dvd {M g : Nat} (hM : M.log2 ≤ 2000) (hd : 2 ^ g ∣ M) : 2 ^ g ∣ val64 (rungOf Ieee.double M (-1074)) := by
  rcases Nat.le_total g (lostK M) with h | h
  · rw [vN_eq hM]
    exact Nat.dvd_trans (Nat.pow_dvd_pow 2 h) (Nat.dvd_mul_left _ _)
  · rw [vN_div hM (Nat.dvd_trans (Nat.pow_dvd_pow 2 h) hd)]
    exact hd
/-- Of all multiples the rounded one is the nearest. -/
theorem rne_best (M K j : Nat) : ((rne M K * 2 ^ K : Nat) - (M : Int)).natAbs ≤ ((j * 2 ^ K : Nat) - (M : Int)).natAbs := by
  obtain ⟨a1, a2⟩ := rne_near M K
  rcases Nat.lt_trichotomy j (rne M K) with h | h | h
  · have : (j + 1) * 2 ^ K ≤ rne M K * 2 ^ K := Nat.mul_le_mul_right _ h
    rw [Nat.add_mul, Nat.one_mul] at this
    omega
  · rw [h]; exact Nat.le_refl _
  · have : (rne M K + 1) * 2 ^ K ≤ j * 2 ^ K := Nat.mul_le_mul_right _ h
    rw [Nat.add_mul, Nat.one_mul] at this
    omega
theorem vN_best {M : Nat} (hM : M.log2 ≤ 2000) (r : Nat) : ((val64 (rungOf Ieee.double M (-1074)) : Int) - (M : Int)).natAbs ≤ ((val64 r : Int) - (M : Int)).natAbs := by
  rw [vN_eq hM]
  rcases Nat.lt_or_ge (plc64 r) (lostK M) with h | h
  · -- it lies below the least multiple that is not above
    have hm : 2 ^ (52 + lostK M) ≤ M := by
      have h0 : M ≠ 0 := by intro h0; subst h0; exact absurd h (by rw [show lostK 0 = 0 from by decide]; omega)
      exact Nat.le_trans (Nat.pow_le_pow_right (by decide) (by unfold lostK; unfold lostK at h; omega)) (Nat.log2_self_le h0)
    have hv : val64 r < 2 ^ (52 + lostK M) := by
      unfold val64
      have a1 : mag64 r * 2 ^ plc64 r < 2 ^ 53 * 2 ^ plc64 r := Nat.mul_lt_mul_of_pos_right (mag_lt64 r) (Nat.two_pow_pos _)
      rw [← Nat.pow_add] at a1
      exact Nat.lt_of_lt_of_le a1 (Nat.pow_le_pow_right (by decide) (by omega))
    have hb := rne_best M (lostK M) (2 ^ 52)
    rw [← Nat.pow_add] at hb
    omega
  · have e : val64 r = mag64 r * 2 ^ (plc64 r - lostK M) * 2 ^ lostK M := by
      unfold val64
      rw [Nat.mul_assoc, ← Nat.pow_add, show plc64 r - lostK M + lostK M = plc64 r by omega]
    rw [e]
    exact rne_best M (lostK M) _

/-- A whole number of least units, rounded to binary64. -/
def RN (Z : Int) : Int := if Z < 0 then -(val64 (rungOf Ieee.double Z.natAbs (-1074)) : Int) else (val64 (rungOf Ieee.double Z.natAbs (-1074)) : Int)
theorem RN_abs (Z : Int) : (RN Z).natAbs = val64 (rungOf Ieee.double Z.natAbs (-1074)) := by unfold RN; split <;> omega
theorem RN_exact {Z : Int} {g : Nat} (hs : Z.natAbs.log2 ≤ 2000) (hd : ((2 ^ g : Nat) : Int) ∣ Z) (hb : Z.natAbs < 2 ^ (53 + g)) : RN Z = Z := by
  unfold RN
  rw [vN_exact hs (Int.ofNat_dvd_left.1 hd) hb]
  split <;> omega
theorem RN_dvd {Z : Int} {g : Nat} (hs : Z.natAbs.log2 ≤ 2000) (hd : ((2 ^ g : Nat) : Int) ∣ Z) : ((2 ^ g : Nat) : Int) ∣ RN Z := by
  rw [Int.ofNat_dvd_left, RN_abs]
  exact vN_dvd hs (Int.ofNat_dvd_left.1 hd)
theorem RN_zero : RN 0 = 0 := by
  unfold RN
  rw [show (0 : Int).natAbs = 0 from rfl, rungOf_zero, val_zero64]; rfl
theorem RN_best {Z : Int} (hs : Z.natAbs.log2 ≤ 2000) (v : Nat) : (RN Z - Z).natAbs ≤ (sval64 v - Z).natAbs := by
  have h1 := vN_best hs (rung64 v)
  have h0 := vN_best hs 0
  rw [val_zero64] at h0
  unfold RN sval64
  generalize val64 (rungOf Ieee.double Z.natAbs (-1074)) = V at h0 h1
  generalize val64 (rung64 v) = W at h1
  split <;> split <;> omega
theorem RN_self {v : Nat} (hs : (sval64 v).natAbs.log2 ≤ 2000) : RN (sval64 v) = sval64 v := by
  have := RN_best hs v
  rw [Int.sub_self] at this
  omega
theorem RN_le {Z : Int} (hs : Z.natAbs.log2 ≤ 2000) : (RN Z).natAbs ≤ 2 * Z.natAbs := by
  have h := RN_best hs 0
  have e : sval64 0 = 0 := by decide
  rw [e] at h
  omega

/-- The word of a sign and a number of least units. -/
def wordOf (σ : Bool) (Z : Int) : Nat := Ieee.double.word σ (rungOf Ieee.double Z.natAbs (-1074))
theorem wordOf_facts {σ : Bool} {Z : Int} (hs : Z.natAbs.log2 ≤ 2000) (hσ : Z ≠ 0 → σ = decide (Z < 0)) :
    rung64 (wordOf σ Z) = rungOf Ieee.double Z.natAbs (-1074) ∧ sgn64 (wordOf σ Z) = σ ∧ rung64 (wordOf σ Z) < 9218868437227405312 ∧ sval64 (wordOf σ Z) = RN Z := by
  have hr : rungOf Ieee.double Z.natAbs (-1074) < 9218868437227405312 := by
    rw [rung64_eq hs]
    have := (kept_bd (M := Z.natAbs)).1
    have : lostK Z.natAbs ≤ 1948 := by unfold lostK; omega
    omega
  obtain ⟨a, b⟩ := sgn_word64 σ (r := rungOf Ieee.double Z.natAbs (-1074)) (by omega)
  refine ⟨b, a, by unfold wordOf; rw [b]; exact hr, ?_⟩
  unfold sval64 wordOf RN
  rw [a, b]
  by_cases h : Z = 0
  · subst h
    rw [show (0 : Int).natAbs = 0 from rfl, rungOf_zero, val_zero64]
    cases σ <;> rfl
  · rw [hσ h]
    by_cases k : Z < 0
    · rw [decide_eq_true k, if_pos rfl, if_pos k]
    · rw [decide_eq_false k, if_neg (by decide), if_neg k]

/-- The sign of a sum. -/
def sg (s t : Bool) (Z : Int) : Bool := if Z = 0 then s && t else decide (Z < 0)
theorem sg_of {s t : Bool} {Z : Int} (h : Z ≠ 0) : sg s t Z = decide (Z < 0) := by unfold sg; rw [if_neg h]
/-- An exact sum, in least units. -/
theorem sum_units (s t : Bool) (m n : Nat) (i j : Int) (hi : -1074 ≤ i) (hj : -1074 ≤ j) :
    ∃ N b, (Ieee.Datum.number s m i).sum (.number t n j) = some (.number (sg s t (Ieee.signed s m (i + 1074).toNat + Ieee.signed t n (j + 1074).toNat)) N b) ∧
      ∀ f, rungOf f N b = rungOf f (Ieee.signed s m (i + 1074).toNat + Ieee.signed t n (j + 1074).toNat).natAbs (-1074) := by
  obtain ⟨k, hk⟩ : ∃ k : Nat, min i j = -1074 + (k : Int) := ⟨(min i j + 1074).toNat, by omega⟩
  obtain ⟨Y, hY⟩ : ∃ Y, Y = Ieee.signed s m (i - min i j).toNat + Ieee.signed t n (j - min i j).toNat := ⟨_, rfl⟩
  have e : Ieee.signed s m (i + 1074).toNat + Ieee.signed t n (j + 1074).toNat = Y * 2 ^ k := by
    rw [hY, Int.add_mul, signed_shift, signed_shift, show (i - min i j).toNat + k = (i + 1074).toNat by omega, show (j - min i j).toNat + k = (j + 1074).toNat by omega]
    unfold Ieee.signed
    rw [Nat.shiftLeft_eq, Nat.shiftLeft_eq, Nat.shiftLeft_zero, Nat.shiftLeft_zero]
  have hp : (0 : Int) < 2 ^ k := Int.pow_pos (by decide)
  have hz : (Y * 2 ^ k = 0) ↔ Y = 0 := by
    constructor
    · intro h; rcases Int.mul_eq_zero.1 h with h | h
      · exact h
      · omega
    · intro h; rw [h, Int.zero_mul]
  have hl : (Y * 2 ^ k < 0) ↔ Y < 0 := by
    constructor
    · intro h
      rcases Int.lt_or_le Y 0 with g | g
      · exact g
      · have := Int.mul_nonneg g (Int.le_of_lt hp); omega
    · intro h; exact Int.mul_neg_of_neg_of_pos h hp
  refine ⟨Y.natAbs, min i j, ?_, ?_⟩
  · rw [e]
    show some (Ieee.Datum.number (if Ieee.signed s m (i - min i j).toNat + Ieee.signed t n (j - min i j).toNat = 0 then s && t else decide (Ieee.signed s m (i - min i j).toNat + Ieee.signed t n (j - min i j).toNat < 0)) (Ieee.signed s m (i - min i j).toNat + Ieee.signed t n (j - min i j).toNat).natAbs (min i j)) = _
    rw [← hY]
    unfold sg
    simp only [hz, hl]
  · intro f
    rw [e, rung_down f Y.natAbs k, show min i j - (k : Int) = -1074 by omega]
    congr 1
    rw [Int.natAbs_mul, Int.natAbs_pow]; rfl
theorem signed_read (x : Nat) : Ieee.signed (sgn64 x) (mag64 (rung64 x)) (-1074 + (plc64 (rung64 x) : Int) + 1074).toNat = sval64 x := by
  rw [show (-1074 + (plc64 (rung64 x) : Int) + 1074).toNat = plc64 (rung64 x) by omega]
  unfold Ieee.signed sval64 val64
  rw [Nat.shiftLeft_eq]
theorem signed_neg (s : Bool) (m k : Nat) : Ieee.signed (!s) m k = -Ieee.signed s m k := by
  unfold Ieee.signed; cases s <;> simp
theorem add_fin {x y : Nat} (hx : rung64 x < 9218868437227405312) (hy : rung64 y < 9218868437227405312) :
    floatBits .add .f64 x y = some (wordOf (sg (sgn64 x) (sgn64 y) (sval64 x + sval64 y)) (sval64 x + sval64 y)) := by
  show ((Ieee.double.read x).sum (Ieee.double.read y)).map Ieee.double.write = _
  rw [read_fin64 hx, read_fin64 hy]
  obtain ⟨N, b, e1, e2⟩ := sum_units (sgn64 x) (sgn64 y) (mag64 (rung64 x)) (mag64 (rung64 y)) (-1074 + (plc64 (rung64 x) : Int)) (-1074 + (plc64 (rung64 y) : Int)) (by omega) (by omega)
  rw [e1]
  show some (Ieee.double.nearest _ N b) = _
  rw [nearest_rung, e2, signed_read, signed_read]; rfl
theorem sub_fin {x y : Nat} (hx : rung64 x < 9218868437227405312) (hy : rung64 y < 9218868437227405312) :
    floatBits .sub .f64 x y = some (wordOf (sg (sgn64 x) (!sgn64 y) (sval64 x - sval64 y)) (sval64 x - sval64 y)) := by
  show ((Ieee.double.read x).sum (Ieee.double.read y).opposite).map Ieee.double.write = _
  rw [read_fin64 hx, read_fin64 hy]
  obtain ⟨N, b, e1, e2⟩ := sum_units (sgn64 x) (!sgn64 y) (mag64 (rung64 x)) (mag64 (rung64 y)) (-1074 + (plc64 (rung64 x) : Int)) (-1074 + (plc64 (rung64 y) : Int)) (by omega) (by omega)
  show ((Ieee.Datum.number (sgn64 x) (mag64 (rung64 x)) (-1074 + (plc64 (rung64 x) : Int))).sum (.number (!sgn64 y) (mag64 (rung64 y)) (-1074 + (plc64 (rung64 y) : Int)))).map Ieee.double.write = _
  rw [e1]
  show some (Ieee.double.nearest _ N b) = _
  rw [nearest_rung, e2, signed_neg, signed_read, signed_read, ← Int.sub_eq_add_neg]; rfl
end Go.Proofs.YtieojgblamkgoaaGreatDoor
/- Plain facts: what is lost of a sum in binary64 is told exactly by five steps; the sum made odd, made narrow, is the exact sum rounded once. -/
namespace Go.Proofs.YtieojgblamkgoaaGreatDoor
open Go.RowKit

/-- A size that no sum here comes to. -/
def capJ : Nat := 1990
theorem cap_log {n : Nat} (h : n < 1024 * 2 ^ capJ) : n.log2 ≤ 2000 := by
  by_cases h0 : n = 0
  · subst h0; decide
  · have e : 1024 * 2 ^ capJ = 2 ^ (10 + capJ) := by rw [Nat.pow_add]
    rw [e] at h
    have := (Nat.log2_lt h0).2 h
    unfold capJ at this
    omega
/-- The size. -/
def ab (z : Int) : Nat := z.natAbs
theorem ab_add (a b : Int) : ab (a + b) ≤ ab a + ab b := by unfold ab; omega
theorem ab_sub (a b : Int) : ab (a - b) ≤ ab a + ab b := by unfold ab; omega
theorem ab_neg {a b : Int} (h : a = -b) : ab a = ab b := by unfold ab; omega
theorem sub_step {B x y : Nat} (hB : ∀ n, n < 1024 * B → n.log2 ≤ 2000) (hx : rung64 x < 9218868437227405312) (hy : rung64 y < 9218868437227405312) (hs : ab (sval64 x - sval64 y) < 1024 * B) :
    ∃ r, floatBits .sub .f64 x y = some r ∧ sval64 r = RN (sval64 x - sval64 y) ∧ rung64 r < 9218868437227405312 ∧ ab (sval64 r) ≤ 2 * ab (sval64 x - sval64 y) := by
  obtain ⟨a, b, c, d⟩ := wordOf_facts (σ := sg (sgn64 x) (!sgn64 y) (sval64 x - sval64 y)) (hB _ hs) sg_of
  exact ⟨_, sub_fin hx hy, d, c, by rw [d]; exact RN_le (hB _ hs)⟩
theorem add_step {B x y : Nat} (hB : ∀ n, n < 1024 * B → n.log2 ≤ 2000) (hx : rung64 x < 9218868437227405312) (hy : rung64 y < 9218868437227405312) (hs : ab (sval64 x + sval64 y) < 1024 * B) :
    ∃ r, floatBits .add .f64 x y = some r ∧ sval64 r = RN (sval64 x + sval64 y) ∧ rung64 r < 9218868437227405312 ∧ ab (sval64 r) ≤ 2 * ab (sval64 x + sval64 y) := by
  obtain ⟨a, b, c, d⟩ := wordOf_facts (σ := sg (sgn64 x) (sgn64 y) (sval64 x + sval64 y)) (hB _ hs) sg_of
  exact ⟨_, add_fin hx hy, d, c, by rw [d]; exact RN_le (hB _ hs)⟩

/-- The five steps. -/
theorem lost_words {B x y s g : Nat} (hB : ∀ n, n < 1024 * B → n.log2 ≤ 2000) (hx : rung64 x < 9218868437227405312) (hy : rung64 y < 9218868437227405312) (hs : rung64 s < 9218868437227405312)
    (bx : ab (sval64 x) < B) (by' : ab (sval64 y) < B) (dx : ((2 ^ g : Nat) : Int) ∣ sval64 x) (dy : ((2 ^ g : Nat) : Int) ∣ sval64 y)
    (hg : ab (sval64 x) < 2 ^ (48 + g) ∨ ab (sval64 y) < 2 ^ (48 + g)) (hS : sval64 s = RN (sval64 x + sval64 y)) :
    ∃ p q t u l, floatBits .sub .f64 s x = some p ∧ floatBits .sub .f64 s p = some q ∧ floatBits .sub .f64 x q = some t ∧ floatBits .sub .f64 y p = some u ∧ floatBits .add .f64 t u = some l ∧
      sval64 l = sval64 x + sval64 y - sval64 s ∧ rung64 l < 9218868437227405312 := by
  have z1 := ab_add (sval64 x) (sval64 y)
  have hZ : (sval64 x + sval64 y).natAbs.log2 ≤ 2000 := hB _ (show ab (sval64 x + sval64 y) < 1024 * B by omega)
  have b1 : ab (sval64 s - (sval64 x + sval64 y)) ≤ ab (sval64 y) := by
    have h : ab (RN (sval64 x + sval64 y) - (sval64 x + sval64 y)) ≤ ab (sval64 x - (sval64 x + sval64 y)) := RN_best hZ x
    rw [← hS, ab_neg (show sval64 x - (sval64 x + sval64 y) = -sval64 y by omega)] at h
    exact h
  have b2 : ab (sval64 s - (sval64 x + sval64 y)) ≤ ab (sval64 x) := by
    have h : ab (RN (sval64 x + sval64 y) - (sval64 x + sval64 y)) ≤ ab (sval64 y - (sval64 x + sval64 y)) := RN_best hZ y
    rw [← hS, ab_neg (show sval64 y - (sval64 x + sval64 y) = -sval64 x by omega)] at h
    exact h
  have b3 : ab (sval64 s) ≤ 2 * ab (sval64 x + sval64 y) := by rw [hS]; exact RN_le hZ
  have ds : ((2 ^ g : Nat) : Int) ∣ sval64 s := by rw [hS]; exact RN_dvd hZ (Int.dvd_add dx dy)
  have e53 : 2 ^ (53 + g) = 32 * 2 ^ (48 + g) := by rw [show 53 + g = 5 + (48 + g) by omega, Nat.pow_add]
  have z2 := ab_sub (sval64 s) (sval64 x)
  obtain ⟨p, fp, vp, rp, bp⟩ := sub_step hB hs hx (by omega)
  have hP : (sval64 s - sval64 x).natAbs.log2 ≤ 2000 := hB _ (show ab (sval64 s - sval64 x) < 1024 * B by omega)
  have dP := Int.dvd_sub ds dx
  have dp : ((2 ^ g : Nat) : Int) ∣ sval64 p := by rw [vp]; exact RN_dvd hP dP
  have z3 := ab_sub (sval64 s) (sval64 p)
  obtain ⟨q, fq, vq, rq, bq⟩ := sub_step hB hs rp (by omega)
  have hQ : (sval64 s - sval64 p).natAbs.log2 ≤ 2000 := hB _ (show ab (sval64 s - sval64 p) < 1024 * B by omega)
  have z4 := ab_sub (sval64 x) (sval64 q)
  have z5 := ab_sub (sval64 y) (sval64 p)
  obtain ⟨t, ft, vt, rt, bt⟩ := sub_step hB hx rq (by omega)
  obtain ⟨u, fu, vu, ru, bu⟩ := sub_step hB hy rp (by omega)
  have hT : (sval64 x - sval64 q).natAbs.log2 ≤ 2000 := hB _ (show ab (sval64 x - sval64 q) < 1024 * B by omega)
  have hU : (sval64 y - sval64 p).natAbs.log2 ≤ 2000 := hB _ (show ab (sval64 y - sval64 p) < 1024 * B by omega)
  have z6 := ab_add (sval64 t) (sval64 u)
  obtain ⟨l, fl, vl, rl, bl⟩ := add_step hB rt ru (by omega)
  have hL : (sval64 t + sval64 u).natAbs.log2 ≤ 2000 := hB _ (show ab (sval64 t + sval64 u) < 1024 * B by omega)
  refine ⟨p, q, t, u, l, fp, fq, ft, fu, fl, ?_, rl⟩
  rcases hg with hg | hg
  · -- the first one is small
    have b4 : ab (sval64 p - (sval64 s - sval64 x)) ≤ ab (sval64 x) := by
      have h : ab (RN (sval64 s - sval64 x) - (sval64 s - sval64 x)) ≤ ab (sval64 y - (sval64 s - sval64 x)) := RN_best hP y
      rw [← vp, ab_neg (show sval64 y - (sval64 s - sval64 x) = -(sval64 s - (sval64 x + sval64 y)) by omega)] at h
      exact Nat.le_trans h b2
    have eq : sval64 q = sval64 s - sval64 p := by
      have k1 := ab_sub (sval64 x) (sval64 p - (sval64 s - sval64 x))
      rw [show sval64 x - (sval64 p - (sval64 s - sval64 x)) = sval64 s - sval64 p by omega] at k1
      rw [vq]; exact RN_exact hQ (Int.dvd_sub ds dp) (show ab (sval64 s - sval64 p) < 2 ^ (53 + g) by omega)
    have et : sval64 t = sval64 x - sval64 q := by
      have k1 : sval64 x - sval64 q = sval64 p - (sval64 s - sval64 x) := by rw [eq]; omega
      rw [vt]
      refine RN_exact hT (g := g) ?_ (show ab (sval64 x - sval64 q) < 2 ^ (53 + g) by rw [k1]; omega)
      rw [k1]; exact Int.dvd_sub dp dP
    have eu : sval64 u = sval64 y - sval64 p := by
      have k1 := ab_sub (sval64 y - (sval64 s - sval64 x)) (sval64 p - (sval64 s - sval64 x))
      rw [show sval64 y - (sval64 s - sval64 x) - (sval64 p - (sval64 s - sval64 x)) = sval64 y - sval64 p by omega, ab_neg (show sval64 y - (sval64 s - sval64 x) = -(sval64 s - (sval64 x + sval64 y)) by omega)] at k1
      rw [vu]; exact RN_exact hU (Int.dvd_sub dy dp) (show ab (sval64 y - sval64 p) < 2 ^ (53 + g) by omega)
    have esum : sval64 t + sval64 u = sval64 x + sval64 y - sval64 s := by rw [et, eu, eq]; omega
    have k2 : ab (sval64 t + sval64 u) = ab (sval64 s - (sval64 x + sval64 y)) := ab_neg (by rw [esum]; omega)
    rw [vl]
    have k3 : RN (sval64 t + sval64 u) = sval64 t + sval64 u := by
      refine RN_exact hL (g := g) ?_ (show ab (sval64 t + sval64 u) < 2 ^ (53 + g) by omega)
      rw [esum]; exact Int.dvd_sub (Int.dvd_add dx dy) ds
    rw [k3, esum]
  · have ep : sval64 p = sval64 s - sval64 x := by
      have k1 := ab_add (sval64 s - (sval64 x + sval64 y)) (sval64 y)
      rw [show sval64 s - (sval64 x + sval64 y) + sval64 y = sval64 s - sval64 x by omega] at k1
      rw [vp]; exact RN_exact hP dP (show ab (sval64 s - sval64 x) < 2 ^ (53 + g) by omega)
    have eq : sval64 q = sval64 x := by
      rw [vq, ep, show sval64 s - (sval64 s - sval64 x) = sval64 x by omega]
      exact RN_self (hB _ (show ab (sval64 x) < 1024 * B by omega))
    have et : sval64 t = 0 := by
      rw [vt, eq, Int.sub_self]; exact RN_zero
    have k1 : ab (sval64 y - sval64 p) = ab (sval64 s - (sval64 x + sval64 y)) := ab_neg (by rw [ep]; omega)
    have eu : sval64 u = sval64 y - sval64 p := by
      rw [vu]; exact RN_exact hU (Int.dvd_sub dy dp) (show ab (sval64 y - sval64 p) < 2 ^ (53 + g) by omega)
    have esum : sval64 t + sval64 u = sval64 x + sval64 y - sval64 s := by rw [et, eu, ep]; omega
    have k2 : ab (sval64 t + sval64 u) = ab (sval64 s - (sval64 x + sval64 y)) := ab_neg (by rw [esum]; omega)
    rw [vl]
    have k3 : RN (sval64 t + sval64 u) = sval64 t + sval64 u := by
      refine RN_exact hL (g := g) ?_ (show ab (sval64 t + sval64 u) < 2 ^ (53 + g) by omega)
      rw [esum]; exact Int.dvd_sub (Int.dvd_add dx dy) ds
    rw [k3, esum]

theorem sval_zero {l : Nat} : sval64 l = 0 ↔ rung64 l = 0 := by
  have h1 : rung64 l = 0 → val64 (rung64 l) = 0 := fun h => by rw [h]; exact val_zero64
  have h2 : 0 < rung64 l → 0 < val64 (rung64 l) := val_pos64
  unfold sval64
  constructor
  · intro h
    rcases Nat.eq_zero_or_pos (rung64 l) with g | g
    · exact g
    · have := h2 g; split at h <;> omega
  · intro h
    rw [h1 h]; split <;> rfl
theorem order_neg {l : Nat} (h : rung64 l < 9218868437227405312) : (Ieee.double.order l 0 == some Ordering.lt) = decide (sval64 l < 0) := by
  rw [order_fin64 h (by decide), ← sval_srung64, cmp_lt, show sval64 0 = 0 from by decide]

/-- The odd one of the two about a number. -/
theorem odd_stick (M : Nat) :
    (if rne M (lostK M) % 2 = 1 ∨ rne M (lostK M) * 2 ^ lostK M = M then rne M (lostK M) else if rne M (lostK M) * 2 ^ lostK M < M then rne M (lostK M) + 1 else rne M (lostK M) - 1) = stick M (lostK M + 1) := by
  obtain ⟨K, hKe⟩ : ∃ K, K = lostK M := ⟨_, rfl⟩
  rw [← hKe]
  have hp := Nat.two_pow_pos K
  have d1 := Nat.div_add_mod M (2 ^ K)
  have r1 := Nat.mod_lt M hp
  have ep : 2 ^ (K + 1) = 2 * 2 ^ K := by rw [Nat.pow_succ]; omega
  have c1 : M / 2 ^ (K + 1) = M / 2 ^ K / 2 := by rw [Nat.pow_succ, Nat.div_div_eq_div_mul]
  have c2 := Nat.div_add_mod M (2 ^ (K + 1))
  have hc : (rne M K = M / 2 ^ K ∧ ¬ (2 ^ K < 2 * (M % 2 ^ K) ∨ (2 ^ K = 2 * (M % 2 ^ K) ∧ M / 2 ^ K % 2 = 1))) ∨ (rne M K = M / 2 ^ K + 1 ∧ (2 ^ K < 2 * (M % 2 ^ K) ∨ (2 ^ K = 2 * (M % 2 ^ K) ∧ M / 2 ^ K % 2 = 1))) := by
    unfold rne
    by_cases h : goesUp M K
    · rw [if_pos h]; exact Or.inr ⟨rfl, h⟩
    · rw [if_neg h]; exact Or.inl ⟨rfl, h⟩
  unfold stick
  rw [c1] at c2 ⊢
  generalize rne M K = c at hc
  generalize hT : M / 2 ^ K = T at c2 d1 hc
  generalize hr : M % 2 ^ K = r at d1 r1 hc
  generalize hR : M % 2 ^ (K + 1) = R at c2
  rw [ep] at c2
  generalize hE : 2 ^ K = E at c2 d1 r1 hp hc
  clear hT hr hR hE hKe ep c1
  have hRr : R = T % 2 * E + r := by
    have a1 : E * T = 2 * E * (T / 2) + T % 2 * E := by
      have h2 : E * T = E * (2 * (T / 2) + T % 2) := by rw [Nat.div_add_mod T 2]
      rw [h2, Nat.mul_add, ← Nat.mul_assoc, Nat.mul_comm E 2, Nat.mul_comm E (T % 2)]
    omega
  have e0 : E * T = T * E := Nat.mul_comm _ _
  have e2 : (T + 1) * E = T * E + E := by rw [Nat.add_mul, Nat.one_mul]
  have hT2 := Nat.div_add_mod T 2
  rcases Nat.mod_two_eq_zero_or_one T with ht | ht
  · rw [ht, Nat.zero_mul, Nat.zero_add] at hRr
    rw [hRr]
    rcases hc with ⟨rfl, up⟩ | ⟨rfl, up⟩
    · by_cases hr0 : r = 0
      · rw [if_pos (Or.inr (by omega)), if_pos hr0]; omega
      · rw [if_neg hr0, if_neg (by omega), if_pos (by omega)]; omega
    · rw [if_pos (Or.inl (by omega)), if_neg (by omega)]; omega
  · rw [ht, Nat.one_mul] at hRr
    rw [if_neg (show ¬ R = 0 by omega)]
    rcases hc with ⟨rfl, up⟩ | ⟨rfl, up⟩
    · rw [if_pos (Or.inl ht)]; omega
    · rw [if_neg (by omega), if_neg (by omega)]; omega
/-- A number rounded to odd in binary64, then to a sample, is the number rounded once. -/
theorem stick_rung {M : Nat} (hM : M.log2 ≤ 2000) (hK : 0 < lostK M) : rungOf Ieee.single (stick M (lostK M + 1) * 2 ^ lostK M) (-1074) = rungOf Ieee.single M (-1074) := by
  have h0 : M ≠ 0 := by intro h0; subst h0; exact absurd hK (by decide)
  rw [rung_scale]
  have := rung_stick Ieee.single (M := M) (k := lostK M + 1) (-1074) (by unfold lostK at *; omega) h0 (by
    unfold lastOf
    rw [show (Ieee.single.fractionBits : Int) = 23 from rfl]
    unfold lostK at *
    omega)
  rw [← this]
  congr 1; omega
end Go.Proofs.YtieojgblamkgoaaGreatDoor
/- Plain facts: the program's product and sum in binary64, the sum made odd, made narrow: the exact number rounded once. -/
namespace Go.Proofs.YtieojgblamkgoaaGreatDoor
open Go.RowKit

/-- A finite sample in least units of binary64. -/
def sampleZ (a : Nat) : Int := Ieee.signed (sgn32 a) (mag32 (rung32 a)) (plc32 (rung32 a) + 925)
theorem signed_abs (s : Bool) (m k : Nat) : (Ieee.signed s m k).natAbs = m * 2 ^ k := by
  unfold Ieee.signed; rw [Nat.shiftLeft_eq]; split <;> omega
theorem signed_sign {s : Bool} {m k : Nat} (h : Ieee.signed s m k ≠ 0) : s = decide (Ieee.signed s m k < 0) := by
  unfold Ieee.signed at *; rw [Nat.shiftLeft_eq] at *
  cases s
  · simp only [Bool.false_eq_true, if_false]; rw [decide_eq_false (by omega)]
  · simp only [if_true] at *; rw [decide_eq_true (by omega)]
theorem signed_dvd (s : Bool) (m : Nat) {k g : Nat} (h : g ≤ k) : ((2 ^ g : Nat) : Int) ∣ Ieee.signed s m k := by
  rw [Int.ofNat_dvd_left, signed_abs]
  exact Nat.dvd_trans (Nat.pow_dvd_pow 2 h) (Nat.dvd_mul_left _ _)
theorem cap_units {m k e : Nat} (hm : m < 2 ^ e) (h : k + e ≤ 1990) : m * 2 ^ k < 2 ^ capJ := by
  have h1 : m * 2 ^ k < 2 ^ e * 2 ^ k := Nat.mul_lt_mul_of_pos_right hm (Nat.two_pow_pos _)
  rw [← Nat.pow_add] at h1
  exact Nat.lt_of_lt_of_le h1 (Nat.pow_le_pow_right (by decide) (by unfold capJ; omega))
theorem units_log {n : Nat} (h : n < 2 ^ capJ) : n.log2 ≤ 2000 := cap_log (by omega)
/-- A whole number of few digits, in least units, is a word as it is. -/
theorem units_word {s : Bool} {m k : Nat} (hm : m < 2 ^ 53) (hk : k ≤ 1900) :
    rung64 (wordOf s (Ieee.signed s m k)) < 9218868437227405312 ∧ sgn64 (wordOf s (Ieee.signed s m k)) = s ∧ sval64 (wordOf s (Ieee.signed s m k)) = Ieee.signed s m k := by
  have hl : (Ieee.signed s m k).natAbs.log2 ≤ 2000 := by rw [signed_abs]; exact units_log (cap_units hm (by omega))
  obtain ⟨a, b, c, d⟩ := wordOf_facts (σ := s) hl signed_sign
  refine ⟨c, b, ?_⟩
  rw [d]
  refine RN_exact hl (signed_dvd s m (Nat.le_refl k)) ?_
  rw [signed_abs, Nat.pow_add]
  exact Nat.mul_lt_mul_of_pos_right hm (Nat.two_pow_pos _)
theorem plc_le32 {a : Nat} (h : rung32 a < 2139095040) : plc32 (rung32 a) ≤ 253 := by unfold plc32; omega
theorem wide_units {a : Nat} (h : rung32 a < 2139095040) : wideN a = wordOf (sgn32 a) (sampleZ a) := by
  unfold wideN wordOf sampleZ
  rw [read_fin32 h]
  show Ieee.double.nearest _ _ _ = _
  rw [nearest_rung, signed_abs, rung_scale, show (-1074 : Int) + ((plc32 (rung32 a) + 925 : Nat) : Int) = -149 + (plc32 (rung32 a) : Int) by omega]
theorem wide_fin {a : Nat} (h : rung32 a < 2139095040) : rung64 (wideN a) < 9218868437227405312 ∧ sgn64 (wideN a) = sgn32 a ∧ sval64 (wideN a) = sampleZ a := by
  rw [wide_units h]
  have hp := plc_le32 h
  have hm := mag_lt32 (rung32 a)
  exact units_word (by omega) (by omega)
theorem val_abs (x : Nat) : (sval64 x).natAbs = val64 (rung64 x) := by unfold sval64; split <;> omega

/-- A product of two samples in least units. -/
def prodZ (a b : Nat) : Int := Ieee.signed (sgn32 a ^^ sgn32 b) (mag32 (rung32 a) * mag32 (rung32 b)) (plc32 (rung32 a) + plc32 (rung32 b) + 776)
theorem prod_lt (a b : Nat) : mag32 (rung32 a) * mag32 (rung32 b) < 2 ^ 48 := by
  have h1 := mag_lt32 (rung32 a)
  have h2 := mag_lt32 (rung32 b)
  have a1 : mag32 (rung32 a) * mag32 (rung32 b) ≤ 16777215 * mag32 (rung32 b) := Nat.mul_le_mul_right _ (by omega)
  omega
theorem prod_units {a b : Nat} (ha : rung32 a < 2139095040) (hb : rung32 b < 2139095040) : floatBits .mul .f64 (wideN a) (wideN b) = some (wordOf (sgn32 a ^^ sgn32 b) (prodZ a b)) := by
  obtain ⟨r1, s1, v1⟩ := wide_fin ha
  obtain ⟨r2, s2, v2⟩ := wide_fin hb
  show ((Ieee.double.read (wideN a)).product (Ieee.double.read (wideN b))).map Ieee.double.write = _
  rw [read_fin64 r1, read_fin64 r2, s1, s2]
  show some (Ieee.double.nearest _ _ _) = _
  rw [nearest_rung]
  unfold wordOf prodZ
  rw [signed_abs]
  have w1 : mag64 (rung64 (wideN a)) * 2 ^ plc64 (rung64 (wideN a)) = mag32 (rung32 a) * 2 ^ (plc32 (rung32 a) + 925) := by
    have := val_abs (wideN a)
    rw [v1] at this
    unfold sampleZ at this
    rw [signed_abs] at this
    exact this.symm
  have w2 : mag64 (rung64 (wideN b)) * 2 ^ plc64 (rung64 (wideN b)) = mag32 (rung32 b) * 2 ^ (plc32 (rung32 b) + 925) := by
    have := val_abs (wideN b)
    rw [v2] at this
    unfold sampleZ at this
    rw [signed_abs] at this
    exact this.symm
  obtain ⟨E, hE⟩ : ∃ E : Nat, E = 1074 := ⟨_, rfl⟩
  have e : mag64 (rung64 (wideN a)) * mag64 (rung64 (wideN b)) * 2 ^ (plc64 (rung64 (wideN a)) + plc64 (rung64 (wideN b))) = mag32 (rung32 a) * mag32 (rung32 b) * 2 ^ (plc32 (rung32 a) + plc32 (rung32 b) + 776) * 2 ^ E := by
    have a1 : mag64 (rung64 (wideN a)) * mag64 (rung64 (wideN b)) * 2 ^ (plc64 (rung64 (wideN a)) + plc64 (rung64 (wideN b))) = (mag64 (rung64 (wideN a)) * 2 ^ plc64 (rung64 (wideN a))) * (mag64 (rung64 (wideN b)) * 2 ^ plc64 (rung64 (wideN b))) := by
      rw [Nat.pow_add, Nat.mul_mul_mul_comm]
    rw [a1, w1, w2, Nat.mul_mul_mul_comm, ← Nat.pow_add, Nat.mul_assoc (mag32 (rung32 a) * mag32 (rung32 b)), ← Nat.pow_add]
    congr 2; omega
  have k1 := rung_scale Ieee.double (mag64 (rung64 (wideN a)) * mag64 (rung64 (wideN b))) (plc64 (rung64 (wideN a)) + plc64 (rung64 (wideN b))) (-2148)
  rw [e, rung_scale, show (-2148 : Int) + (E : Int) = -1074 by omega] at k1
  have e4 : (-1074 : Int) + (plc64 (rung64 (wideN a)) : Int) + (-1074 + (plc64 (rung64 (wideN b)) : Int)) = -2148 + ((plc64 (rung64 (wideN a)) + plc64 (rung64 (wideN b)) : Nat) : Int) := by omega
  rw [e4, ← k1]

theorem rung_pos {M : Nat} (h : M ≠ 0) : 0 < rne M (lostK M) := by
  rcases Nat.eq_zero_or_pos (lostK M) with g | g
  · rw [g, rne_zero]; omega
  · have := (kept_bd (M := M)).2 g; omega
theorem stick_bd {M : Nat} (hK : 0 < lostK M) : 4503599627370496 ≤ stick M (lostK M + 1) ∧ stick M (lostK M + 1) ≤ 9007199254740992 := by
  have h0 : M ≠ 0 := by intro h0; subst h0; exact absurd hK (by decide)
  have h1 := Nat.log2_self_le h0
  have h2 : M < 2 ^ (M.log2 + 1) := Nat.lt_log2_self
  have e : M.log2 = 52 + lostK M := by unfold lostK at *; omega
  rw [e] at h1 h2
  have a1 : 2 ^ 51 ≤ M / 2 ^ (lostK M + 1) := by
    rw [Nat.le_div_iff_mul_le (Nat.two_pow_pos _), ← Nat.pow_add, show 51 + (lostK M + 1) = 52 + lostK M by omega]; exact h1
  have a2 : M / 2 ^ (lostK M + 1) < 2 ^ 52 := by
    rw [Nat.div_lt_iff_lt_mul (Nat.two_pow_pos _), ← Nat.pow_add, show 52 + (lostK M + 1) = 52 + lostK M + 1 by omega]; exact h2
  unfold stick
  split <;> omega
/-- The sum made odd, as a word. -/
theorem odd_word {σ : Bool} {Z : Int} {l : Nat} (hZ : Z.natAbs.log2 ≤ 2000) (h0 : Z ≠ 0) (hσ : σ = decide (Z < 0)) (hl : rung64 l < 9218868437227405312) (vl : sval64 l = Z - RN Z) :
    ∃ R, oddV (wordOf σ Z) l = Ieee.double.word σ R ∧ R < 9218868437227405312 ∧ rungOf Ieee.single (val64 R) (-1074) = rungOf Ieee.single Z.natAbs (-1074) := by
  obtain ⟨f1, f2, f3, f4⟩ := wordOf_facts (σ := σ) hZ (fun _ => hσ)
  obtain ⟨M, hM⟩ : ∃ M, M = Z.natAbs := ⟨_, rfl⟩
  have hM0 : M ≠ 0 := by omega
  have hR := RN_abs Z
  rw [← hM] at hZ hR
  rw [vN_eq hZ] at hR
  have hsg : RN Z < 0 ↔ Z < 0 := by
    unfold RN
    rw [← hM, vN_eq hZ]
    have := Nat.mul_pos (rung_pos hM0) (Nat.two_pow_pos (lostK M))
    generalize rne M (lostK M) * 2 ^ lostK M = V at this
    split <;> omega
  have hc := kept_bd (M := M)
  have hc0 := rung_pos hM0
  have es : wordOf σ Z = σ.toNat * 9223372036854775808 + (lostK M * 4503599627370496 + rne M (lostK M)) := by
    unfold wordOf
    rw [← hM, word64, rung64_eq hZ]
  have hst := odd_stick M
  have eo : oddV (wordOf σ Z) l = σ.toNat * 9223372036854775808 + (lostK M * 4503599627370496 + (if rne M (lostK M) % 2 = 1 ∨ rne M (lostK M) * 2 ^ lostK M = M then rne M (lostK M) else if rne M (lostK M) * 2 ^ lostK M < M then rne M (lostK M) + 1 else rne M (lostK M) - 1)) := by
    unfold oddV
    have c1 : (wordOf σ Z % 2 = 1 ∨ rung64 l = 0) ↔ (rne M (lostK M) % 2 = 1 ∨ rne M (lostK M) * 2 ^ lostK M = M) := by
      have d1 : wordOf σ Z % 2 = 1 ↔ rne M (lostK M) % 2 = 1 := by rw [es]; omega
      have d2 : rung64 l = 0 ↔ rne M (lostK M) * 2 ^ lostK M = M := by
        rw [← sval_zero, vl]
        generalize rne M (lostK M) * 2 ^ lostK M = V at hR
        omega
      rw [d1, d2]
    by_cases h1 : rne M (lostK M) % 2 = 1 ∨ rne M (lostK M) * 2 ^ lostK M = M
    · rw [if_pos (c1.2 h1), if_pos h1, es]
    · rw [if_neg (fun h => h1 (c1.1 h)), if_neg h1]
      have c2 : ((Ieee.double.order l 0 == some Ordering.lt) = (Ieee.double.order (wordOf σ Z) 0 == some Ordering.lt)) ↔ rne M (lostK M) * 2 ^ lostK M < M := by
        rw [order_neg hl, order_neg f3, vl, f4, decide_eq_decide]
        have h2 : ¬ rne M (lostK M) * 2 ^ lostK M = M := fun h => h1 (Or.inr h)
        generalize rne M (lostK M) * 2 ^ lostK M = V at hR h2
        omega
      by_cases h3 : rne M (lostK M) * 2 ^ lostK M < M
      · rw [if_pos (c2.2 h3), if_pos h3, es]; omega
      · rw [if_neg (fun h => h3 (c2.1 h)), if_neg h3, es]; omega
  rw [hst] at eo
  have hk : lostK M ≤ 1948 := by unfold lostK; omega
  rcases Nat.eq_zero_or_pos (lostK M) with g | g
  · have e1 : stick M (lostK M + 1) = M := by
      rw [g]; unfold stick
      rw [show 0 + 1 = 1 from rfl, Nat.pow_one]
      split <;> omega
    have hb : M ≤ 9007199254740992 := by
      have h2 : M < 2 ^ (M.log2 + 1) := Nat.lt_log2_self
      have : 2 ^ (M.log2 + 1) ≤ 2 ^ 53 := Nat.pow_le_pow_right (by decide) (by unfold lostK at g; omega)
      omega
    refine ⟨lostK M * 4503599627370496 + stick M (lostK M + 1), ?_, ?_, ?_⟩
    · rw [eo, word64]
    · rw [e1]; omega
    · rw [e1, val_of hb (by omega), g, Nat.pow_zero, Nat.mul_one, hM]
  · obtain ⟨s1, s2⟩ := stick_bd g
    refine ⟨lostK M * 4503599627370496 + stick M (lostK M + 1), ?_, ?_, ?_⟩
    · rw [eo, word64]
    · omega
    · rw [val_of s2 (fun _ => s1), stick_rung hZ g, hM]
end Go.Proofs.YtieojgblamkgoaaGreatDoor
/- What package arith's Fma returns: of numbers without an answer, and of others by its steps in binary64; what was in memory stays as it was. -/
namespace Go.Proofs.YtieojgblamkgoaaGreatDoor
open Go.RowKit

theorem go_mul1 (a : Nat) (u : World) (y : Nat) (w : World) : (binOp .mul 108 (.float .f64 (nanc .f64 a u)) (.float .f64 y)).run Tryz.prog w = .ok (.float .f64 (nanw .f64 (nanc .f64 a u) y w)) w.drew :=
  run_arith_none .mul (by simp) 108 .f64 _ y (mul_nan1 (nanc64 a u).1 y) Tryz.prog w
theorem go_mul2 (a : Nat) (u : World) (x : Nat) (w : World) : (binOp .mul 108 (.float .f64 x) (.float .f64 (nanc .f64 a u))).run Tryz.prog w = .ok (.float .f64 (nanw .f64 x (nanc .f64 a u) w)) w.drew :=
  run_arith_none .mul (by simp) 108 .f64 x _ (mul_nan2 (nanc64 a u).1 x) Tryz.prog w
theorem wide_nan {a : Nat} (h : nanN a = true) (w : World) : (convert 64 108 (.float .f32 a)).run Tryz.prog w = .ok (.float .f64 (nanc .f64 a w)) w.drew :=
  run_conv_nan (P := Tryz.prog) 64 108 .f32 .f64 a (by decide) (by kernel_rfl) Tryz.underlying108 (read32_nan h) w
theorem wide_num {a : Nat} (h : nanN a = false) (w : World) : (convert 64 108 (.float .f32 a)).run Tryz.prog w = .ok (.float .f64 (wideN a)) w :=
  run_convert_float_float (P := Tryz.prog) w 64 108 .f32 .f64 a _ (by kernel_rfl) Tryz.underlying108 (wide_conv h)

end Go.Proofs.YtieojgblamkgoaaGreatDoor
/- What package arith's Fma returns of whatever samples: the exact product and sum, rounded once. -/
namespace Go.Proofs.YtieojgblamkgoaaGreatDoor
open Go.RowKit

/-- The exact number of a product and a sum. -/
def fmaD (a b c : Nat) : Option Ieee.Datum := ((Ieee.single.read a).product (Ieee.single.read b)).bind fun d => d.sum (Ieee.single.read c)

theorem wide_read_inf {a : Nat} (h : rung32 a = 2139095040) : Ieee.double.read (wideN a) = .infinity (sgn32 a) := by rw [wide_inf h, read_winf64]
theorem fin_num {a : Nat} (h : rung32 a < 2139095040) : nanN a = false := by rw [nanN_rung]; exact decide_eq_false (by omega)
theorem inf_num {a : Nat} (h : rung32 a = 2139095040) : nanN a = false := by rw [nanN_rung]; exact decide_eq_false (by omega)
theorem wide_mag_zero {a : Nat} (h : rung32 a < 2139095040) : mag64 (rung64 (wideN a)) = 0 ↔ mag32 (rung32 a) = 0 := by
  obtain ⟨r, s, v⟩ := wide_fin h
  have e := val_abs (wideN a)
  rw [v] at e
  unfold sampleZ val64 at e
  rw [signed_abs] at e
  have p1 := Nat.two_pow_pos (plc32 (rung32 a) + 925)
  have p2 := Nat.two_pow_pos (plc64 (rung64 (wideN a)))
  constructor
  · intro h0
    rw [h0, Nat.zero_mul] at e
    rcases Nat.mul_eq_zero.1 e with k | k
    · exact k
    · omega
  · intro h0
    rw [h0, Nat.zero_mul] at e
    rcases Nat.mul_eq_zero.1 e.symm with k | k
    · exact k
    · omega

theorem told_inf (σ : Bool) : toldD (some (Ieee.double.read (Ieee.double.word σ 9218868437227405312))) = Ieee.single.word σ 2139095040 := by
  rw [read_winf64]
  show Ieee.single.word σ Ieee.single.infRung = _
  rw [inf32]
theorem inf_even (σ : Bool) : Ieee.double.word σ 9218868437227405312 % 2 = 0 ∧ Ieee.double.word σ 9218868437227405312 < 18446744073709551616 := by
  rw [word64]; have := Bool.toNat_lt σ; omega
theorem sub_inf_inf (σ : Bool) : floatBits .sub .f64 (Ieee.double.word σ 9218868437227405312) (Ieee.double.word σ 9218868437227405312) = none := by
  show ((Ieee.double.read _).sum (Ieee.double.read _).opposite).map _ = none
  rw [read_winf64]
  cases σ <;> rfl
theorem write_inf (σ : Bool) : Ieee.double.write (.infinity σ) = Ieee.double.word σ 9218868437227405312 := by
  show Ieee.double.word σ Ieee.double.infRung = _
  rw [inf64]

end Go.Proofs.YtieojgblamkgoaaGreatDoor
/- Plain facts: orders of two, ones, noughts and halves, in the model's own words of floats. -/
namespace Go.Proofs.YtieojgblamkgoaaGreatDoor
open Go.RowKit

theorem sum_comm (d d' : Ieee.Datum) : d.sum d' = d'.sum d := by
  cases d with
  | nan s t => cases d' <;> rfl
  | infinity s =>
    cases d' with
    | nan t f => rfl
    | infinity t =>
      show (if s = t then some (Ieee.Datum.infinity s) else none) = (if t = s then some (Ieee.Datum.infinity t) else none)
      by_cases h : s = t
      · subst h; rfl
      · rw [if_neg h, if_neg (fun e => h e.symm)]
    | number t n j => rfl
  | number s m i =>
    cases d' with
    | nan t f => rfl
    | infinity t => rfl
    | number t n j =>
      simp only [Ieee.Datum.sum]
      rw [Int.min_comm j i, Int.add_comm (Ieee.signed t n _), Bool.and_comm t s]
theorem product_comm (d d' : Ieee.Datum) : d.product d' = d'.product d := by
  cases d with
  | nan s t => cases d' <;> rfl
  | infinity s =>
    cases d' with
    | nan t f => rfl
    | infinity t => simp only [Ieee.Datum.product]; rw [Bool.xor_comm]
    | number t n j => rfl
  | number s m i =>
    cases d' with
    | nan t f => rfl
    | infinity t => rfl
    | number t n j =>
      simp only [Ieee.Datum.product]
      rw [Bool.xor_comm, Nat.mul_comm, Int.add_comm]
theorem leastV_comm {a b : Nat} : leastV (a : Int) (b : Int) = leastV b a := by
  unfold leastV befB keyV
  simp only [decide_eq_true_eq]
  repeat' split
  all_goals omega
theorem greatestV_comm {a b : Nat} : greatestV (a : Int) (b : Int) = greatestV b a := by
  unfold greatestV befB keyV
  simp only [decide_eq_true_eq]
  repeat' split
  all_goals omega

/-- A sample's own rung. -/
theorem self32 {r : Nat} (h : r < 2139095040) : rungOf Ieee.single (mag32 r) (-149 + (plc32 r : Int)) = r := by
  by_cases h0 : r = 0
  · subst h0; rw [show mag32 0 = 0 from by decide, rungOf_zero]
  · have hm := mag_ne32 h0
    have hm1 := mag_lt32 r
    have hp : plc32 r ≤ 253 := by unfold plc32; omega
    have hr : mag32 r + plc32 r * 8388608 = r := by unfold mag32 plc32; omega
    unfold rungOf
    rw [if_neg hm]
    have hl : (mag32 r).log2 ≤ 23 := by
      have := (Nat.log2_lt hm).2 (show mag32 r < 2 ^ 24 from hm1)
      omega
    have e : lastOf Ieee.single (mag32 r) (-149 + (plc32 r : Int)) = -149 + (plc32 r : Int) := by
      unfold lastOf
      rw [least32, show (Ieee.single.fractionBits : Int) = 23 from rfl]
      rcases Nat.eq_zero_or_pos (plc32 r) with g | g
      · rw [g]; omega
      · have h2 : 23 ≤ (mag32 r).log2 := (Nat.le_log2 hm).2 (mag_ge32 g)
        omega
    rw [e, least32, binade32, inf32, Int.sub_self]
    have e2 : rz (mag32 r) 0 = mag32 r := by
      have := rz_nat (mag32 r) 0
      rw [Nat.pow_zero, Nat.mul_one] at this
      exact this
    rw [e2, show (-149 + (plc32 r : Int) - -149).toNat = plc32 r by omega, Nat.min_eq_left (by omega)]
    omega
theorem told_self {a : Nat} (ha : a < 4294967296) (h : rung32 a < 2139095040) : Ieee.single.word (sgn32 a) (rungOf Ieee.single (mag32 (rung32 a)) (-149 + (plc32 (rung32 a) : Int))) = a := by
  rw [self32 h, ← word_of32 ha]
theorem told_sinf {a : Nat} (ha : a < 4294967296) (h : rung32 a = 2139095040) : Ieee.single.word (sgn32 a) 2139095040 = a := by
  rw [← h, ← word_of32 ha]
theorem toldD_inf (s : Bool) : toldD (some (.infinity s)) = Ieee.single.word s 2139095040 := by
  show Ieee.single.word s Ieee.single.infRung = _
  rw [inf32]

theorem read_half : Ieee.single.read 1056964608 = .number false 8388608 (-24) := by decide
theorem read_one32 : Ieee.single.read 1065353216 = .number false 8388608 (-23) := by decide
theorem read_two : Ieee.single.read 1073741824 = .number false 8388608 (-22) := by decide
theorem read_minus : Ieee.single.read 2147483648 = .number true 0 (-149) := by decide
theorem read_plus : Ieee.single.read 0 = .number false 0 (-149) := by decide
theorem xor_f (s : Bool) : (s ^^ false) = s := by cases s <;> rfl

/-- Times a power of two. -/
theorem mul_power (s : Bool) (m : Nat) (p q : Int) : toldD ((Ieee.Datum.number s m p).product (.number false 8388608 q)) = Ieee.single.word s (rungOf Ieee.single m (p + q + 23)) := by
  show toldD (some (.number (s ^^ false) (m * 2 ^ 23) (p + q))) = _
  rw [xor_f, toldD_num, rung_scale]; rfl
/-- By a power of two. -/
theorem quo_power (s : Bool) {m : Nat} (hm : m < 16777216) (p q : Int) : toldD ((Ieee.Datum.number s m p).quotient 25 (.number false 8388608 q)) = Ieee.single.word s (rungOf Ieee.single m (p - q - 23)) := by
  have hl2 : (8388608 : Nat).log2 = 23 := by decide
  have hl : m.log2 ≤ 23 := by
    by_cases h0 : m = 0
    · subst h0; decide
    · have := (Nat.log2_lt h0).2 (show m < 2 ^ 24 from hm); omega
  obtain ⟨B, hB⟩ : ∃ B, B = 25 + (8388608 : Nat).log2 - m.log2 := ⟨_, rfl⟩
  have hB1 : 25 ≤ B := by omega
  have em : (Ieee.Datum.number s m p).quotient 25 (.number false 8388608 q) = some (.number (s ^^ false) (2 * ((m <<< B) / 8388608) + ((m <<< B) % 8388608 != 0).toNat) (p - q - (B : Int) - 1)) := by
    rw [hB]; simp [Ieee.Datum.quotient]
  have e1 : m <<< B = m * 2 ^ (B - 23) * 8388608 := by
    rw [Nat.shiftLeft_eq, Nat.mul_assoc, show (8388608 : Nat) = 2 ^ 23 from rfl, ← Nat.pow_add, show B - 23 + 23 = B by omega]
  rw [em, e1, Nat.mul_div_cancel _ (by decide), Nat.mul_mod_left, xor_f, toldD_num]
  refine congrArg (Ieee.single.word s) ?_
  show rungOf Ieee.single (2 * (m * 2 ^ (B - 23)) + 0) _ = _
  have e2 : 2 * (m * 2 ^ (B - 23)) + 0 = m * 2 ^ (B - 22) := by
    rw [show B - 22 = (B - 23) + 1 by omega, Nat.pow_succ, Nat.add_zero, Nat.mul_comm 2, Nat.mul_assoc]
  rw [e2, rung_scale]
  congr 1; omega
theorem cases32 {a : Nat} (h : nanN a = false) : rung32 a < 2139095040 ∨ rung32 a = 2139095040 := by
  rw [nanN_rung] at h
  have h := of_decide_eq_false h
  omega
theorem toldD_none : toldD none = 2143289344 := rfl

theorem half_link (a : Nat) : toldD ((Ieee.single.read a).quotient 25 (Ieee.single.read 1073741824)) = scaleV a (-1) := by
  rw [read_two]
  cases h : nanN a
  · rcases cases32 h with g | g
    · rw [read_fin32 g, quo_power _ (mag_lt32 _)]
      by_cases z : rung32 a = 0
      · rw [scaleV_zero z, z, show mag32 0 = 0 from by decide, rungOf_zero]
      · rw [scaleV_fin z g]
        refine congrArg (Ieee.single.word _) ?_
        congr 1; omega
    · rw [read_inf32 g, scaleV_inf g, show (Ieee.Datum.infinity (sgn32 a)).quotient 25 (.number false 8388608 (-22)) = some (.infinity (sgn32 a ^^ false)) from rfl, toldD_inf, xor_f]
  · obtain ⟨s, t, e⟩ := isNaN_cases (read32_nan h)
    rw [e, scaleV_nan h]; rfl
theorem mulhalf_link (a : Nat) : toldD ((Ieee.single.read a).product (Ieee.single.read 1056964608)) = scaleV a (-1) := by
  rw [read_half]
  cases h : nanN a
  · rcases cases32 h with g | g
    · rw [read_fin32 g, mul_power]
      by_cases z : rung32 a = 0
      · rw [scaleV_zero z, z, show mag32 0 = 0 from by decide, rungOf_zero]
      · rw [scaleV_fin z g]
        refine congrArg (Ieee.single.word _) ?_
        congr 1; omega
    · rw [read_inf32 g, scaleV_inf g, show (Ieee.Datum.infinity (sgn32 a)).product (.number false 8388608 (-24)) = some (.infinity (sgn32 a ^^ false)) from rfl, toldD_inf, xor_f]
  · obtain ⟨s, t, e⟩ := isNaN_cases (read32_nan h)
    rw [e, scaleV_nan h]; rfl
theorem mul_one {a : Nat} (ha : a < 4294967296) : toldD ((Ieee.single.read a).product (Ieee.single.read 1065353216)) = madeN a := by
  rw [read_one32]
  cases h : nanN a
  · rw [madeN_of h]
    rcases cases32 h with g | g
    · rw [read_fin32 g, mul_power, show -149 + (plc32 (rung32 a) : Int) + -23 + 23 = -149 + (plc32 (rung32 a) : Int) by omega, told_self ha g]
    · rw [read_inf32 g, show (Ieee.Datum.infinity (sgn32 a)).product (.number false 8388608 (-23)) = some (.infinity (sgn32 a ^^ false)) from rfl, toldD_inf, xor_f, told_sinf ha g]
  · obtain ⟨s, t, e⟩ := isNaN_cases (read32_nan h)
    rw [e, madeN_nan h]; rfl
theorem div_one {a : Nat} (ha : a < 4294967296) : toldD ((Ieee.single.read a).quotient 25 (Ieee.single.read 1065353216)) = madeN a := by
  rw [read_one32]
  cases h : nanN a
  · rw [madeN_of h]
    rcases cases32 h with g | g
    · rw [read_fin32 g, quo_power _ (mag_lt32 _), show -149 + (plc32 (rung32 a) : Int) - -23 - 23 = -149 + (plc32 (rung32 a) : Int) by omega, told_self ha g]
    · rw [read_inf32 g, show (Ieee.Datum.infinity (sgn32 a)).quotient 25 (.number false 8388608 (-23)) = some (.infinity (sgn32 a ^^ false)) from rfl, toldD_inf, xor_f, told_sinf ha g]
  · obtain ⟨s, t, e⟩ := isNaN_cases (read32_nan h)
    rw [e, madeN_nan h]; rfl
theorem signed_zero (s : Bool) (k : Nat) : Ieee.signed s 0 k = 0 := by unfold Ieee.signed; rw [Nat.shiftLeft_eq, Nat.zero_mul]; cases s <;> rfl
theorem add_minus_fin (s : Bool) (m : Nat) (p : Int) (hp : -1074 ≤ p) : toldD ((Ieee.Datum.number s m p).sum (.number true 0 (-149))) = Ieee.single.word s (rungOf Ieee.single m p) := by
  obtain ⟨N, b, e1, e2⟩ := sum_units s true m 0 p (-149) hp (by decide)
  rw [signed_zero, Int.add_zero] at e1 e2
  rw [e1, toldD_num, e2, signed_abs, rung_scale, show -1074 + (((p + 1074).toNat : Nat) : Int) = p by omega]
  congr 1
  unfold sg
  by_cases h : Ieee.signed s m (p + 1074).toNat = 0
  · rw [if_pos h, Bool.and_true]
  · rw [if_neg h]; exact (signed_sign h).symm
theorem add_nought {a : Nat} (ha : a < 4294967296) : toldD ((Ieee.single.read a).sum (Ieee.single.read 2147483648)) = madeN a := by
  rw [read_minus]
  cases h : nanN a
  · rw [madeN_of h]
    rcases cases32 h with g | g
    · rw [read_fin32 g, add_minus_fin _ _ _ (by omega), told_self ha g]
    · rw [read_inf32 g, show (Ieee.Datum.infinity (sgn32 a)).sum (.number true 0 (-149)) = some (.infinity (sgn32 a)) from rfl, toldD_inf, told_sinf ha g]
  · obtain ⟨s, t, e⟩ := isNaN_cases (read32_nan h)
    rw [e, madeN_nan h]; rfl
theorem sub_nought {a : Nat} (ha : a < 4294967296) : toldD ((Ieee.single.read a).sum (Ieee.single.read 0).opposite) = madeN a := by
  rw [show (Ieee.single.read 0).opposite = Ieee.single.read 2147483648 from by rw [read_plus, read_minus]; rfl, add_nought ha]
theorem nought_sub {a : Nat} (h : nanN a = false) : toldD ((Ieee.single.read 0).sum (Ieee.single.read a).opposite) % 2147483648 = a % 2147483648 := by
  rw [read_plus]
  rcases cases32 h with g | g
  · rw [read_fin32 g]
    obtain ⟨N, b, e1, e2⟩ := sum_units false (!sgn32 a) 0 (mag32 (rung32 a)) (-149) (-149 + (plc32 (rung32 a) : Int)) (by decide) (by omega)
    rw [signed_zero, Int.zero_add] at e1 e2
    show toldD ((Ieee.Datum.number false 0 (-149)).sum (.number (!sgn32 a) (mag32 (rung32 a)) (-149 + (plc32 (rung32 a) : Int)))) % _ = _
    rw [e1, toldD_num, e2, signed_abs, rung_scale, show -1074 + (((-149 + (plc32 (rung32 a) : Int) + 1074).toNat : Nat) : Int) = -149 + (plc32 (rung32 a) : Int) by omega, self32 g]
    exact (sgn_word32 _ (by omega)).2
  · rw [read_inf32 g]
    show toldD (some (.infinity (!sgn32 a))) % _ = _
    rw [toldD_inf]
    have := (sgn_word32 (!sgn32 a) (r := 2139095040) (by decide)).2
    unfold rung32 at this g
    rw [this, g]
theorem narrow_wide {a : Nat} (ha : a < 4294967296) : toldD (some (Ieee.double.read (wideW a))) = madeN a := by
  cases h : nanN a
  · have e0 : wideW a = wideN a := by unfold wideW; rw [h]; rfl
    rw [e0, madeN_of h]
    rcases cases32 h with g | g
    · obtain ⟨r, s, v⟩ := wide_fin g
      have e := val_abs (wideN a)
      rw [v] at e
      unfold sampleZ at e
      rw [signed_abs] at e
      rw [read_fin64 r, toldD_num, rung_word64, ← e, s, rung_scale, show (-1074 : Int) + ((plc32 (rung32 a) + 925 : Nat) : Int) = -149 + (plc32 (rung32 a) : Int) by omega, told_self ha g]
    · rw [wide_read_inf g, toldD_inf, told_sinf ha g]
  · have e0 : wideW a = 9221120237041090560 := by unfold wideW; rw [h]; rfl
    rw [e0, madeN_nan h]; decide +kernel
theorem sum_num_inf (s : Bool) (m : Nat) (p : Int) (t : Bool) : (Ieee.Datum.number s m p).sum (.infinity t) = some (.infinity t) := rfl
theorem fma_one (a b : Nat) : toldD (fmaD a 1065353216 b) = toldD ((Ieee.single.read a).sum (Ieee.single.read b)) := by
  unfold fmaD
  rw [read_one32]
  cases h : nanN a
  · rcases cases32 h with g | g
    · rw [read_fin32 g]
      show toldD ((Ieee.Datum.number (sgn32 a ^^ false) (mag32 (rung32 a) * 8388608) (-149 + (plc32 (rung32 a) : Int) + -23)).sum (Ieee.single.read b)) = _
      rw [xor_f]
      cases hb : nanN b
      · rcases cases32 hb with k | k
        · rw [read_fin32 k]
          obtain ⟨N, c, e1, e2⟩ := sum_units (sgn32 a) (sgn32 b) (mag32 (rung32 a) * 8388608) (mag32 (rung32 b)) (-149 + (plc32 (rung32 a) : Int) + -23) (-149 + (plc32 (rung32 b) : Int)) (by omega) (by omega)
          obtain ⟨N', c', f1, f2⟩ := sum_units (sgn32 a) (sgn32 b) (mag32 (rung32 a)) (mag32 (rung32 b)) (-149 + (plc32 (rung32 a) : Int)) (-149 + (plc32 (rung32 b) : Int)) (by omega) (by omega)
          have ez : Ieee.signed (sgn32 a) (mag32 (rung32 a) * 8388608) (-149 + (plc32 (rung32 a) : Int) + -23 + 1074).toNat = Ieee.signed (sgn32 a) (mag32 (rung32 a)) (-149 + (plc32 (rung32 a) : Int) + 1074).toNat := by
            unfold Ieee.signed
            rw [Nat.shiftLeft_eq, Nat.shiftLeft_eq, Nat.mul_assoc, show (8388608 : Nat) = 2 ^ 23 from rfl, ← Nat.pow_add, show 23 + (-149 + (plc32 (rung32 a) : Int) + -23 + 1074).toNat = (-149 + (plc32 (rung32 a) : Int) + 1074).toNat by omega]
          rw [ez] at e1 e2
          rw [e1, f1, toldD_num, toldD_num, e2, f2]
        · rw [read_inf32 k, sum_num_inf, sum_num_inf]
      · rw [sum_nan2 (read32_nan hb), sum_nan2 (read32_nan hb)]
    · rw [read_inf32 g]
      show toldD ((Ieee.Datum.infinity (sgn32 a ^^ false)).sum (Ieee.single.read b)) = _
      rw [xor_f]
  · rw [product_nan1 (read32_nan h), sum_nan1 (read32_nan h)]; rfl
theorem fma_nought {a b : Nat} (hp : toldD ((Ieee.single.read a).product (Ieee.single.read b)) % 2147483648 ≠ 0) : toldD (fmaD a b 2147483648) = toldD ((Ieee.single.read a).product (Ieee.single.read b)) := by
  unfold fmaD
  rw [read_minus]
  cases hd : (Ieee.single.read a).product (Ieee.single.read b) with
  | none => rfl
  | some d =>
    rw [hd] at hp
    show toldD (d.sum (.number true 0 (-149))) = _
    cases d with
    | nan s t => exact absurd (product_num hd) (by simp [Ieee.Datum.isNaN])
    | infinity s => rfl
    | number s m p =>
      have hpl : -1074 ≤ p := by
        cases ha : nanN a
        · cases hb : nanN b
          · rcases cases32 ha with g | g
            · rcases cases32 hb with k | k
              · rw [read_fin32 g, read_fin32 k] at hd
                have hd : some (Ieee.Datum.number (sgn32 a ^^ sgn32 b) (mag32 (rung32 a) * mag32 (rung32 b)) (-149 + (plc32 (rung32 a) : Int) + (-149 + (plc32 (rung32 b) : Int)))) = some (.number s m p) := hd
                injection hd with hd
                injection hd with h1 h2 h3
                omega
              · rw [read_fin32 g, read_inf32 k] at hd
                have hd : (if mag32 (rung32 a) = 0 then none else some (Ieee.Datum.infinity (sgn32 b ^^ sgn32 a))) = some (.number s m p) := hd
                split at hd
                · cases hd
                · injection hd with hd; cases hd
            · rcases cases32 hb with k | k
              · rw [read_inf32 g, read_fin32 k] at hd
                have hd : (if mag32 (rung32 b) = 0 then none else some (Ieee.Datum.infinity (sgn32 a ^^ sgn32 b))) = some (.number s m p) := hd
                split at hd
                · cases hd
                · injection hd with hd; cases hd
              · rw [read_inf32 g, read_inf32 k] at hd
                have hd : some (Ieee.Datum.infinity (sgn32 a ^^ sgn32 b)) = some (.number s m p) := hd
                injection hd with hd; cases hd
          · rw [product_nan2 (read32_nan hb)] at hd; cases hd
        · rw [product_nan1 (read32_nan ha)] at hd; cases hd
      rw [add_minus_fin _ _ _ hpl, toldD_num]
end Go.Proofs.YtieojgblamkgoaaGreatDoor
/- Plain facts: a quotient with its rest told by one bit. -/
namespace Go.Proofs.YtieojgblamkgoaaGreatDoor
open Go.RowKit

/-- A quotient's digits, and one more that tells of a rest. -/
def sqV (m n A : Nat) : Nat := 2 * (m * 2 ^ A / n) + if m * 2 ^ A % n = 0 then 0 else 1
theorem sq_stick {m n B k : Nat} (hn : 0 < n) : stick (sqV m n (B + k)) (k + 1) = sqV m n B := by
  have hk := Nat.two_pow_pos k
  have e0 : m * 2 ^ (B + k) = m * 2 ^ B * 2 ^ k := by rw [Nat.pow_add, Nat.mul_assoc]
  -- the great quotient, cut, is the small one
  have e1 : m * 2 ^ (B + k) / n / 2 ^ k = m * 2 ^ B / n := by
    rw [Nat.div_div_eq_div_mul, e0, Nat.mul_div_mul_right _ _ hk]
  have d1 := Nat.div_add_mod (m * 2 ^ (B + k)) n
  have d2 := Nat.div_add_mod (m * 2 ^ B) n
  have d3 := Nat.div_add_mod (m * 2 ^ (B + k) / n) (2 ^ k)
  have r1 := Nat.mod_lt (m * 2 ^ (B + k)) hn
  have r2 := Nat.mod_lt (m * 2 ^ B) hn
  rw [e1] at d3
  obtain ⟨q, hq⟩ : ∃ q, q = m * 2 ^ B / n := ⟨_, rfl⟩
  obtain ⟨Q', hQ⟩ : ∃ Q', Q' = m * 2 ^ (B + k) / n := ⟨_, rfl⟩
  obtain ⟨r, hr⟩ : ∃ r, r = m * 2 ^ B % n := ⟨_, rfl⟩
  obtain ⟨R, hR⟩ : ∃ R, R = m * 2 ^ (B + k) % n := ⟨_, rfl⟩
  obtain ⟨t, ht⟩ : ∃ t, t = Q' % 2 ^ k := ⟨_, rfl⟩
  unfold stick sqV
  rw [← hQ, ← hR, ← hq, ← hr]
  rw [← hQ, ← hq, ← ht] at d3
  rw [← hQ, ← hR] at d1
  rw [← hq, ← hr] at d2
  have htk : t < 2 ^ k := by rw [ht]; exact Nat.mod_lt _ hk
  -- r * 2^k = n * t + R
  have key : r * 2 ^ k = n * t + R := by
    have a1 : n * Q' + R = (n * q + r) * 2 ^ k := by rw [d1, d2, e0]
    rw [← d3] at a1
    rw [Nat.mul_add, Nat.add_mul] at a1
    have a2 : n * (2 ^ k * q) = n * q * 2 ^ k := by rw [Nat.mul_comm (2 ^ k) q, Nat.mul_assoc]
    omega
  have hzero : r = 0 ↔ t = 0 ∧ R = 0 := by
    constructor
    · intro h
      rw [h, Nat.zero_mul] at key
      have k1 : n * t = 0 := by omega
      rcases Nat.mul_eq_zero.1 k1 with h' | h'
      · omega
      · exact ⟨h', by omega⟩
    · rintro ⟨h1, h2⟩
      rw [h1, h2, Nat.mul_zero] at key
      rcases Nat.mul_eq_zero.1 key with h' | h'
      · exact h'
      · omega
  have ep : 2 ^ (k + 1) = 2 * 2 ^ k := by rw [Nat.pow_succ]; omega
  obtain ⟨b, hb⟩ : ∃ b, b = if R = 0 then 0 else 1 := ⟨_, rfl⟩
  have hb2 : b < 2 := by rw [hb]; split <;> omega
  rw [← hb]
  have f1 : (2 * Q' + b) / 2 ^ (k + 1) = q := by
    rw [ep, ← Nat.div_div_eq_div_mul, show (2 * Q' + b) / 2 = Q' by omega, hQ, e1, hq]
  have f2 : (2 * Q' + b) % 2 ^ (k + 1) = 2 * t + b := by
    have g := Nat.div_add_mod (2 * Q' + b) (2 ^ (k + 1))
    rw [f1, ep] at g
    rw [ep]
    have g2 : 2 * 2 ^ k * q = 2 * (2 ^ k * q) := Nat.mul_assoc _ _ _
    omega
  rw [f1, f2]
  have hbR : b = 0 ↔ R = 0 := by rw [hb]; split <;> omega
  by_cases h : r = 0
  · obtain ⟨h1, h2⟩ := hzero.1 h
    rw [if_pos h, if_pos (by have := hbR.2 h2; omega)]
  · rw [if_neg h, if_neg]
    intro h'
    exact h (hzero.2 ⟨by omega, hbR.1 (by omega)⟩)
theorem sq_link (f : Ieee.Format) {m n A B : Nat} (x : Int) (hn : 0 < n) (hA : B ≤ A) (hq : 2 ^ (f.fractionBits + 1) ≤ m * 2 ^ B / n) :
    rungOf f (sqV m n A) (x - A - 1) = rungOf f (sqV m n B) (x - B - 1) := by
  obtain ⟨k, rfl⟩ : ∃ k, A = B + k := ⟨A - B, by omega⟩
  have e1 : m * 2 ^ (B + k) / n / 2 ^ k = m * 2 ^ B / n := by
    rw [Nat.div_div_eq_div_mul, Nat.pow_add, ← Nat.mul_assoc, Nat.mul_div_mul_right _ _ (Nat.two_pow_pos k)]
  have h1 : 2 ^ (f.fractionBits + 1 + k) ≤ m * 2 ^ (B + k) / n := by
    rw [Nat.pow_add]
    rw [← e1] at hq
    exact (Nat.le_div_iff_mul_le (Nat.two_pow_pos k)).1 hq
  have h2 : 2 ^ (f.fractionBits + 2 + k) ≤ sqV m n (B + k) := by
    unfold sqV
    rw [show f.fractionBits + 2 + k = f.fractionBits + 1 + k + 1 by omega, Nat.pow_succ]
    omega
  have hM : sqV m n (B + k) ≠ 0 := by have := Nat.two_pow_pos (f.fractionBits + 2 + k); omega
  have hlog : f.fractionBits + 2 + k ≤ (sqV m n (B + k)).log2 := (Nat.le_log2 hM).2 h2
  have := rung_stick f (M := sqV m n (B + k)) (k := k + 1) (x - (B + k : Nat) - 1) (by omega) hM (by unfold lastOf; omega)
  rw [sq_stick hn] at this
  rw [← this]
  congr 1; omega
theorem quo_digits {m n : Nat} (hm : m ≠ 0) (hn : n ≠ 0) {d : Nat} (h0 : 0 < d) : 2 ^ (d - 1) ≤ m * 2 ^ (d + n.log2 - m.log2) / n := by
  rw [Nat.le_div_iff_mul_le (by omega)]
  have h1 := Nat.log2_self_le hm
  have h2 : n < 2 ^ (n.log2 + 1) := Nat.lt_log2_self
  have a1 : 2 ^ (d - 1) * n < 2 ^ (d - 1) * 2 ^ (n.log2 + 1) := Nat.mul_lt_mul_of_pos_left h2 (Nat.two_pow_pos _)
  rw [← Nat.pow_add, show d - 1 + (n.log2 + 1) = d + n.log2 by omega] at a1
  have a2 : 2 ^ m.log2 * 2 ^ (d + n.log2 - m.log2) ≤ m * 2 ^ (d + n.log2 - m.log2) := Nat.mul_le_mul_right _ h1
  rw [← Nat.pow_add] at a2
  have a3 : 2 ^ (d + n.log2) ≤ 2 ^ (m.log2 + (d + n.log2 - m.log2)) := Nat.pow_le_pow_right (by decide) (by omega)
  omega
theorem sq_not (m n A : Nat) : 2 * (m * 2 ^ A / n) + (!decide (m * 2 ^ A % n = 0)).toNat = sqV m n A := by
  unfold sqV
  by_cases h : m * 2 ^ A % n = 0
  · rw [decide_eq_true h, if_pos h]; rfl
  · rw [decide_eq_false h, if_neg h]; rfl
theorem sq_model (m n A : Nat) : 2 * ((m <<< A) / n) + ((m <<< A) % n != 0).toNat = sqV m n A := by
  unfold sqV
  rw [Nat.shiftLeft_eq]
  by_cases h : m * 2 ^ A % n = 0
  · rw [if_pos h, h]; rfl
  · rw [if_neg h, bne_iff_ne.2 h]; rfl
end Go.Proofs.YtieojgblamkgoaaGreatDoor

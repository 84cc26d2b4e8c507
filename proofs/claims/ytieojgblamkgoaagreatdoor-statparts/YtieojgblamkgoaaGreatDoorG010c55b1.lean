/- Plain facts: numbers of binary64 in its least units: rounding, what it keeps, sums and differences; what is lost of a sum is told exactly. -/
import Derived.Test.YtieojgblamkgoaaGreatDoorGc55c58d4
import Derived.Test.YtieojgblamkgoaaGreatDoorGde10ca7a
namespace Go.Proofs.YtieojgblamkgoaaGreatDoor
open Go.RowKit

/-- How many digits a number in least units loses. -/
def lostK (M : Nat) : Nat := M.log2 - 52
theorem kept_bd {M : Nat} : rne M (lostK M) ≤ 9007199254740992 ∧ (0 < lostK M → 4503599627370496 ≤ rne M (lostK M)) := by
  have e1 : lastOf Ieee.double M (-1074) = -1074 + (lostK M : Int) := by unfold lastOf lostK; rw [least64, frac64]; omega
  have e3 : (-1074 : Int) - (-1074 + (lostK M : Int)) = -(lostK M : Int) := by omega
  have hk := kept_le Ieee.double M (-1074)
  rw [e1, e3, rz_neg, binade64] at hk
  refine ⟨hk, fun h => ?_⟩
  have hM : M ≠ 0 := by intro h0; subst h0; exact absurd h (by decide)
  have := le_kept Ieee.double hM (-1074) (by rw [e1, frac64]; unfold lostK at *; omega)
  rw [e1, e3, rz_neg, binade64] at this
  exact this
theorem rung64_eq {M : Nat} (hM : M.log2 ≤ 2000) : rungOf Ieee.double M (-1074) = lostK M * 4503599627370496 + rne M (lostK M) := by
  by_cases h : M = 0
  · subst h
    rw [rungOf_zero, show lostK 0 = 0 from by decide, rne_zero]
  · unfold rungOf
    rw [if_neg h]
    have e1 : lastOf Ieee.double M (-1074) = -1074 + (lostK M : Int) := by unfold lastOf lostK; rw [least64, frac64]; omega
    have e2 : (-1074 + (lostK M : Int) - -1074).toNat = lostK M := by omega
    have e3 : (-1074 : Int) - (-1074 + (lostK M : Int)) = -(lostK M : Int) := by omega
    rw [e1, least64, binade64, inf64, e2, e3, rz_neg]
    have hk := (kept_bd (M := M)).1
    have hl : lostK M ≤ 1948 := by unfold lostK; omega
    rw [Nat.min_eq_left (by omega)]
theorem val_of {K c : Nat} (h : c ≤ 9007199254740992) (h' : 0 < K → 4503599627370496 ≤ c) : val64 (K * 4503599627370496 + c) = c * 2 ^ K := by
  unfold val64 mag64
  rcases Nat.lt_or_ge c 9007199254740992 with g | g
  · rcases Nat.lt_or_ge c 4503599627370496 with k | k
    · have hK : K = 0 := by omega
      subst hK
      have e : plc64 (0 * 4503599627370496 + c) = 0 := by unfold plc64; omega
      rw [e]; congr 1; omega
    · have e : plc64 (K * 4503599627370496 + c) = K := by unfold plc64; omega
      rw [e]; congr 1; omega
  · have e : plc64 (K * 4503599627370496 + c) = K + 1 := by unfold plc64; omega
    rw [e, Nat.pow_succ]
    have e2 : K * 4503599627370496 + c - (K + 1) * 4503599627370496 = 4503599627370496 := by omega
    have e3 : c = 4503599627370496 * 2 := by omega
    rw [e2, e3, Nat.mul_assoc, Nat.mul_comm (2 ^ K) 2]
theorem vN_eq {M : Nat} (hM : M.log2 ≤ 2000) : val64 (rungOf Ieee.double M (-1074)) = rne M (lostK M) * 2 ^ lostK M := by
  rw [rung64_eq hM, val_of kept_bd.1 kept_bd.2]
theorem vN_div {M : Nat} (hM : M.log2 ≤ 2000) (h : 2 ^ lostK M ∣ M) : val64 (rungOf Ieee.double M (-1074)) = M := by
  rw [vN_eq hM]
  obtain ⟨o, ho⟩ := h
  have : rne M (lostK M) = o := by
    have e := rne_exact o (lostK M)
    rw [Nat.mul_comm, ← ho] at e
    exact e
  rw [this, Nat.mul_comm, ← ho]
theorem vN_exact {M g : Nat} (hM : M.log2 ≤ 2000) (hd : 2 ^ g ∣ M) (hb : M < 2 ^ (53 + g)) : val64 (rungOf Ieee.double M (-1074)) = M := by
  by_cases h0 : M = 0
  · subst h0; rw [rungOf_zero]; exact val_zero64
  · refine vN_div hM ?_
    have hl := (Nat.log2_lt h0).2 hb
    exact Nat.dvd_trans (Nat.pow_dvd_pow 2 (by unfold lostK; omega)) hd
theorem vN_dvd {M g : Nat} (hM : M.log2 ≤ 2000) (hd : 2 ^ g ∣ M) : 2 ^ g ∣ val64 (rungOf Ieee.double M (-1074)) := by
  rcases Nat.le_total g (lostK M) with h | h
  · rw [vN_eq hM]
    exact Nat.dvd_trans (Nat.pow_dvd_pow 2 h) (Nat.dvd_mul_left _ _)
  · rw [vN_div hM (Nat.dvd_trans (Nat.pow_dvd_pow 2 h) hd)]
    exact hd
/-- Of all multiples the rounded one is the nearest. -/
theorem rne_best (M K j : Nat) : ((rne M K * 2 ^ K : Nat) - (M : Int)).natAbs ≤ ((j * 2 ^ K : Nat) - (M : Int)).natAbs := by
  obtain ⟨a1, a2⟩ := rne_near M K
  rcases Nat.lt_trichotomy j (rne M K) with h | h | h
  · have : (j + 1) * 2 ^ K ≤ rne M K * 2 ^ K := Nat.mul_le_mul_right _ h
    rw [Nat.add_mul, Nat.one_mul] at this
    omega
  · rw [h]; exact Nat.le_refl _
  · have : (rne M K + 1) * 2 ^ K ≤ j * 2 ^ K := Nat.mul_le_mul_right _ h
    rw [Nat.add_mul, Nat.one_mul] at this
    omega
theorem vN_best {M : Nat} (hM : M.log2 ≤ 2000) (r : Nat) : ((val64 (rungOf Ieee.double M (-1074)) : Int) - (M : Int)).natAbs ≤ ((val64 r : Int) - (M : Int)).natAbs := by
  rw [vN_eq hM]
  rcases Nat.lt_or_ge (plc64 r) (lostK M) with h | h
  · -- it lies below the least multiple that is not above
    have hm : 2 ^ (52 + lostK M) ≤ M := by
      have h0 : M ≠ 0 := by intro h0; subst h0; exact absurd h (by rw [show lostK 0 = 0 from by decide]; omega)
      exact Nat.le_trans (Nat.pow_le_pow_right (by decide) (by unfold lostK; unfold lostK at h; omega)) (Nat.log2_self_le h0)
    have hv : val64 r < 2 ^ (52 + lostK M) := by
      unfold val64
      have a1 : mag64 r * 2 ^ plc64 r < 2 ^ 53 * 2 ^ plc64 r := Nat.mul_lt_mul_of_pos_right (mag_lt64 r) (Nat.two_pow_pos _)
      rw [← Nat.pow_add] at a1
      exact Nat.lt_of_lt_of_le a1 (Nat.pow_le_pow_right (by decide) (by omega))
    have hb := rne_best M (lostK M) (2 ^ 52)
    rw [← Nat.pow_add] at hb
    omega
  · have e : val64 r = mag64 r * 2 ^ (plc64 r - lostK M) * 2 ^ lostK M := by
      unfold val64
      rw [Nat.mul_assoc, ← Nat.pow_add, show plc64 r - lostK M + lostK M = plc64 r by omega]
    rw [e]
    exact rne_best M (lostK M) _

/-- A whole number of least units, rounded to binary64. -/
def RN (Z : Int) : Int := if Z < 0 then -(val64 (rungOf Ieee.double Z.natAbs (-1074)) : Int) else (val64 (rungOf Ieee.double Z.natAbs (-1074)) : Int)
theorem RN_abs (Z : Int) : (RN Z).natAbs = val64 (rungOf Ieee.double Z.natAbs (-1074)) := by unfold RN; split <;> omega
theorem RN_exact {Z : Int} {g : Nat} (hs : Z.natAbs.log2 ≤ 2000) (hd : ((2 ^ g : Nat) : Int) ∣ Z) (hb : Z.natAbs < 2 ^ (53 + g)) : RN Z = Z := by
  unfold RN
  rw [vN_exact hs (Int.ofNat_dvd_left.1 hd) hb]
  split <;> omega
theorem RN_dvd {Z : Int} {g : Nat} (hs : Z.natAbs.log2 ≤ 2000) (hd : ((2 ^ g : Nat) : Int) ∣ Z) : ((2 ^ g : Nat) : Int) ∣ RN Z := by
  rw [Int.ofNat_dvd_left, RN_abs]
  exact vN_dvd hs (Int.ofNat_dvd_left.1 hd)
theorem RN_zero : RN 0 = 0 := by
  unfold RN
  rw [show (0 : Int).natAbs = 0 from rfl, rungOf_zero, val_zero64]; rfl
theorem RN_best {Z : Int} (hs : Z.natAbs.log2 ≤ 2000) (v : Nat) : (RN Z - Z).natAbs ≤ (sval64 v - Z).natAbs := by
  have h1 := vN_best hs (rung64 v)
  have h0 := vN_best hs 0
  rw [val_zero64] at h0
  unfold RN sval64
  generalize val64 (rungOf Ieee.double Z.natAbs (-1074)) = V at h0 h1
  generalize val64 (rung64 v) = W at h1
  split <;> split <;> omega
theorem RN_self {v : Nat} (hs : (sval64 v).natAbs.log2 ≤ 2000) : RN (sval64 v) = sval64 v := by
  have := RN_best hs v
  rw [Int.sub_self] at this
  omega
theorem RN_le {Z : Int} (hs : Z.natAbs.log2 ≤ 2000) : (RN Z).natAbs ≤ 2 * Z.natAbs := by
  have h := RN_best hs 0
  have e : sval64 0 = 0 := by decide
  rw [e] at h
  omega

/-- The word of a sign and a number of least units. -/
def wordOf (σ : Bool) (Z : Int) : Nat := Ieee.double.word σ (rungOf Ieee.double Z.natAbs (-1074))
theorem wordOf_facts {σ : Bool} {Z : Int} (hs : Z.natAbs.log2 ≤ 2000) (hσ : Z ≠ 0 → σ = decide (Z < 0)) :
    rung64 (wordOf σ Z) = rungOf Ieee.double Z.natAbs (-1074) ∧ sgn64 (wordOf σ Z) = σ ∧ rung64 (wordOf σ Z) < 9218868437227405312 ∧ sval64 (wordOf σ Z) = RN Z := by
  have hr : rungOf Ieee.double Z.natAbs (-1074) < 9218868437227405312 := by
    rw [rung64_eq hs]
    have := (kept_bd (M := Z.natAbs)).1
    have : lostK Z.natAbs ≤ 1948 := by unfold lostK; omega
    omega
  obtain ⟨a, b⟩ := sgn_word64 σ (r := rungOf Ieee.double Z.natAbs (-1074)) (by omega)
  refine ⟨b, a, by unfold wordOf; rw [b]; exact hr, ?_⟩
  unfold sval64 wordOf RN
  rw [a, b]
  by_cases h : Z = 0
  · subst h
    rw [show (0 : Int).natAbs = 0 from rfl, rungOf_zero, val_zero64]
    cases σ <;> rfl
  · rw [hσ h]
    by_cases k : Z < 0
    · rw [decide_eq_true k, if_pos rfl, if_pos k]
    · rw [decide_eq_false k, if_neg (by decide), if_neg k]

/-- The sign of a sum. -/
def sg (s t : Bool) (Z : Int) : Bool := if Z = 0 then s && t else decide (Z < 0)
theorem sg_of {s t : Bool} {Z : Int} (h : Z ≠ 0) : sg s t Z = decide (Z < 0) := by unfold sg; rw [if_neg h]
/-- An exact sum, in least units. -/
theorem sum_units (s t : Bool) (m n : Nat) (i j : Int) (hi : -1074 ≤ i) (hj : -1074 ≤ j) :
    ∃ N b, (Ieee.Datum.number s m i).sum (.number t n j) = some (.number (sg s t (Ieee.signed s m (i + 1074).toNat + Ieee.signed t n (j + 1074).toNat)) N b) ∧
      ∀ f, rungOf f N b = rungOf f (Ieee.signed s m (i + 1074).toNat + Ieee.signed t n (j + 1074).toNat).natAbs (-1074) := by
  obtain ⟨k, hk⟩ : ∃ k : Nat, min i j = -1074 + (k : Int) := ⟨(min i j + 1074).toNat, by omega⟩
  obtain ⟨Y, hY⟩ : ∃ Y, Y = Ieee.signed s m (i - min i j).toNat + Ieee.signed t n (j - min i j).toNat := ⟨_, rfl⟩
  have e : Ieee.signed s m (i + 1074).toNat + Ieee.signed t n (j + 1074).toNat = Y * 2 ^ k := by
    rw [hY, Int.add_mul, signed_shift, signed_shift, show (i - min i j).toNat + k = (i + 1074).toNat by omega, show (j - min i j).toNat + k = (j + 1074).toNat by omega]
    unfold Ieee.signed
    rw [Nat.shiftLeft_eq, Nat.shiftLeft_eq, Nat.shiftLeft_zero, Nat.shiftLeft_zero]
  have hp : (0 : Int) < 2 ^ k := Int.pow_pos (by decide)
  have hz : (Y * 2 ^ k = 0) ↔ Y = 0 := by
    constructor
    · intro h; rcases Int.mul_eq_zero.1 h with h | h
      · exact h
      · omega
    · intro h; rw [h, Int.zero_mul]
  have hl : (Y * 2 ^ k < 0) ↔ Y < 0 := by
    constructor
    · intro h
      rcases Int.lt_or_le Y 0 with g | g
      · exact g
      · have := Int.mul_nonneg g (Int.le_of_lt hp); omega
    · intro h; exact Int.mul_neg_of_neg_of_pos h hp
  refine ⟨Y.natAbs, min i j, ?_, ?_⟩
  · rw [e]
    show some (Ieee.Datum.number (if Ieee.signed s m (i - min i j).toNat + Ieee.signed t n (j - min i j).toNat = 0 then s && t else decide (Ieee.signed s m (i - min i j).toNat + Ieee.signed t n (j - min i j).toNat < 0)) (Ieee.signed s m (i - min i j).toNat + Ieee.signed t n (j - min i j).toNat).natAbs (min i j)) = _
    rw [← hY]
    unfold sg
    simp only [hz, hl]
  · intro f
    rw [e, rung_down f Y.natAbs k, show min i j - (k : Int) = -1074 by omega]
    congr 1
    rw [Int.natAbs_mul, Int.natAbs_pow]; rfl
theorem signed_read (x : Nat) : Ieee.signed (sgn64 x) (mag64 (rung64 x)) (-1074 + (plc64 (rung64 x) : Int) + 1074).toNat = sval64 x := by
  rw [show (-1074 + (plc64 (rung64 x) : Int) + 1074).toNat = plc64 (rung64 x) by omega]
  unfold Ieee.signed sval64 val64
  rw [Nat.shiftLeft_eq]
theorem signed_neg (s : Bool) (m k : Nat) : Ieee.signed (!s) m k = -Ieee.signed s m k := by
  unfold Ieee.signed; cases s <;> simp
theorem add_fin {x y : Nat} (hx : rung64 x < 9218868437227405312) (hy : rung64 y < 9218868437227405312) :
    floatBits .add .f64 x y = some (wordOf (sg (sgn64 x) (sgn64 y) (sval64 x + sval64 y)) (sval64 x + sval64 y)) := by
  show ((Ieee.double.read x).sum (Ieee.double.read y)).map Ieee.double.write = _
  rw [read_fin64 hx, read_fin64 hy]
  obtain ⟨N, b, e1, e2⟩ := sum_units (sgn64 x) (sgn64 y) (mag64 (rung64 x)) (mag64 (rung64 y)) (-1074 + (plc64 (rung64 x) : Int)) (-1074 + (plc64 (rung64 y) : Int)) (by omega) (by omega)
  rw [e1]
  show some (Ieee.double.nearest _ N b) = _
  rw [nearest_rung, e2, signed_read, signed_read]; rfl
theorem sub_fin {x y : Nat} (hx : rung64 x < 9218868437227405312) (hy : rung64 y < 9218868437227405312) :
    floatBits .sub .f64 x y = some (wordOf (sg (sgn64 x) (!sgn64 y) (sval64 x - sval64 y)) (sval64 x - sval64 y)) := by
  show ((Ieee.double.read x).sum (Ieee.double.read y).opposite).map Ieee.double.write = _
  rw [read_fin64 hx, read_fin64 hy]
  obtain ⟨N, b, e1, e2⟩ := sum_units (sgn64 x) (!sgn64 y) (mag64 (rung64 x)) (mag64 (rung64 y)) (-1074 + (plc64 (rung64 x) : Int)) (-1074 + (plc64 (rung64 y) : Int)) (by omega) (by omega)
  show ((Ieee.Datum.number (sgn64 x) (mag64 (rung64 x)) (-1074 + (plc64 (rung64 x) : Int))).sum (.number (!sgn64 y) (mag64 (rung64 y)) (-1074 + (plc64 (rung64 y) : Int)))).map Ieee.double.write = _
  rw [e1]
  show some (Ieee.double.nearest _ N b) = _
  rw [nearest_rung, e2, signed_neg, signed_read, signed_read, ← Int.sub_eq_add_neg]; rfl
end Go.Proofs.YtieojgblamkgoaaGreatDoor
/- Plain facts: what is lost of a sum in binary64 is told exactly by five steps; the sum made odd, made narrow, is the exact sum rounded once. -/
namespace Go.Proofs.YtieojgblamkgoaaGreatDoor
open Go.RowKit

/-- A size that no sum here comes to. -/
def capJ : Nat := 1990
theorem cap_log {n : Nat} (h : n < 1024 * 2 ^ capJ) : n.log2 ≤ 2000 := by
  by_cases h0 : n = 0
  · subst h0; decide
  · have e : 1024 * 2 ^ capJ = 2 ^ (10 + capJ) := by rw [Nat.pow_add]
    rw [e] at h
    have := (Nat.log2_lt h0).2 h
    unfold capJ at this
    omega
/-- The size. -/
def ab (z : Int) : Nat := z.natAbs
theorem ab_add (a b : Int) : ab (a + b) ≤ ab a + ab b := by unfold ab; omega
theorem ab_sub (a b : Int) : ab (a - b) ≤ ab a + ab b := by unfold ab; omega
theorem ab_neg {a b : Int} (h : a = -b) : ab a = ab b := by unfold ab; omega
theorem sub_step {B x y : Nat} (hB : ∀ n, n < 1024 * B → n.log2 ≤ 2000) (hx : rung64 x < 9218868437227405312) (hy : rung64 y < 9218868437227405312) (hs : ab (sval64 x - sval64 y) < 1024 * B) :
    ∃ r, floatBits .sub .f64 x y = some r ∧ sval64 r = RN (sval64 x - sval64 y) ∧ rung64 r < 9218868437227405312 ∧ ab (sval64 r) ≤ 2 * ab (sval64 x - sval64 y) := by
  obtain ⟨a, b, c, d⟩ := wordOf_facts (σ := sg (sgn64 x) (!sgn64 y) (sval64 x - sval64 y)) (hB _ hs) sg_of
  exact ⟨_, sub_fin hx hy, d, c, by rw [d]; exact RN_le (hB _ hs)⟩
theorem add_step {B x y : Nat} (hB : ∀ n, n < 1024 * B → n.log2 ≤ 2000) (hx : rung64 x < 9218868437227405312) (hy : rung64 y < 9218868437227405312) (hs : ab (sval64 x + sval64 y) < 1024 * B) :
    ∃ r, floatBits .add .f64 x y = some r ∧ sval64 r = RN (sval64 x + sval64 y) ∧ rung64 r < 9218868437227405312 ∧ ab (sval64 r) ≤ 2 * ab (sval64 x + sval64 y) := by
  obtain ⟨a, b, c, d⟩ := wordOf_facts (σ := sg (sgn64 x) (sgn64 y) (sval64 x + sval64 y)) (hB _ hs) sg_of
  exact ⟨_, add_fin hx hy, d, c, by rw [d]; exact RN_le (hB _ hs)⟩

/-- The five steps. -/
theorem lost_words {B x y s g : Nat} (hB : ∀ n, n < 1024 * B → n.log2 ≤ 2000) (hx : rung64 x < 9218868437227405312) (hy : rung64 y < 9218868437227405312) (hs : rung64 s < 9218868437227405312)
    (bx : ab (sval64 x) < B) (by' : ab (sval64 y) < B) (dx : ((2 ^ g : Nat) : Int) ∣ sval64 x) (dy : ((2 ^ g : Nat) : Int) ∣ sval64 y)
    (hg : ab (sval64 x) < 2 ^ (48 + g) ∨ ab (sval64 y) < 2 ^ (48 + g)) (hS : sval64 s = RN (sval64 x + sval64 y)) :
    ∃ p q t u l, floatBits .sub .f64 s x = some p ∧ floatBits .sub .f64 s p = some q ∧ floatBits .sub .f64 x q = some t ∧ floatBits .sub .f64 y p = some u ∧ floatBits .add .f64 t u = some l ∧
      sval64 l = sval64 x + sval64 y - sval64 s ∧ rung64 l < 9218868437227405312 := by
  have z1 := ab_add (sval64 x) (sval64 y)
  have hZ : (sval64 x + sval64 y).natAbs.log2 ≤ 2000 := hB _ (show ab (sval64 x + sval64 y) < 1024 * B by omega)
  have b1 : ab (sval64 s - (sval64 x + sval64 y)) ≤ ab (sval64 y) := by
    have h : ab (RN (sval64 x + sval64 y) - (sval64 x + sval64 y)) ≤ ab (sval64 x - (sval64 x + sval64 y)) := RN_best hZ x
    rw [← hS, ab_neg (show sval64 x - (sval64 x + sval64 y) = -sval64 y by omega)] at h
    exact h
  have b2 : ab (sval64 s - (sval64 x + sval64 y)) ≤ ab (sval64 x) := by
    have h : ab (RN (sval64 x + sval64 y) - (sval64 x + sval64 y)) ≤ ab (sval64 y - (sval64 x + sval64 y)) := RN_best hZ y
    rw [← hS, ab_neg (show sval64 y - (sval64 x + sval64 y) = -sval64 x by omega)] at h
    exact h
  have b3 : ab (sval64 s) ≤ 2 * ab (sval64 x + sval64 y) := by rw [hS]; exact RN_le hZ
  have ds : ((2 ^ g : Nat) : Int) ∣ sval64 s := by rw [hS]; exact RN_dvd hZ (Int.dvd_add dx dy)
  have e53 : 2 ^ (53 + g) = 32 * 2 ^ (48 + g) := by rw [show 53 + g = 5 + (48 + g) by omega, Nat.pow_add]
  have z2 := ab_sub (sval64 s) (sval64 x)
  obtain ⟨p, fp, vp, rp, bp⟩ := sub_step hB hs hx (by omega)
  have hP : (sval64 s - sval64 x).natAbs.log2 ≤ 2000 := hB _ (show ab (sval64 s - sval64 x) < 1024 * B by omega)
  have dP := Int.dvd_sub ds dx
  have dp : ((2 ^ g : Nat) : Int) ∣ sval64 p := by rw [vp]; exact RN_dvd hP dP
  have z3 := ab_sub (sval64 s) (sval64 p)
  obtain ⟨q, fq, vq, rq, bq⟩ := sub_step hB hs rp (by omega)
  have hQ : (sval64 s - sval64 p).natAbs.log2 ≤ 2000 := hB _ (show ab (sval64 s - sval64 p) < 1024 * B by omega)
  have z4 := ab_sub (sval64 x) (sval64 q)
  have z5 := ab_sub (sval64 y) (sval64 p)
  obtain ⟨t, ft, vt, rt, bt⟩ := sub_step hB hx rq (by omega)
  obtain ⟨u, fu, vu, ru, bu⟩ := sub_step hB hy rp (by omega)
  have hT : (sval64 x - sval64 q).natAbs.log2 ≤ 2000 := hB _ (show ab (sval64 x - sval64 q) < 1024 * B by omega)
  have hU : (sval64 y - sval64 p).natAbs.log2 ≤ 2000 := hB _ (show ab (sval64 y - sval64 p) < 1024 * B by omega)
  have z6 := ab_add (sval64 t) (sval64 u)
  obtain ⟨l, fl, vl, rl, bl⟩ := add_step hB rt ru (by omega)
  have hL : (sval64 t + sval64 u).natAbs.log2 ≤ 2000 := hB _ (show ab (sval64 t + sval64 u) < 1024 * B by omega)
  refine ⟨p, q, t, u, l, fp, fq, ft, fu, fl, ?_, rl⟩
  rcases hg with hg | hg
  · -- the first one is small
    have b4 : ab (sval64 p - (sval64 s - sval64 x)) ≤ ab (sval64 x) := by
      have h : ab (RN (sval64 s - sval64 x) - (sval64 s - sval64 x)) ≤ ab (sval64 y - (sval64 s - sval64 x)) := RN_best hP y
      rw [← vp, ab_neg (show sval64 y - (sval64 s - sval64 x) = -(sval64 s - (sval64 x + sval64 y)) by omega)] at h
      exact Nat.le_trans h b2
    have eq : sval64 q = sval64 s - sval64 p := by
      have k1 := ab_sub (sval64 x) (sval64 p - (sval64 s - sval64 x))
      rw [show sval64 x - (sval64 p - (sval64 s - sval64 x)) = sval64 s - sval64 p by omega] at k1
      rw [vq]; exact RN_exact hQ (Int.dvd_sub ds dp) (show ab (sval64 s - sval64 p) < 2 ^ (53 + g) by omega)
    have et : sval64 t = sval64 x - sval64 q := by
      have k1 : sval64 x - sval64 q = sval64 p - (sval64 s - sval64 x) := by rw [eq]; omega
      rw [vt]
      refine RN_exact hT (g := g) ?_ (show ab (sval64 x - sval64 q) < 2 ^ (53 + g) by rw [k1]; omega)
      rw [k1]; exact Int.dvd_sub dp dP
    have eu : sval64 u = sval64 y - sval64 p := by
      have k1 := ab_sub (sval64 y - (sval64 s - sval64 x)) (sval64 p - (sval64 s - sval64 x))
      rw [show sval64 y - (sval64 s - sval64 x) - (sval64 p - (sval64 s - sval64 x)) = sval64 y - sval64 p by omega, ab_neg (show sval64 y - (sval64 s - sval64 x) = -(sval64 s - (sval64 x + sval64 y)) by omega)] at k1
      rw [vu]; exact RN_exact hU (Int.dvd_sub dy dp) (show ab (sval64 y - sval64 p) < 2 ^ (53 + g) by omega)
    have esum : sval64 t + sval64 u = sval64 x + sval64 y - sval64 s := by rw [et, eu, eq]; omega
    have k2 : ab (sval64 t + sval64 u) = ab (sval64 s - (sval64 x + sval64 y)) := ab_neg (by rw [esum]; omega)
    rw [vl]
    have k3 : RN (sval64 t + sval64 u) = sval64 t + sval64 u := by
      refine RN_exact hL (g := g) ?_ (show ab (sval64 t + sval64 u) < 2 ^ (53 + g) by omega)
      rw [esum]; exact Int.dvd_sub (Int.dvd_add dx dy) ds
    rw [k3, esum]
  · have ep : sval64 p = sval64 s - sval64 x := by
      have k1 := ab_add (sval64 s - (sval64 x + sval64 y)) (sval64 y)
      rw [show sval64 s - (sval64 x + sval64 y) + sval64 y = sval64 s - sval64 x by omega] at k1
      rw [vp]; exact RN_exact hP dP (show ab (sval64 s - sval64 x) < 2 ^ (53 + g) by omega)
    have eq : sval64 q = sval64 x := by
      rw [vq, ep, show sval64 s - (sval64 s - sval64 x) = sval64 x by omega]
      exact RN_self (hB _ (show ab (sval64 x) < 1024 * B by omega))
    have et : sval64 t = 0 := by
      rw [vt, eq, Int.sub_self]; exact RN_zero
    have k1 : ab (sval64 y - sval64 p) = ab (sval64 s - (sval64 x + sval64 y)) := ab_neg (by rw [ep]; omega)
    have eu : sval64 u = sval64 y - sval64 p := by
      rw [vu]; exact RN_exact hU (Int.dvd_sub dy dp) (show ab (sval64 y - sval64 p) < 2 ^ (53 + g) by omega)
    have esum : sval64 t + sval64 u = sval64 x + sval64 y - sval64 s := by rw [et, eu, ep]; omega
    have k2 : ab (sval64 t + sval64 u) = ab (sval64 s - (sval64 x + sval64 y)) := ab_neg (by rw [esum]; omega)
    rw [vl]
    have k3 : RN (sval64 t + sval64 u) = sval64 t + sval64 u := by
      refine RN_exact hL (g := g) ?_ (show ab (sval64 t + sval64 u) < 2 ^ (53 + g) by omega)
      rw [esum]; exact Int.dvd_sub (Int.dvd_add dx dy) ds
    rw [k3, esum]

theorem sval_zero {l : Nat} : sval64 l = 0 ↔ rung64 l = 0 := by
  have h1 : rung64 l = 0 → val64 (rung64 l) = 0 := fun h => by rw [h]; exact val_zero64
  have h2 : 0 < rung64 l → 0 < val64 (rung64 l) := val_pos64
  unfold sval64
  constructor
  · intro h
    rcases Nat.eq_zero_or_pos (rung64 l) with g | g
    · exact g
    · have := h2 g; split at h <;> omega
  · intro h
    rw [h1 h]; split <;> rfl
theorem order_neg {l : Nat} (h : rung64 l < 9218868437227405312) : (Ieee.double.order l 0 == some Ordering.lt) = decide (sval64 l < 0) := by
  rw [order_fin64 h (by decide), ← sval_srung64, cmp_lt, show sval64 0 = 0 from by decide]

/-- The odd one of the two about a number. -/
theorem odd_stick (M : Nat) :
    (if rne M (lostK M) % 2 = 1 ∨ rne M (lostK M) * 2 ^ lostK M = M then rne M (lostK M) else if rne M (lostK M) * 2 ^ lostK M < M then rne M (lostK M) + 1 else rne M (lostK M) - 1) = stick M (lostK M + 1) := by
  obtain ⟨K, hKe⟩ : ∃ K, K = lostK M := ⟨_, rfl⟩
  rw [← hKe]
  have hp := Nat.two_pow_pos K
  have d1 := Nat.div_add_mod M (2 ^ K)
  have r1 := Nat.mod_lt M hp
  have ep : 2 ^ (K + 1) = 2 * 2 ^ K := by rw [Nat.pow_succ]; omega
  have c1 : M / 2 ^ (K + 1) = M / 2 ^ K / 2 := by rw [Nat.pow_succ, Nat.div_div_eq_div_mul]
  have c2 := Nat.div_add_mod M (2 ^ (K + 1))
  have hc : (rne M K = M / 2 ^ K ∧ ¬ (2 ^ K < 2 * (M % 2 ^ K) ∨ (2 ^ K = 2 * (M % 2 ^ K) ∧ M / 2 ^ K % 2 = 1))) ∨ (rne M K = M / 2 ^ K + 1 ∧ (2 ^ K < 2 * (M % 2 ^ K) ∨ (2 ^ K = 2 * (M % 2 ^ K) ∧ M / 2 ^ K % 2 = 1))) := by
    unfold rne
    by_cases h : goesUp M K
    · rw [if_pos h]; exact Or.inr ⟨rfl, h⟩
    · rw [if_neg h]; exact Or.inl ⟨rfl, h⟩
  unfold stick
  rw [c1] at c2 ⊢
  generalize rne M K = c at hc
  generalize hT : M / 2 ^ K = T at c2 d1 hc
  generalize hr : M % 2 ^ K = r at d1 r1 hc
  generalize hR : M % 2 ^ (K + 1) = R at c2
  rw [ep] at c2
  generalize hE : 2 ^ K = E at c2 d1 r1 hp hc
  clear hT hr hR hE hKe ep c1
  have hRr : R = T % 2 * E + r := by
    have a1 : E * T = 2 * E * (T / 2) + T % 2 * E := by
      have h2 : E * T = E * (2 * (T / 2) + T % 2) := by rw [Nat.div_add_mod T 2]
      rw [h2, Nat.mul_add, ← Nat.mul_assoc, Nat.mul_comm E 2, Nat.mul_comm E (T % 2)]
    omega
  have e0 : E * T = T * E := Nat.mul_comm _ _
  have e2 : (T + 1) * E = T * E + E := by rw [Nat.add_mul, Nat.one_mul]
  have hT2 := Nat.div_add_mod T 2
  rcases Nat.mod_two_eq_zero_or_one T with ht | ht
  · rw [ht, Nat.zero_mul, Nat.zero_add] at hRr
    rw [hRr]
    rcases hc with ⟨rfl, up⟩ | ⟨rfl, up⟩
    · by_cases hr0 : r = 0
      · rw [if_pos (Or.inr (by omega)), if_pos hr0]; omega
      · rw [if_neg hr0, if_neg (by omega), if_pos (by omega)]; omega
    · rw [if_pos (Or.inl (by omega)), if_neg (by omega)]; omega
  · rw [ht, Nat.one_mul] at hRr
    rw [if_neg (show ¬ R = 0 by omega)]
    rcases hc with ⟨rfl, up⟩ | ⟨rfl, up⟩
    · rw [if_pos (Or.inl ht)]; omega
    · rw [if_neg (by omega), if_neg (by omega)]; omega
/-- A number rounded to odd in binary64, then to a sample, is the number rounded once. -/
theorem stick_rung {M : Nat} (hM : M.log2 ≤ 2000) (hK : 0 < lostK M) : rungOf Ieee.single (stick M (lostK M + 1) * 2 ^ lostK M) (-1074) = rungOf Ieee.single M (-1074) := by
  have h0 : M ≠ 0 := by intro h0; subst h0; exact absurd hK (by decide)
  rw [rung_scale]
  have := rung_stick Ieee.single (M := M) (k := lostK M + 1) (-1074) (by unfold lostK at *; omega) h0 (by
    unfold lastOf
    rw [show (Ieee.single.fractionBits : Int) = 23 from rfl]
    unfold lostK at *
    omega)
  rw [← this]
  congr 1; omega
end Go.Proofs.YtieojgblamkgoaaGreatDoor
/- Plain facts: a quotient with its rest told by one bit. -/
namespace Go.Proofs.YtieojgblamkgoaaGreatDoor
open Go.RowKit

/-- A quotient's digits, and one more that tells of a rest. -/
def sqV (m n A : Nat) : Nat := 2 * (m * 2 ^ A / n) + if m * 2 ^ A % n = 0 then 0 else 1
theorem sq_stick {m n B k : Nat} (hn : 0 < n) : stick (sqV m n (B + k)) (k + 1) = sqV m n B := by
  have hk := Nat.two_pow_pos k
  have e0 : m * 2 ^ (B + k) = m * 2 ^ B * 2 ^ k := by rw [Nat.pow_add, Nat.mul_assoc]
  -- the great quotient, cut, is the small one
  have e1 : m * 2 ^ (B + k) / n / 2 ^ k = m * 2 ^ B / n := by
    rw [Nat.div_div_eq_div_mul, e0, Nat.mul_div_mul_right _ _ hk]
  have d1 := Nat.div_add_mod (m * 2 ^ (B + k)) n
  have d2 := Nat.div_add_mod (m * 2 ^ B) n
  have d3 := Nat.div_add_mod (m * 2 ^ (B + k) / n) (2 ^ k)
  have r1 := Nat.mod_lt (m * 2 ^ (B + k)) hn
  have r2 := Nat.mod_lt (m * 2 ^ B) hn
  rw [e1] at d3
  obtain ⟨q, hq⟩ : ∃ q, q = m * 2 ^ B / n := ⟨_, rfl⟩
  obtain ⟨Q', hQ⟩ : ∃ Q', Q' = m * 2 ^ (B + k) / n := ⟨_, rfl⟩
  obtain ⟨r, hr⟩ : ∃ r, r = m * 2 ^ B % n := ⟨_, rfl⟩
  obtain ⟨R, hR⟩ : ∃ R, R = m * 2 ^ (B + k) % n := ⟨_, rfl⟩
  obtain ⟨t, ht⟩ : ∃ t, t = Q' % 2 ^ k := ⟨_, rfl⟩
  unfold stick sqV
  rw [← hQ, ← hR, ← hq, ← hr]
  rw [← hQ, ← hq, ← ht] at d3
  rw [← hQ, ← hR] at d1
  rw [← hq, ← hr] at d2
  have htk : t < 2 ^ k := by rw [ht]; exact Nat.mod_lt _ hk
  -- r * 2^k = n * t + R
  have key : r * 2 ^ k = n * t + R := by
    have a1 : n * Q' + R = (n * q + r) * 2 ^ k := by rw [d1, d2, e0]
    rw [← d3] at a1
    rw [Nat.mul_add, Nat.add_mul] at a1
    have a2 : n * (2 ^ k * q) = n * q * 2 ^ k := by rw [Nat.mul_comm (2 ^ k) q, Nat.mul_assoc]
    omega
  have hzero : r = 0 ↔ t = 0 ∧ R = 0 := by
    constructor
    · intro h
      rw [h, Nat.zero_mul] at key
      have k1 : n * t = 0 := by omega
      rcases Nat.mul_eq_zero.1 k1 with h' | h'
      · omega
      · exact ⟨h', by omega⟩
    · rintro ⟨h1, h2⟩
      rw [h1, h2, Nat.mul_zero] at key
      rcases Nat.mul_eq_zero.1 key with h' | h'
      · exact h'
      · omega
  have ep : 2 ^ (k + 1) = 2 * 2 ^ k := by rw [Nat.pow_succ]; omega
  obtain ⟨b, hb⟩ : ∃ b, b = if R = 0 then 0 else 1 := ⟨_, rfl⟩
  have hb2 : b < 2 := by rw [hb]; split <;> omega
  rw [← hb]
  have f1 : (2 * Q' + b) / 2 ^ (k + 1) = q := by
    rw [ep, ← Nat.div_div_eq_div_mul, show (2 * Q' + b) / 2 = Q' by omega, hQ, e1, hq]
  have f2 : (2 * Q' + b) % 2 ^ (k + 1) = 2 * t + b := by
    have g := Nat.div_add_mod (2 * Q' + b) (2 ^ (k + 1))
    rw [f1, ep] at g
    rw [ep]
    have g2 : 2 * 2 ^ k * q = 2 * (2 ^ k * q) := Nat.mul_assoc _ _ _
    omega
  rw [f1, f2]
  have hbR : b = 0 ↔ R = 0 := by rw [hb]; split <;> omega
  by_cases h : r = 0
  · obtain ⟨h1, h2⟩ := hzero.1 h
    rw [if_pos h, if_pos (by have := hbR.2 h2; omega)]
  · rw [if_neg h, if_neg]
    intro h'
    exact h (hzero.2 ⟨by omega, hbR.1 (by omega)⟩)
theorem sq_link (f : Ieee.Format) {m n A B : Nat} (x : Int) (hn : 0 < n) (hA : B ≤ A) (hq : 2 ^ (f.fractionBits + 1) ≤ m * 2 ^ B / n) :
    rungOf f (sqV m n A) (x - A - 1) = rungOf f (sqV m n B) (x - B - 1) := by
  obtain ⟨k, rfl⟩ : ∃ k, A = B + k := ⟨A - B, by omega⟩
  have e1 : m * 2 ^ (B + k) / n / 2 ^ k = m * 2 ^ B / n := by
    rw [Nat.div_div_eq_div_mul, Nat.pow_add, ← Nat.mul_assoc, Nat.mul_div_mul_right _ _ (Nat.two_pow_pos k)]
  have h1 : 2 ^ (f.fractionBits + 1 + k) ≤ m * 2 ^ (B + k) / n := by
    rw [Nat.pow_add]
    rw [← e1] at hq
    exact (Nat.le_div_iff_mul_le (Nat.two_pow_pos k)).1 hq
  have h2 : 2 ^ (f.fractionBits + 2 + k) ≤ sqV m n (B + k) := by
    unfold sqV
    rw [show f.fractionBits + 2 + k = f.fractionBits + 1 + k + 1 by omega, Nat.pow_succ]
    omega
  have hM : sqV m n (B + k) ≠ 0 := by have := Nat.two_pow_pos (f.fractionBits + 2 + k); omega
  have hlog : f.fractionBits + 2 + k ≤ (sqV m n (B + k)).log2 := (Nat.le_log2 hM).2 h2
  have := rung_stick f (M := sqV m n (B + k)) (k := k + 1) (x - (B + k : Nat) - 1) (by omega) hM (by unfold lastOf; omega)
  rw [sq_stick hn] at this
  rw [← this]
  congr 1; omega
theorem quo_digits {m n : Nat} (hm : m ≠ 0) (hn : n ≠ 0) {d : Nat} (h0 : 0 < d) : 2 ^ (d - 1) ≤ m * 2 ^ (d + n.log2 - m.log2) / n := by
  rw [Nat.le_div_iff_mul_le (by omega)]
  have h1 := Nat.log2_self_le hm
  have h2 : n < 2 ^ (n.log2 + 1) := Nat.lt_log2_self
  have a1 : 2 ^ (d - 1) * n < 2 ^ (d - 1) * 2 ^ (n.log2 + 1) := Nat.mul_lt_mul_of_pos_left h2 (Nat.two_pow_pos _)
  rw [← Nat.pow_add, show d - 1 + (n.log2 + 1) = d + n.log2 by omega] at a1
  have a2 : 2 ^ m.log2 * 2 ^ (d + n.log2 - m.log2) ≤ m * 2 ^ (d + n.log2 - m.log2) := Nat.mul_le_mul_right _ h1
  rw [← Nat.pow_add] at a2
  have a3 : 2 ^ (d + n.log2) ≤ 2 ^ (m.log2 + (d + n.log2 - m.log2)) := Nat.pow_le_pow_right (by decide) (by omega)
  omega
theorem sq_not (m n A : Nat) : 2 * (m * 2 ^ A / n) + (!decide (m * 2 ^ A % n = 0)).toNat = sqV m n A := by
  unfold sqV
  by_cases h : m * 2 ^ A % n = 0
  · rw [decide_eq_true h, if_pos h]; rfl
  · rw [decide_eq_false h, if_neg h]; rfl
theorem sq_model (m n A : Nat) : 2 * ((m <<< A) / n) + ((m <<< A) % n != 0).toNat = sqV m n A := by
  unfold sqV
  rw [Nat.shiftLeft_eq]
  by_cases h : m * 2 ^ A % n = 0
  · rw [if_pos h, h]; rfl
  · rw [if_neg h, bne_iff_ne.2 h]; rfl
end Go.Proofs.YtieojgblamkgoaaGreatDoor
/- Plain facts: a quotient with its rest told by one bit, rounded: how many digits it has does not matter; the reference's quotients are the model's. -/
namespace Go.Proofs.YtieojgblamkgoaaGreatDoor
open Go.RowKit

theorem zeroB_fin (s : Bool) (n : Nat) (e : Int) : zeroB (.fin s n e false) = decide (n = 0) := by
  unfold zeroB; cases n <;> rfl
theorem bne_xor (s t : Bool) : (s != t) = (s ^^ t) := by cases s <;> cases t <;> rfl
/-- Quotients. -/
theorem div_link (d d' : Ieee.Datum) : roundR (divR (datumR d) (datumR d')) = toldD (d.quotient 25 d') := by
  cases d with
  | nan s t => cases d' <;> rfl
  | infinity s =>
    cases d' with
    | nan t f => rfl
    | infinity t => rfl
    | number t n j =>
      show Ieee.single.word (s != t) 2139095040 = Ieee.single.word (s ^^ t) Ieee.single.infRung
      rw [single_inf, bne_xor]
  | number s m i =>
    cases d' with
    | nan t f => rfl
    | infinity t =>
      show roundR (.fin (s != t) 0 0 false) = Ieee.single.nearest (s ^^ t) 0 0
      rw [roundR_fin, bne_xor]
    | number t n j =>
      show roundR (divR (.fin s m i false) (.fin t n j false)) = _
      unfold divR
      dsimp only
      rw [zeroB_fin, zeroB_fin]
      simp only [decide_eq_true_eq]
      by_cases hn : n = 0
      · rw [if_pos (Or.inr hn), if_pos hn]
        by_cases hm : m = 0
        · rw [if_pos hm, show (Ieee.Datum.number s m i).quotient 25 (.number t n j) = none from by simp [Ieee.Datum.quotient, hn, hm]]; rfl
        · rw [if_neg hm, show (Ieee.Datum.number s m i).quotient 25 (.number t n j) = some (.infinity (s ^^ t)) from by simp [Ieee.Datum.quotient, hn, hm]]
          show Ieee.single.word (s != t) 2139095040 = Ieee.single.word (s ^^ t) Ieee.single.infRung
          rw [single_inf, bne_xor]
      · have em : (Ieee.Datum.number s m i).quotient 25 (.number t n j) = some (.number (s ^^ t) (sqV m n (25 + n.log2 - m.log2)) (i - j - ((25 + n.log2 - m.log2 : Nat) : Int) - 1)) := by
          rw [← sq_model]
          simp [Ieee.Datum.quotient, hn]
        rw [em]
        show _ = Ieee.single.nearest _ _ _
        rw [nearest_rung]
        by_cases hm : m = 0
        · rw [if_pos (Or.inl hm), if_neg hn, roundR_fin, nearest_rung, bne_xor]
          have z : sqV m n (25 + n.log2 - m.log2) = 0 := by unfold sqV; rw [hm, Nat.zero_mul, Nat.zero_div, Nat.zero_mod, if_pos rfl]
          rw [z]; unfold rungOf; rw [if_pos rfl, if_pos rfl]
        · rw [if_neg (by simp [hn, hm]), bne_xor]
          show Ieee.single.word _ (rungOf Ieee.single (2 * (m * 2 ^ shV m n / n) + (!decide (m * 2 ^ shV m n % n = 0)).toNat) (i - j - (shV m n : Int) - 1)) = _
          rw [sq_not]
          congr 1
          refine sq_link Ieee.single (i - j) (by omega) ?_ ?_
          · unfold shV blen
            rw [if_neg hn, if_neg hm]; omega
          · exact quo_digits hm hn (d := 25) (by omega)
end Go.Proofs.YtieojgblamkgoaaGreatDoor

/- What package arith's Fma returns, by its steps in binary64, in the model's own words of floats; what was in memory stays as it was. -/
import Derived.Test.YtnjagokojdpgpabDoorGe0ff3cfc
namespace Go.Proofs.YtnjagokojdpgpabDoor
open Go.RowKit

theorem sum_nan1 {a : Ieee.Datum} (h : a.isNaN = true) (b : Ieee.Datum) : a.sum b = none := by
  obtain ⟨s, t, rfl⟩ := isNaN_cases h; cases b <;> rfl
theorem sum_nan2 {b : Ieee.Datum} (h : b.isNaN = true) (a : Ieee.Datum) : a.sum b = none := by
  obtain ⟨s, t, rfl⟩ := isNaN_cases h; cases a <;> rfl
theorem product_nan1 {a : Ieee.Datum} (h : a.isNaN = true) (b : Ieee.Datum) : a.product b = none := by
  obtain ⟨s, t, rfl⟩ := isNaN_cases h; cases b <;> rfl
theorem product_nan2 {b : Ieee.Datum} (h : b.isNaN = true) (a : Ieee.Datum) : a.product b = none := by
  obtain ⟨s, t, rfl⟩ := isNaN_cases h; cases a <;> rfl
theorem opp_nan {a : Ieee.Datum} (h : a.isNaN = true) : a.opposite.isNaN = true := by
  obtain ⟨s, t, rfl⟩ := isNaN_cases h; rfl
theorem add_nan1 {x : Nat} (h : nan64 x = true) (y : Nat) : floatBits .add .f64 x y = none := by
  show ((Ieee.double.read x).sum (Ieee.double.read y)).map _ = none
  rw [sum_nan1 (read64_nan h)]; rfl
theorem add_nan2 {y : Nat} (h : nan64 y = true) (x : Nat) : floatBits .add .f64 x y = none := by
  show ((Ieee.double.read x).sum (Ieee.double.read y)).map _ = none
  rw [sum_nan2 (read64_nan h)]; rfl
theorem sub_nan1 {x : Nat} (h : nan64 x = true) (y : Nat) : floatBits .sub .f64 x y = none := by
  show ((Ieee.double.read x).sum (Ieee.double.read y).opposite).map _ = none
  rw [sum_nan1 (read64_nan h)]; rfl
theorem sub_nan2 {y : Nat} (h : nan64 y = true) (x : Nat) : floatBits .sub .f64 x y = none := by
  show ((Ieee.double.read x).sum (Ieee.double.read y).opposite).map _ = none
  rw [sum_nan2 (opp_nan (read64_nan h))]; rfl
theorem mul_nan1 {x : Nat} (h : nan64 x = true) (y : Nat) : floatBits .mul .f64 x y = none := by
  show ((Ieee.double.read x).product (Ieee.double.read y)).map _ = none
  rw [product_nan1 (read64_nan h)]; rfl
theorem mul_nan2 {y : Nat} (h : nan64 y = true) (x : Nat) : floatBits .mul .f64 x y = none := by
  show ((Ieee.double.read x).product (Ieee.double.read y)).map _ = none
  rw [product_nan2 (read64_nan h)]; rfl
theorem same64 (x : Nat) (w : World) : (convert 79 79 (.float .f64 x)).run Tryd.prog w = .ok (.float .f64 x) w :=
  run_convert_float_float w 79 79 .f64 .f64 x x (by kernel_rfl) Tryd.underlying79 rfl

/-- What is drawn of a NaN goes on as one. -/
theorem go_sub1 (a b : Nat) (u : World) (y : Nat) (w : World) : (binOp .sub 79 (.float .f64 (nanw .f64 a b u)) (.float .f64 y)).run Tryd.prog w = .ok (.float .f64 (nanw .f64 (nanw .f64 a b u) y w)) w.drew :=
  run_arith_none .sub (by simp) 79 .f64 _ y (sub_nan1 (nanw64 a b u).1 y) Tryd.prog w
theorem go_sub2 (a b : Nat) (u : World) (x : Nat) (w : World) : (binOp .sub 79 (.float .f64 x) (.float .f64 (nanw .f64 a b u))).run Tryd.prog w = .ok (.float .f64 (nanw .f64 x (nanw .f64 a b u) w)) w.drew :=
  run_arith_none .sub (by simp) 79 .f64 x _ (sub_nan2 (nanw64 a b u).1 x) Tryd.prog w
theorem go_add1 (a b : Nat) (u : World) (y : Nat) (w : World) : (binOp .add 79 (.float .f64 (nanw .f64 a b u)) (.float .f64 y)).run Tryd.prog w = .ok (.float .f64 (nanw .f64 (nanw .f64 a b u) y w)) w.drew :=
  run_arith_none .add (by simp) 79 .f64 _ y (add_nan1 (nanw64 a b u).1 y) Tryd.prog w

/-- The sum, or where something is lost the one of the two about it that is odd. -/
def oddV (s l : Nat) : Nat := if s % 2 = 1 ∨ rung64 l = 0 then s else if (Ieee.double.order l 0 == some Ordering.lt) = (Ieee.double.order s 0 == some Ordering.lt) then s + 1 else s - 1
end Go.Proofs.YtnjagokojdpgpabDoor
/- Plain facts: a sample times a power of two by way of binary64. -/
namespace Go.Proofs.YtnjagokojdpgpabDoor
open Go.RowKit

theorem toldD_num (s : Bool) (m : Nat) (p : Int) : toldD (some (.number s m p)) = Ieee.single.word s (rungOf Ieee.single m p) := nearest_rung _ _ _ _
theorem rung_big {m : Nat} {p : Int} (hm : m ≠ 0) (hp : 128 ≤ p) : rungOf Ieee.single m p = 2139095040 := by
  have h1 : rungOf Ieee.single 1 128 ≤ rungOf Ieee.single (m * 2 ^ (p - 128).toNat) 128 := rung_mono _ _ (Nat.mul_pos (by omega) (Nat.two_pow_pos _))
  rw [rung_scale, show (128 : Int) + (((p - 128).toNat : Nat) : Int) = p by omega] at h1
  have h2 : rungOf Ieee.single 1 128 = 2139095040 := by decide +kernel
  have h3 := rungOf_le Ieee.single m p
  rw [inf32] at h3
  omega
theorem rung_small {m : Nat} {p : Int} (hm : m < 16777216) (hp : p ≤ -174) : rungOf Ieee.single m p = 0 := by
  have h1 : rungOf Ieee.single m p ≤ rungOf Ieee.single (16777216 * 2 ^ (-174 - p).toNat) p := rung_mono _ _ (by
    have : 16777216 * 1 ≤ 16777216 * 2 ^ (-174 - p).toNat := Nat.mul_le_mul_left _ (Nat.two_pow_pos _)
    omega)
  rw [rung_scale, show p + (((-174 - p).toNat : Nat) : Int) = -174 by omega] at h1
  have h2 : rungOf Ieee.single 16777216 (-174) = 0 := by decide +kernel
  omega
theorem rungOf_zero (f : Ieee.Format) (p : Int) : rungOf f 0 p = 0 := by unfold rungOf; rw [if_pos rfl]
theorem read_word64 (s : Bool) : Ieee.double.read (Ieee.double.word s 0) = .number s 0 (-1074) := by
  obtain ⟨a, b⟩ := sgn_word64 s (r := 0) (by decide)
  rw [read_fin64 (by rw [b]; decide), a, b]; rfl
theorem read_winf64 (s : Bool) : Ieee.double.read (Ieee.double.word s 9218868437227405312) = .infinity s := by
  obtain ⟨a, b⟩ := sgn_word64 s (r := 9218868437227405312) (by decide)
  rw [read_inf64 b, a]
/-- What Scale tells of a sample that is no NaN: nought, infinity, or the number rounded. -/
theorem scaleV_fin {a : Nat} (h0 : rung32 a ≠ 0) (h : rung32 a < 2139095040) (n : Int) : scaleV a n = Ieee.single.word (sgn32 a) (rungOf Ieee.single (mag32 (rung32 a)) (-149 + (plc32 (rung32 a) : Int) + n)) := by
  have hn : nanN a = false := by rw [nanN_rung]; exact decide_eq_false (by omega)
  unfold scaleV
  rw [hn, if_neg (by decide)]
  obtain ⟨L, hL, m0, m1, e, hp⟩ := wide_wd h0 h
  obtain ⟨c0, c1⟩ := clamp_bd n
  have b0 : 4503599627370496 ≤ mag32 (rung32 a) * 2 ^ (52 - L) := by
    have := Nat.mul_le_mul_right (2 ^ (52 - L)) m0
    rw [← Nat.pow_add, show L + (52 - L) = 52 by omega] at this
    exact this
  have b1 : mag32 (rung32 a) * 2 ^ (52 - L) < 9007199254740992 := by
    have := Nat.mul_lt_mul_of_pos_right m1 (Nat.two_pow_pos (52 - L))
    rw [← Nat.pow_add, show L + 1 + (52 - L) = 53 by omega] at this
    exact this
  rw [e, ldV_wd b0 b1 (by omega) (by omega) (by omega), read_wd b0 b1 (by omega) (by omega)]
  rw [toldD_num, rung_scale, show -149 + (plc32 (rung32 a) : Int) + L - 52 + clampV n + ((52 - L : Nat) : Int) = -149 + (plc32 (rung32 a) : Int) + clampV n by omega]
  refine congrArg (Ieee.single.word (sgn32 a)) ?_
  have hm := mag_ne32 h0
  have hm1 := mag_lt32 (rung32 a)
  unfold clampV
  split
  · rw [rung_small hm1 (by omega), rung_small hm1 (by omega)]
  · split
    · rw [rung_big hm (by omega), rung_big hm (by omega)]
    · rfl
theorem scaleV_zero {a : Nat} (h : rung32 a = 0) (n : Int) : scaleV a n = Ieee.single.word (sgn32 a) 0 := by
  have hn : nanN a = false := by rw [nanN_rung]; exact decide_eq_false (by omega)
  unfold scaleV ldV
  rw [hn, if_neg (by decide), wide_zero h, if_pos (Or.inl (sgn_word64 _ (by decide)).2), read_word64]
  rw [toldD_num, rungOf_zero]
theorem scaleV_inf {a : Nat} (h : rung32 a = 2139095040) (n : Int) : scaleV a n = Ieee.single.word (sgn32 a) 2139095040 := by
  have hn : nanN a = false := by rw [nanN_rung]; exact decide_eq_false (by omega)
  unfold scaleV ldV
  rw [hn, if_neg (by decide), wide_inf h, if_pos (Or.inr (by rw [(sgn_word64 _ (by decide)).2]; exact Nat.le_refl _)), read_winf64]
  show Ieee.single.word _ Ieee.single.infRung = _
  rw [inf32]
theorem scaleV_nan {a : Nat} (h : nanN a = true) (n : Int) : scaleV a n = 2143289344 := by
  unfold scaleV; rw [h]; rfl
end Go.Proofs.YtnjagokojdpgpabDoor
/- Plain facts: numbers of binary64 in its least units: rounding, what it keeps, sums and differences; what is lost of a sum is told exactly. -/
namespace Go.Proofs.YtnjagokojdpgpabDoor
open Go.RowKit

/-- How many digits a number in least units loses. -/
def lostK (M : Nat) : Nat := M.log2 - 52
theorem kept_bd {M : Nat} : rne M (lostK M) ≤ 9007199254740992 ∧ (0 < lostK M → 4503599627370496 ≤ rne M (lostK M)) := by
  have e1 : lastOf Ieee.double M (-1074) = -1074 + (lostK M : Int) := by unfold lastOf lostK; rw [least64, frac64]; omega
  have e3 : (-1074 : Int) - (-1074 + (lostK M : Int)) = -(lostK M : Int) := by omega
  have hk := kept_le Ieee.double M (-1074)
  rw [e1, e3, rz_neg, binade64] at hk
  refine ⟨hk, fun h => ?_⟩
  have hM : M ≠ 0 := by intro h0; subst h0; exact absurd h (by decide)
  have := le_kept Ieee.double hM (-1074) (by rw [e1, frac64]; unfold lostK at *; omega)
  rw [e1, e3, rz_neg, binade64] at this
  exact this
theorem rung64_eq {M : Nat} (hM : M.log2 ≤ 2000) : rungOf Ieee.double M (-1074) = lostK M * 4503599627370496 + rne M (lostK M) := by
  by_cases h : M = 0
  · subst h
    rw [rungOf_zero, show lostK 0 = 0 from by decide, rne_zero]
  · unfold rungOf
    rw [if_neg h]
    have e1 : lastOf Ieee.double M (-1074) = -1074 + (lostK M : Int) := by unfold lastOf lostK; rw [least64, frac64]; omega
    have e2 : (-1074 + (lostK M : Int) - -1074).toNat = lostK M := by omega
    have e3 : (-1074 : Int) - (-1074 + (lostK M : Int)) = -(lostK M : Int) := by omega
    rw [e1, least64, binade64, inf64, e2, e3, rz_neg]
    have hk := (kept_bd (M := M)).1
    have hl : lostK M ≤ 1948 := by unfold lostK; omega
    rw [Nat.min_eq_left (by omega)]
theorem val_of {K c : Nat} (h : c ≤ 9007199254740992) (h' : 0 < K → 4503599627370496 ≤ c) : val64 (K * 4503599627370496 + c) = c * 2 ^ K := by
  unfold val64 mag64
  rcases Nat.lt_or_ge c 9007199254740992 with g | g
  · rcases Nat.lt_or_ge c 4503599627370496 with k | k
    · have hK : K = 0 := by omega
      subst hK
      have e : plc64 (0 * 4503599627370496 + c) = 0 := by unfold plc64; omega
      rw [e]; congr 1; omega
    · have e : plc64 (K * 4503599627370496 + c) = K := by unfold plc64; omega
      rw [e]; congr 1; omega
  · have e : plc64 (K * 4503599627370496 + c) = K + 1 := by unfold plc64; omega
    rw [e, Nat.pow_succ]
    have e2 : K * 4503599627370496 + c - (K + 1) * 4503599627370496 = 4503599627370496 := by omega
    have e3 : c = 4503599627370496 * 2 := by omega
    rw [e2, e3, Nat.mul_assoc, Nat.mul_comm (2 ^ K) 2]
theorem vN_eq {M : Nat} (hM : M.log2 ≤ 2000) : val64 (rungOf Ieee.double M (-1074)) = rne M (lostK M) * 2 ^ lostK M := by
  rw [rung64_eq hM, val_of kept_bd.1 kept_bd.2]
theorem vN_div {M : Nat} (hM : M.log2 ≤ 2000) (h : 2 ^ lostK M ∣ M) : val64 (rungOf Ieee.double M (-1074)) = M := by
  rw [vN_eq hM]
  obtain ⟨o, ho⟩ := h
  have : rne M (lostK M) = o := by
    have e := rne_exact o (lostK M)
    rw [Nat.mul_comm, ← ho] at e
    exact e
  rw [this, Nat.mul_comm, ← ho]
theorem vN_exact {M g : Nat} (hM : M.log2 ≤ 2000) (hd : 2 ^ g ∣ M) (hb : M < 2 ^ (53 + g)) : val64 (rungOf Ieee.double M (-1074)) = M := by
  by_cases h0 : M = 0
  · subst h0; rw [rungOf_zero]; exact val_zero64
  · refine vN_div hM ?_
    have hl := (Nat.log2_lt h0).2 hb
    exact Nat.dvd_trans (Nat.pow_dvd_pow 2 (by unfold lostK; omega)) hd
theorem vN_dvd {M g : Nat} (hM : M.log2 ≤ 2000) (hd : 2 ^ g ∣ M) : 2 ^ g ∣ val64 (rungOf Ieee.double M (-1074)) := by
  rcases Nat.le_total g (lostK M) with h | h
  · rw [vN_eq hM]
    exact Nat.dvd_trans (Nat.pow_dvd_pow 2 h) (Nat.dvd_mul_left _ _)
  · rw [vN_div hM (Nat.dvd_trans (Nat.pow_dvd_pow 2 h) hd)]
    exact hd
/-- Of all multiples the rounded one is the nearest. -/
theorem rne_best (M K j : Nat) : ((rne M K * 2 ^ K : Nat) - (M : Int)).natAbs ≤ ((j * 2 ^ K : Nat) - (M : Int)).natAbs := by
  obtain ⟨a1, a2⟩ := rne_near M K
  rcases Nat.lt_trichotomy j (rne M K) with h | h | h
  · have : (j + 1) * 2 ^ K ≤ rne M K * 2 ^ K := Nat.mul_le_mul_right _ h
    rw [Nat.add_mul, Nat.one_mul] at this
    omega
  · rw [h]; exact Nat.le_refl _
  · have : (rne M K + 1) * 2 ^ K ≤ j * 2 ^ K := Nat.mul_le_mul_right _ h
    rw [Nat.add_mul, Nat.one_mul] at this
    omega
theorem vN_best {M : Nat} (hM : M.log2 ≤ 2000) (r : Nat) : ((val64 (rungOf Ieee.double M (-1074)) : Int) - (M : Int)).natAbs ≤ ((val64 r : Int) - (M : Int)).natAbs := by
  rw [vN_eq hM]
  rcases Nat.lt_or_ge (plc64 r) (lostK M) with h | h
  · -- it lies below the least multiple that is not above
    have hm : 2 ^ (52 + lostK M) ≤ M := by
      have h0 : M ≠ 0 := by intro h0; subst h0; exact absurd h (by rw [show lostK 0 = 0 from by decide]; omega)
      exact Nat.le_trans (Nat.pow_le_pow_right (by decide) (by unfold lostK; unfold lostK at h; omega)) (Nat.log2_self_le h0)
    have hv : val64 r < 2 ^ (52 + lostK M) := by
      unfold val64
      have a1 : mag64 r * 2 ^ plc64 r < 2 ^ 53 * 2 ^ plc64 r := Nat.mul_lt_mul_of_pos_right (mag_lt64 r) (Nat.two_pow_pos _)
      rw [← Nat.pow_add] at a1
      exact Nat.lt_of_lt_of_le a1 (Nat.pow_le_pow_right (by decide) (by omega))
    have hb := rne_best M (lostK M) (2 ^ 52)
    rw [← Nat.pow_add] at hb
    omega
  · have e : val64 r = mag64 r * 2 ^ (plc64 r - lostK M) * 2 ^ lostK M := by
      unfold val64
      rw [Nat.mul_assoc, ← Nat.pow_add, show plc64 r - lostK M + lostK M = plc64 r by omega]
    rw [e]
    exact rne_best M (lostK M) _

/-- A whole number of least units, rounded to binary64. -/
def RN (Z : Int) : Int := if Z < 0 then -(val64 (rungOf Ieee.double Z.natAbs (-1074)) : Int) else (val64 (rungOf Ieee.double Z.natAbs (-1074)) : Int)
theorem RN_abs (Z : Int) : (RN Z).natAbs = val64 (rungOf Ieee.double Z.natAbs (-1074)) := by unfold RN; split <;> omega
theorem RN_exact {Z : Int} {g : Nat} (hs : Z.natAbs.log2 ≤ 2000) (hd : ((2 ^ g : Nat) : Int) ∣ Z) (hb : Z.natAbs < 2 ^ (53 + g)) : RN Z = Z := by
  unfold RN
  rw [vN_exact hs (Int.ofNat_dvd_left.1 hd) hb]
  split <;> omega
theorem RN_dvd {Z : Int} {g : Nat} (hs : Z.natAbs.log2 ≤ 2000) (hd : ((2 ^ g : Nat) : Int) ∣ Z) : ((2 ^ g : Nat) : Int) ∣ RN Z := by
  rw [Int.ofNat_dvd_left, RN_abs]
  exact vN_dvd hs (Int.ofNat_dvd_left.1 hd)
theorem RN_zero : RN 0 = 0 := by
  unfold RN
  rw [show (0 : Int).natAbs = 0 from rfl, rungOf_zero, val_zero64]; rfl
theorem RN_best {Z : Int} (hs : Z.natAbs.log2 ≤ 2000) (v : Nat) : (RN Z - Z).natAbs ≤ (sval64 v - Z).natAbs := by
  have h1 := vN_best hs (rung64 v)
  have h0 := vN_best hs 0
  rw [val_zero64] at h0
  unfold RN sval64
  generalize val64 (rungOf Ieee.double Z.natAbs (-1074)) = V at h0 h1
  generalize val64 (rung64 v) = W at h1
  split <;> split <;> omega
theorem RN_self {v : Nat} (hs : (sval64 v).natAbs.log2 ≤ 2000) : RN (sval64 v) = sval64 v := by
  have := RN_best hs v
  rw [Int.sub_self] at this
  omega
theorem RN_le {Z : Int} (hs : Z.natAbs.log2 ≤ 2000) : (RN Z).natAbs ≤ 2 * Z.natAbs := by
  have h := RN_best hs 0
  have e : sval64 0 = 0 := by decide
  rw [e] at h
  omega

/-- The word of a sign and a number of least units. -/
def wordOf (σ : Bool) (Z : Int) : Nat := Ieee.double.word σ (rungOf Ieee.double Z.natAbs (-1074))
theorem wordOf_facts {σ : Bool} {Z : Int} (hs : Z.natAbs.log2 ≤ 2000) (hσ : Z ≠ 0 → σ = decide (Z < 0)) :
    rung64 (wordOf σ Z) = rungOf Ieee.double Z.natAbs (-1074) ∧ sgn64 (wordOf σ Z) = σ ∧ rung64 (wordOf σ Z) < 9218868437227405312 ∧ sval64 (wordOf σ Z) = RN Z := by
  have hr : rungOf Ieee.double Z.natAbs (-1074) < 9218868437227405312 := by
    rw [rung64_eq hs]
    have := (kept_bd (M := Z.natAbs)).1
    have : lostK Z.natAbs ≤ 1948 := by unfold lostK; omega
    omega
  obtain ⟨a, b⟩ := sgn_word64 σ (r := rungOf Ieee.double Z.natAbs (-1074)) (by omega)
  refine ⟨b, a, by unfold wordOf; rw [b]; exact hr, ?_⟩
  unfold sval64 wordOf RN
  rw [a, b]
  by_cases h : Z = 0
  · subst h
    rw [show (0 : Int).natAbs = 0 from rfl, rungOf_zero, val_zero64]
    cases σ <;> rfl
  · rw [hσ h]
    by_cases k : Z < 0
    · rw [decide_eq_true k, if_pos rfl, if_pos k]
    · rw [decide_eq_false k, if_neg (by decide), if_neg k]

/-- The sign of a sum. -/
def sg (s t : Bool) (Z : Int) : Bool := if Z = 0 then s && t else decide (Z < 0)
theorem sg_of {s t : Bool} {Z : Int} (h : Z ≠ 0) : sg s t Z = decide (Z < 0) := by unfold sg; rw [if_neg h]
/-- An exact sum, in least units. -/
theorem sum_units (s t : Bool) (m n : Nat) (i j : Int) (hi : -1074 ≤ i) (hj : -1074 ≤ j) :
    ∃ N b, (Ieee.Datum.number s m i).sum (.number t n j) = some (.number (sg s t (Ieee.signed s m (i + 1074).toNat + Ieee.signed t n (j + 1074).toNat)) N b) ∧
      ∀ f, rungOf f N b = rungOf f (Ieee.signed s m (i + 1074).toNat + Ieee.signed t n (j + 1074).toNat).natAbs (-1074) := by
  obtain ⟨k, hk⟩ : ∃ k : Nat, min i j = -1074 + (k : Int) := ⟨(min i j + 1074).toNat, by omega⟩
  obtain ⟨Y, hY⟩ : ∃ Y, Y = Ieee.signed s m (i - min i j).toNat + Ieee.signed t n (j - min i j).toNat := ⟨_, rfl⟩
  have e : Ieee.signed s m (i + 1074).toNat + Ieee.signed t n (j + 1074).toNat = Y * 2 ^ k := by
    rw [hY, Int.add_mul, signed_shift, signed_shift, show (i - min i j).toNat + k = (i + 1074).toNat by omega, show (j - min i j).toNat + k = (j + 1074).toNat by omega]
    unfold Ieee.signed
    rw [Nat.shiftLeft_eq, Nat.shiftLeft_eq, Nat.shiftLeft_zero, Nat.shiftLeft_zero]
  have hp : (0 : Int) < 2 ^ k := Int.pow_pos (by decide)
  have hz : (Y * 2 ^ k = 0) ↔ Y = 0 := by
    constructor
    · intro h; rcases Int.mul_eq_zero.1 h with h | h
      · exact h
      · omega
    · intro h; rw [h, Int.zero_mul]
  have hl : (Y * 2 ^ k < 0) ↔ Y < 0 := by
    constructor
    · intro h
      rcases Int.lt_or_le Y 0 with g | g
      · exact g
      · have := Int.mul_nonneg g (Int.le_of_lt hp); omega
    · intro h; exact Int.mul_neg_of_neg_of_pos h hp
  refine ⟨Y.natAbs, min i j, ?_, ?_⟩
  · rw [e]
    show some (Ieee.Datum.number (if Ieee.signed s m (i - min i j).toNat + Ieee.signed t n (j - min i j).toNat = 0 then s && t else decide (Ieee.signed s m (i - min i j).toNat + Ieee.signed t n (j - min i j).toNat < 0)) (Ieee.signed s m (i - min i j).toNat + Ieee.signed t n (j - min i j).toNat).natAbs (min i j)) = _
    rw [← hY]
    unfold sg
    simp only [hz, hl]
  · intro f
    rw [e, rung_down f Y.natAbs k, show min i j - (k : Int) = -1074 by omega]
    congr 1
    rw [Int.natAbs_mul, Int.natAbs_pow]; rfl
theorem signed_read (x : Nat) : Ieee.signed (sgn64 x) (mag64 (rung64 x)) (-1074 + (plc64 (rung64 x) : Int) + 1074).toNat = sval64 x := by
  rw [show (-1074 + (plc64 (rung64 x) : Int) + 1074).toNat = plc64 (rung64 x) by omega]
  unfold Ieee.signed sval64 val64
  rw [Nat.shiftLeft_eq]
theorem signed_neg (s : Bool) (m k : Nat) : Ieee.signed (!s) m k = -Ieee.signed s m k := by
  unfold Ieee.signed; cases s <;> simp
theorem add_fin {x y : Nat} (hx : rung64 x < 9218868437227405312) (hy : rung64 y < 9218868437227405312) :
    floatBits .add .f64 x y = some (wordOf (sg (sgn64 x) (sgn64 y) (sval64 x + sval64 y)) (sval64 x + sval64 y)) := by
  show ((Ieee.double.read x).sum (Ieee.double.read y)).map Ieee.double.write = _
  rw [read_fin64 hx, read_fin64 hy]
  obtain ⟨N, b, e1, e2⟩ := sum_units (sgn64 x) (sgn64 y) (mag64 (rung64 x)) (mag64 (rung64 y)) (-1074 + (plc64 (rung64 x) : Int)) (-1074 + (plc64 (rung64 y) : Int)) (by omega) (by omega)
  rw [e1]
  show some (Ieee.double.nearest _ N b) = _
  rw [nearest_rung, e2, signed_read, signed_read]; rfl
theorem sub_fin {x y : Nat} (hx : rung64 x < 9218868437227405312) (hy : rung64 y < 9218868437227405312) :
    floatBits .sub .f64 x y = some (wordOf (sg (sgn64 x) (!sgn64 y) (sval64 x - sval64 y)) (sval64 x - sval64 y)) := by
  show ((Ieee.double.read x).sum (Ieee.double.read y).opposite).map Ieee.double.write = _
  rw [read_fin64 hx, read_fin64 hy]
  obtain ⟨N, b, e1, e2⟩ := sum_units (sgn64 x) (!sgn64 y) (mag64 (rung64 x)) (mag64 (rung64 y)) (-1074 + (plc64 (rung64 x) : Int)) (-1074 + (plc64 (rung64 y) : Int)) (by omega) (by omega)
  show ((Ieee.Datum.number (sgn64 x) (mag64 (rung64 x)) (-1074 + (plc64 (rung64 x) : Int))).sum (.number (!sgn64 y) (mag64 (rung64 y)) (-1074 + (plc64 (rung64 y) : Int)))).map Ieee.double.write = _
  rw [e1]
  show some (Ieee.double.nearest _ N b) = _
  rw [nearest_rung, e2, signed_neg, signed_read, signed_read, ← Int.sub_eq_add_neg]; rfl
end Go.Proofs.YtnjagokojdpgpabDoor

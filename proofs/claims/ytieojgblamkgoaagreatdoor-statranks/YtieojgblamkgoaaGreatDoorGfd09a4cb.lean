/- What a curve's At answers. -/
import Derived.Test.YtieojgblamkgoaaGreatDoorG328d5362
import Derived.Test.YtieojgblamkgoaaGreatDoorG18fb3a0f
import Derived.Shelf.Abstract
import Derived.Test.YtieojgblamkgoaaGreatDoorG905794ad
import Derived.Test.YtieojgblamkgoaaGreatDoorG9b2a3603
namespace Go.Proofs.YtieojgblamkgoaaGreatDoor
open Go.RowKit

/-- The x and the y of a knot. -/
def kx (l : List (Nat × Nat)) (i : Nat) : Nat := (l.getD i (0, 0)).1
def ky (l : List (Nat × Nat)) (i : Nat) : Nat := (l.getD i (0, 0)).2
theorem Q.drewN {a b : World} (h : Q a b) (n : Nat) : Q a (b.drewN n) := by
  induction n with
  | zero => exact h
  | succ n ih => exact ih.drew
/-- n knots lie in memory, from an address on. -/
def KIs (w : World) (g o : Nat) (l : List (Nat × Nat)) : Prop :=
  ∀ i, i < l.length → w.cell? ⟨g, o + i * 2, none⟩ = some (.int .u32 (kx l i)) ∧ w.cell? ⟨g, o + i * 2 + 1, none⟩ = some (.int .u32 (ky l i))
theorem KIs.next {w w' : World} {g o : Nat} {l : List (Nat × Nat)} (h : KIs w g o l) (q : Q w w') : KIs w' g o l :=
  fun i hi => ⟨q.cell (h i hi).1, q.cell (h i hi).2⟩
def lessB (a b : Nat) : Bool := Ieee.single.order a b == some Ordering.lt
def equalB (a b : Nat) : Bool := Ieee.single.order a b == some Ordering.eq
end Go.Proofs.YtieojgblamkgoaaGreatDoor
/- What a piece of a curve answers. -/
namespace Go.Proofs.YtieojgblamkgoaaGreatDoor
open Go.RowKit

def clipV (p q y : Nat) : Nat := if lessB y p = true then p else if lessB q y = true then q else y
theorem clip_1 {p q y : Nat} (h : lessB y p = true) : clipV p q y = p := by unfold clipV; rw [if_pos h]
theorem clip_2 {p q y : Nat} (h : lessB y p = false) (h2 : lessB q y = true) : clipV p q y = q := by unfold clipV; rw [h, h2]; rfl
theorem clip_3 {p q y : Nat} (h : lessB y p = false) (h2 : lessB q y = false) : clipV p q y = y := by unfold clipV; rw [h, h2]; rfl

end Go.Proofs.YtieojgblamkgoaaGreatDoor
/- Plain facts: a piece of a curve in binary64: what is reckoned is finite, and no greater than a sample may be. -/
namespace Go.Proofs.YtieojgblamkgoaaGreatDoor
open Go.RowKit

theorem vN_rel {M : Nat} (hM : M.log2 ≤ 2000) : val64 (rungOf Ieee.double M (-1074)) * 2 ^ 53 ≤ M * (2 ^ 53 + 1) := by
  rw [vN_eq hM]
  have h := (rne_near M (lostK M)).1
  rcases Nat.eq_zero_or_pos (lostK M) with g | g
  · rw [g, rne_zero, Nat.pow_zero, Nat.mul_one]; omega
  · have h0 : M ≠ 0 := by intro h0; subst h0; exact absurd g (by decide)
    have h1 := Nat.log2_self_le h0
    rw [show M.log2 = 52 + lostK M by unfold lostK at *; omega, Nat.pow_add] at h1
    omega
theorem vN_rel2 {M : Nat} (hM : M.log2 ≤ 2000) : M * (2 ^ 53 - 1) ≤ val64 (rungOf Ieee.double M (-1074)) * 2 ^ 53 := by
  rw [vN_eq hM]
  have h := (rne_near M (lostK M)).2
  rcases Nat.eq_zero_or_pos (lostK M) with g | g
  · rw [g, rne_zero, Nat.pow_zero, Nat.mul_one]; omega
  · have h0 : M ≠ 0 := by intro h0; subst h0; exact absurd g (by decide)
    have h1 := Nat.log2_self_le h0
    rw [show M.log2 = 52 + lostK M by unfold lostK at *; omega, Nat.pow_add] at h1
    omega
theorem vN_mono {M N : Nat} (h : M ≤ N) : val64 (rungOf Ieee.double M (-1074)) ≤ val64 (rungOf Ieee.double N (-1074)) := val_le64 (rung_mono _ _ h)
theorem RN_mono {Y Z : Int} (h : Y ≤ Z) : RN Y ≤ RN Z := by
  unfold RN
  by_cases hy : Y < 0
  · rw [if_pos hy]
    by_cases hz : Z < 0
    · rw [if_pos hz]
      have := vN_mono (show Z.natAbs ≤ Y.natAbs by omega)
      omega
    · rw [if_neg hz]; omega
  · rw [if_neg hy, if_neg (by omega)]
    have := vN_mono (show Y.natAbs ≤ Z.natAbs by omega)
    omega
theorem RN_pow (k : Nat) (hk : k ≤ 1900) : RN ((2 ^ k : Nat) : Int) = (2 ^ k : Nat) := by
  refine RN_exact (g := k) ?_ (Int.dvd_refl _) ?_
  · rw [Int.natAbs_natCast, Nat.log2_two_pow]; omega
  · rw [Int.natAbs_natCast]; exact Nat.pow_lt_pow_right (by decide) (by omega)

/-- How a word of a normal number is made up. -/
theorem plc_of {r k : Nat} (h : 2 ^ k ≤ val64 r) : k < 53 + plc64 r := by
  have hm := mag_lt64 r
  have h1 : val64 r < 2 ^ (53 + plc64 r) := by
    unfold val64; rw [Nat.pow_add]; exact Nat.mul_lt_mul_of_pos_right hm (Nat.two_pow_pos _)
  exact (Nat.pow_lt_pow_iff_right (by decide : 1 < 2)).1 (Nat.lt_of_le_of_lt h h1)
theorem plc_to {r k : Nat} (hp : 0 < plc64 r) (h : val64 r < 2 ^ k) : 52 + plc64 r < k := by
  have hm := mag_ge64 hp
  have h1 : 2 ^ (52 + plc64 r) ≤ val64 r := by
    unfold val64; rw [Nat.pow_add]; exact Nat.mul_le_mul_right _ hm
  exact (Nat.pow_lt_pow_iff_right (by decide : 1 < 2)).1 (Nat.lt_of_le_of_lt h1 h)
theorem log_mag {r : Nat} (hp : 0 < plc64 r) : (mag64 r).log2 = 52 := by
  have h1 := mag_ge64 hp
  have h2 := mag_lt64 r
  exact (Nat.log2_eq_iff (by omega)).2 ⟨h1, h2⟩

theorem vN_pow (k : Nat) (hk : k ≤ 1900) : val64 (rungOf Ieee.double (2 ^ k) (-1074)) = 2 ^ k := by
  refine vN_exact (g := k) ?_ (Nat.dvd_refl _) ?_
  · rw [Nat.log2_two_pow]; omega
  · exact Nat.pow_lt_pow_right (by decide) (by omega)
theorem log_lt {n k : Nat} (h : n < 2 ^ k) (hk : k ≤ 2000) : n.log2 ≤ 2000 := by
  by_cases h0 : n = 0
  · subst h0; decide
  · have := (Nat.log2_lt h0).2 h; omega
/-- The word of a number of least units that is not below 0. -/
theorem word_pos (M : Nat) {a b : Nat} (h0 : 2 ^ a ≤ M) (h1 : M < 2 ^ b) (hb : b ≤ 1900) :
    rung64 (wordOf false M) < 9218868437227405312 ∧ sgn64 (wordOf false M) = false ∧ val64 (rung64 (wordOf false M)) = val64 (rungOf Ieee.double M (-1074)) ∧
      2 ^ a ≤ val64 (rung64 (wordOf false M)) ∧ val64 (rung64 (wordOf false M)) ≤ 2 ^ b ∧ val64 (rung64 (wordOf false M)) * 2 ^ 53 ≤ M * (2 ^ 53 + 1) := by
  have hl := log_lt h1 (by omega)
  have hab : a < b := (Nat.pow_lt_pow_iff_right (by decide : 1 < 2)).1 (Nat.lt_of_le_of_lt h0 h1)
  obtain ⟨e1, e2, e3, _⟩ := wordOf_facts (σ := false) (Z := (M : Int)) (by rw [Int.natAbs_natCast]; exact hl) (fun _ => (decide_eq_false (by omega)).symm)
  rw [Int.natAbs_natCast] at e1
  rw [e1]
  refine ⟨by rw [← e1]; exact e3, e2, rfl, ?_, ?_, vN_rel hl⟩
  · have := vN_mono h0; rwa [vN_pow a (by omega)] at this
  · have := vN_mono (Nat.le_of_lt h1); rwa [vN_pow b (by omega)] at this
/-- A positive quotient of normal numbers. -/
theorem quo_pos {x y E : Nat} (hE : E = 1074) (hx : rung64 x < 9218868437227405312) (hy : rung64 y < 9218868437227405312) (sx : sgn64 x = false) (sy : sgn64 y = false)
    (px : 872 < plc64 (rung64 x)) (qx : plc64 (rung64 x) < 1158) (py : 872 < plc64 (rung64 y)) (qy : plc64 (rung64 y) < 1158) :
    ∃ r, floatBits .quo .f64 x y = some r ∧ rung64 r < 9218868437227405312 ∧ sgn64 r = false ∧ 700 < plc64 (rung64 r) ∧ plc64 (rung64 r) < 1330 ∧
      val64 (rung64 r) * val64 (rung64 y) * 2 ^ 107 ≤ val64 (rung64 x) * 2 ^ E * ((2 ^ 54 + 1) * (2 ^ 53 + 1)) := by
  have lx := log_mag (r := rung64 x) (by omega)
  have ly := log_mag (r := rung64 y) (by omega)
  have mx := mag_ge64 (r := rung64 x) (by omega)
  have my := mag_ge64 (r := rung64 y) (by omega)
  have nx := mag_lt64 (rung64 x)
  have ny := mag_lt64 (rung64 y)
  have rx := read_fin64 hx
  have ry := read_fin64 hy
  have vx : val64 (rung64 x) = mag64 (rung64 x) * 2 ^ plc64 (rung64 x) := rfl
  have vy : val64 (rung64 y) = mag64 (rung64 y) * 2 ^ plc64 (rung64 y) := rfl
  rw [vx, vy]
  rw [sx] at rx
  rw [sy] at ry
  clear vx vy
  generalize mag64 (rung64 x) = m at *
  generalize mag64 (rung64 y) = n at *
  generalize plc64 (rung64 x) = i at *
  generalize plc64 (rung64 y) = j at *
  obtain ⟨q, hq⟩ : ∃ q, q = m * 2 ^ 54 / n := ⟨_, rfl⟩
  obtain ⟨S, hS⟩ : ∃ S, S = 2 * (m * 2 ^ 54 / n) + (m * 2 ^ 54 % n != 0).toNat := ⟨_, rfl⟩
  have hq1 : q * n ≤ m * 2 ^ 54 := by rw [hq]; exact Nat.div_mul_le_self _ _
  have hq0 : 2 ^ 53 ≤ q := by
    rw [hq, Nat.le_div_iff_mul_le (by omega)]; omega
  have hq2 : q < 2 ^ 56 := by
    rw [hq, Nat.div_lt_iff_lt_mul (by omega)]; omega
  have hc : (m * 2 ^ 54 % n != 0).toNat ≤ 1 := Bool.toNat_le _
  rw [← hq] at hS
  have S0 : 2 ^ 54 ≤ S := by omega
  have S1 : S < 2 ^ 58 := by omega
  have S2 : S * n * 2 ^ 53 ≤ m * 2 ^ 54 * (2 ^ 54 + 1) := by
    have : S * n ≤ 2 * (m * 2 ^ 54) + n := by
      have h1 : S * n ≤ (2 * q + 1) * n := Nat.mul_le_mul_right _ (by omega)
      have h2 : (2 * q + 1) * n = 2 * (q * n) + n := by rw [Nat.add_mul, Nat.one_mul, Nat.mul_assoc]
      omega
    omega
  obtain ⟨K, hK⟩ : ∃ K : Nat, K + j = i + 1019 := ⟨i + 1019 - j, by omega⟩
  have hb : S * 2 ^ K < 2 ^ (58 + K) := by rw [Nat.pow_add]; exact Nat.mul_lt_mul_of_pos_right S1 (Nat.two_pow_pos _)
  have ha : 2 ^ (54 + K) ≤ S * 2 ^ K := by rw [Nat.pow_add]; exact Nat.mul_le_mul_right _ S0
  obtain ⟨f1, f2, _, f4, f5, f6⟩ := word_pos (S * 2 ^ K) ha hb (by omega)
  have f7 := plc_of f4
  have f8 := plc_to (k := 59 + K) (by omega) (Nat.lt_of_le_of_lt f5 (Nat.pow_lt_pow_right (by decide) (by omega)))
  refine ⟨wordOf false ((S * 2 ^ K : Nat) : Int), ?_, f1, f2, by omega, by omega, ?_⟩
  · show ((Ieee.double.read x).quotient 54 (Ieee.double.read y)).map Ieee.double.write = _
    rw [rx, ry]
    simp only [Ieee.Datum.quotient]
    rw [if_neg (by omega), lx, ly, Nat.shiftLeft_eq]
    show some (Ieee.double.nearest _ _ _) = _
    rw [nearest_rung]
    unfold wordOf
    rw [Int.natAbs_natCast, rung_scale, hS, hq]
    congr 3
    omega
  · generalize val64 (rung64 (wordOf false ((S * 2 ^ K : Nat) : Int))) = v at f6
    have e1 : 2 ^ (i + 1020) = 2 ^ K * 2 ^ j * 2 := by rw [← Nat.pow_add, hK, ← Nat.pow_succ]
    have e2 : 2 ^ i * 2 ^ E = 2 ^ 54 * 2 ^ (i + 1020) := by rw [← Nat.pow_add, ← Nat.pow_add, show i + E = 54 + (i + 1020) by omega]
    generalize 2 ^ (i + 1020) = Y at e1 e2
    generalize 2 ^ E = W at e2
    generalize 2 ^ i = I at e2
    clear hE hK f1 f2 f4 f5 f7 f8 ha hb hS hq hq1 hq0 hq2 hc S0 S1 rx ry
    generalize 2 ^ K = A at e1 f6
    generalize 2 ^ j = B at e1
    have g1 : v * 2 ^ 53 * (n * B * 2 ^ 54) ≤ S * A * (2 ^ 53 + 1) * (n * B * 2 ^ 54) := Nat.mul_le_mul_right _ f6
    have g2 : S * A * (2 ^ 53 + 1) * (n * B * 2 ^ 54) = S * n * 2 ^ 53 * (Y * (2 ^ 53 + 1)) := by
      rw [e1, show (2 : Nat) ^ 54 = 2 ^ 53 * 2 from rfl]; ac_rfl
    have g3 : S * n * 2 ^ 53 * (Y * (2 ^ 53 + 1)) ≤ m * 2 ^ 54 * (2 ^ 54 + 1) * (Y * (2 ^ 53 + 1)) := Nat.mul_le_mul_right _ S2
    have g4 : m * 2 ^ 54 * (2 ^ 54 + 1) * (Y * (2 ^ 53 + 1)) = m * I * W * ((2 ^ 54 + 1) * (2 ^ 53 + 1)) := by
      rw [Nat.mul_assoc m I, e2]; ac_rfl
    have g5 : v * (n * B) * 2 ^ 107 = v * 2 ^ 53 * (n * B * 2 ^ 54) := by
      rw [show (2 : Nat) ^ 107 = 2 ^ 53 * 2 ^ 54 from rfl]; ac_rfl
    rw [g5, ← g4]
    exact Nat.le_trans g1 (Nat.le_trans (Nat.le_of_eq g2) g3)

/-- A product of normal numbers that are not below 0. -/
theorem mul_pos {x y E : Nat} (hE : E = 1074) (hx : rung64 x < 9218868437227405312) (hy : rung64 y < 9218868437227405312) (sx : sgn64 x = false) (sy : sgn64 y = false)
    (px : 872 < plc64 (rung64 x)) (qx : plc64 (rung64 x) < 1158) (py : 700 < plc64 (rung64 y)) (qy : plc64 (rung64 y) < 1330) :
    ∃ N, N * 2 ^ E = val64 (rung64 x) * val64 (rung64 y) ∧ N.log2 ≤ 1900 ∧ floatBits .mul .f64 x y = some (wordOf false (N : Int)) ∧ rung64 (wordOf false N) < 9218868437227405312 ∧ sgn64 (wordOf false N) = false ∧
      val64 (rung64 (wordOf false N)) = val64 (rungOf Ieee.double N (-1074)) ∧ val64 (rung64 (wordOf false N)) * 2 ^ 53 ≤ N * (2 ^ 53 + 1) := by
  have mx := mag_ge64 (r := rung64 x) (by omega)
  have my := mag_ge64 (r := rung64 y) (by omega)
  have nx := mag_lt64 (rung64 x)
  have ny := mag_lt64 (rung64 y)
  have rx := read_fin64 hx
  have ry := read_fin64 hy
  have vx : val64 (rung64 x) = mag64 (rung64 x) * 2 ^ plc64 (rung64 x) := rfl
  have vy : val64 (rung64 y) = mag64 (rung64 y) * 2 ^ plc64 (rung64 y) := rfl
  rw [vx, vy]
  rw [sx] at rx
  rw [sy] at ry
  clear vx vy
  generalize mag64 (rung64 x) = m at *
  generalize mag64 (rung64 y) = n at *
  generalize plc64 (rung64 x) = i at *
  generalize plc64 (rung64 y) = j at *
  obtain ⟨K, hK⟩ : ∃ K : Nat, K + E = i + j := ⟨i + j - E, by omega⟩
  have h0 : 2 ^ 104 ≤ m * n := Nat.le_trans (by decide) (Nat.mul_le_mul mx my)
  have h1 : m * n < 2 ^ 106 := Nat.lt_of_lt_of_le (Nat.mul_lt_mul'' nx ny) (by decide)
  have ha : 2 ^ (104 + K) ≤ m * n * 2 ^ K := by rw [Nat.pow_add]; exact Nat.mul_le_mul_right _ h0
  have hb : m * n * 2 ^ K < 2 ^ (106 + K) := by rw [Nat.pow_add]; exact Nat.mul_lt_mul_of_pos_right h1 (Nat.two_pow_pos _)
  obtain ⟨f1, f2, f3, _, _, f6⟩ := word_pos (m * n * 2 ^ K) ha hb (by omega)
  refine ⟨m * n * 2 ^ K, ?_, ?_, ?_, f1, f2, f3, f6⟩
  · rw [Nat.mul_assoc, ← Nat.pow_add, hK, Nat.pow_add]; ac_rfl
  · have := (Nat.log2_lt (n := m * n * 2 ^ K) (by have := Nat.two_pow_pos (104 + K); omega)).2 hb; omega
  · show ((Ieee.double.read x).product (Ieee.double.read y)).map Ieee.double.write = _
    rw [rx, ry]
    show some (Ieee.double.nearest (false ^^ false) (m * n) (-1074 + (i : Int) + (-1074 + (j : Int)))) = _
    rw [nearest_rung]
    unfold wordOf
    rw [Int.natAbs_natCast, rung_scale, show -1074 + (i : Int) + (-1074 + (j : Int)) = -1074 + (K : Int) by omega]
    rfl
end Go.Proofs.YtieojgblamkgoaaGreatDoor
/- Plain facts: a piece of a curve in binary64. -/
namespace Go.Proofs.YtieojgblamkgoaaGreatDoor
open Go.RowKit

theorem sampleZ_eq (a : Nat) {c : Nat} (hc : c = 925) : sampleZ a = sval32 a * 2 ^ c := by
  unfold sampleZ sval32 val32 Ieee.signed
  rw [← hc, Nat.shiftLeft_eq, Nat.pow_add, ← Nat.mul_assoc]
  split
  · rw [Int.neg_mul, Int.natCast_mul, Int.natCast_pow]; rfl
  · rw [Int.natCast_mul, Int.natCast_pow]; rfl
theorem sampleZ_lt_iff (a b : Nat) : sampleZ a < sampleZ b ↔ srung32 a < srung32 b := by
  obtain ⟨c, hc⟩ : ∃ c : Nat, c = 925 := ⟨_, rfl⟩
  rw [sampleZ_eq a hc, sampleZ_eq b hc]
  have hp : (0 : Int) < 2 ^ c := Int.pow_pos (by decide)
  have h := sval_srung32 a b
  rw [Int.mul_lt_mul_right hp]
  rw [← Int.compare_eq_lt, h, Int.compare_eq_lt]
theorem sampleZ_bd {a : Nat} (h : rung32 a < 2139095040) {F : Nat} (hF : F = 1176) : -((67108860 * 2 ^ F : Nat) : Int) ≤ sampleZ a ∧ sampleZ a ≤ ((67108860 * 2 ^ F : Nat) : Int) := by
  have hm := mag_lt32 (rung32 a)
  have hp := plc_le32 h
  have e : (sampleZ a).natAbs ≤ 67108860 * 2 ^ F := by
    unfold sampleZ
    rw [signed_abs]
    have h1 : mag32 (rung32 a) * 2 ^ (plc32 (rung32 a) + 925) ≤ 16777215 * 2 ^ (2 + F) := Nat.mul_le_mul (by omega) (Nat.pow_le_pow_right (by decide) (by omega))
    have e : 2 ^ (2 + F) = 4 * 2 ^ F := by rw [Nat.pow_add]
    rw [e] at h1
    omega
  omega

/-- A positive difference of samples. -/
theorem sub_pos {a b : Nat} (ha : rung32 a < 2139095040) (hb : rung32 b < 2139095040) (h : sampleZ b < sampleZ a) :
    ∃ M : Nat, (M : Int) = sampleZ a - sampleZ b ∧ M.log2 ≤ 1900 ∧ floatBits .sub .f64 (wideN a) (wideN b) = some (wordOf false (M : Int)) ∧ rung64 (wordOf false M) < 9218868437227405312 ∧ sgn64 (wordOf false M) = false ∧
      872 < plc64 (rung64 (wordOf false M)) ∧ plc64 (rung64 (wordOf false M)) < 1158 ∧ val64 (rung64 (wordOf false M)) = val64 (rungOf Ieee.double M (-1074)) ∧ val64 (rung64 (wordOf false M)) * 2 ^ 53 ≤ M * (2 ^ 53 + 1) := by
  obtain ⟨c, hc⟩ : ∃ c : Nat, c = 925 := ⟨_, rfl⟩
  obtain ⟨F, hF⟩ : ∃ F : Nat, F = 1176 := ⟨_, rfl⟩
  obtain ⟨a0, a1⟩ := sampleZ_bd ha hF
  obtain ⟨b0, b1⟩ := sampleZ_bd hb hF
  obtain ⟨f1, s1, v1⟩ := wide_fin ha
  obtain ⟨f2, s2, v2⟩ := wide_fin hb
  obtain ⟨M, hM⟩ : ∃ M : Nat, (M : Int) = sampleZ a - sampleZ b := ⟨(sampleZ a - sampleZ b).toNat, by omega⟩
  have hd : 2 ^ c ∣ M := by
    have : ((2 ^ c : Nat) : Int) ∣ (M : Int) := by
      rw [hM]
      exact Int.dvd_sub (signed_dvd _ _ (by omega)) (signed_dvd _ _ (by omega))
    exact Int.natCast_dvd_natCast.1 this
  have h0 : 2 ^ c ≤ M := Nat.le_of_dvd (by omega) hd
  have h1 : M < 2 ^ (27 + F) := by
    rw [Nat.pow_add]
    have := Nat.two_pow_pos F
    omega
  obtain ⟨g1, g2, g3, g4, g5, g6⟩ := word_pos M h0 h1 (by omega)
  have g7 := plc_of g4
  have g8 := plc_to (k := 28 + F) (by omega) (Nat.lt_of_le_of_lt g5 (Nat.pow_lt_pow_right (by decide) (by omega)))
  refine ⟨M, hM, ?_, ?_, g1, g2, by omega, by omega, g3, g6⟩
  · have := (Nat.log2_lt (n := M) (by have := Nat.two_pow_pos c; omega)).2 h1; omega
  · rw [sub_fin f1 f2, v1, v2, ← hM, sg_of (by have := Nat.two_pow_pos c; omega), decide_eq_false (by omega)]

theorem val_lim {F : Nat} (hF : F = 1176) : val64 5183643170835005440 = 67108862 * 2 ^ F := by
  have e1 : mag64 5183643170835005440 = 67108862 * 2 ^ 27 := by decide
  obtain ⟨J, hJ⟩ : ∃ J, J = plc64 5183643170835005440 := ⟨_, rfl⟩
  have e2 : plc64 5183643170835005440 = 1149 := by decide
  unfold val64
  rw [e1, ← hJ, Nat.mul_assoc, ← Nat.pow_add, show 27 + J = F by omega]

theorem piece_key {t N W a d s h M : Nat} (hW : 0 < W) (wT : t * 2 ^ 53 ≤ N * (2 ^ 53 + 1)) (eN : N * W = a * s) (hm : a ≤ d) (wS : s * d * 2 ^ 107 ≤ h * W * ((2 ^ 54 + 1) * (2 ^ 53 + 1))) (wh : h * 2 ^ 53 ≤ M * (2 ^ 53 + 1)) : t * 2 ^ 50 ≤ M * (2 ^ 50 + 1) := by
  have c1 : (2 ^ 53 + 1) * ((2 ^ 54 + 1) * (2 ^ 53 + 1) * (2 ^ 53 + 1)) ≤ (2 ^ 50 + 1) * 2 ^ 163 := by decide
  have c2 : 2 ^ 53 * 2 ^ 107 * 2 ^ 53 = 2 ^ 50 * 2 ^ 163 := by decide
  generalize hA : 2 ^ 53 + 1 = A at *
  generalize hB : 2 ^ 54 + 1 = B at *
  generalize hP : (2 : Nat) ^ 53 = P at wT wh c2
  generalize hR : (2 : Nat) ^ 107 = R at wS c2
  generalize hC : 2 ^ 50 + 1 = C at *
  generalize hD : (2 : Nat) ^ 50 = D at c2 ⊢
  have hG : 0 < (2 : Nat) ^ 163 := by decide
  generalize (2 : Nat) ^ 163 = G at c1 c2 hG
  clear hA hB hP hR hC hD
  have k1 : t * P * W * R ≤ N * A * W * R := Nat.mul_le_mul_right _ (Nat.mul_le_mul_right _ wT)
  have k2 : N * A * W * R = a * s * A * R := by rw [← eN]; ac_rfl
  have k3 : a * s * A * R ≤ d * s * A * R := Nat.mul_le_mul_right _ (Nat.mul_le_mul_right _ (Nat.mul_le_mul_right _ hm))
  have k4 : d * s * A * R = s * d * R * A := by ac_rfl
  have k5 : s * d * R * A ≤ h * W * (B * A) * A := Nat.mul_le_mul_right _ wS
  have k6 : t * P * R * W ≤ h * (B * A * A) * W := by
    have e1 : t * P * R * W = t * P * W * R := by ac_rfl
    have e2 : h * (B * A * A) * W = h * W * (B * A) * A := by ac_rfl
    rw [e1, e2]
    exact Nat.le_trans k1 (Nat.le_trans (Nat.le_of_eq k2) (Nat.le_trans k3 (Nat.le_trans (Nat.le_of_eq k4) k5)))
  have k7 := Nat.le_of_mul_le_mul_right k6 hW
  have k8 : t * P * R * P ≤ h * (B * A * A) * P := Nat.mul_le_mul_right _ k7
  have k9 : h * (B * A * A) * P ≤ M * A * (B * A * A) := by
    have e : h * (B * A * A) * P = h * P * (B * A * A) := by ac_rfl
    rw [e]; exact Nat.mul_le_mul_right _ wh
  have k10 : M * A * (B * A * A) ≤ M * (C * G) := by rw [Nat.mul_assoc]; exact Nat.mul_le_mul_left _ c1
  have e1 : t * P * R * P = t * D * G := by
    rw [Nat.mul_assoc t D, ← c2]; ac_rfl
  refine Nat.le_of_mul_le_mul_right ?_ hG
  rw [← e1]
  have e2 : M * C * G = M * (C * G) := Nat.mul_assoc ..
  rw [e2]
  exact Nat.le_trans k8 (Nat.le_trans k9 k10)

/-- What is reckoned between two knots. -/
theorem piece {px py qx qy x : Nat} (ha : rung32 px < 2139095040) (hb : rung32 py < 2139095040) (hc : rung32 qx < 2139095040) (hd : rung32 qy < 2139095040) (hx : rung32 x < 2139095040)
    (h1 : sampleZ px < sampleZ x) (h2 : sampleZ x < sampleZ qx) (h3 : sampleZ py < sampleZ qy) {E : Nat} (hE : E = 1074) :
    ∃ A H D S T V M N : Nat, floatBits .sub .f64 (wideN x) (wideN px) = some A ∧ floatBits .sub .f64 (wideN qy) (wideN py) = some H ∧ floatBits .sub .f64 (wideN qx) (wideN px) = some D ∧
      floatBits .quo .f64 H D = some S ∧ floatBits .mul .f64 A S = some T ∧ floatBits .add .f64 (wideN py) T = some V ∧ rung64 V < 5183643170835005440 ∧
      (M : Int) = sampleZ x - sampleZ px ∧ N * 2 ^ E = val64 (rungOf Ieee.double M (-1074)) * val64 (rung64 S) ∧ sval64 V = RN (sampleZ py + val64 (rungOf Ieee.double N (-1074))) := by
  obtain ⟨F, hF⟩ : ∃ F : Nat, F = 1176 := ⟨_, rfl⟩
  obtain ⟨Mx, ex, lx, fx, rx, sx, px1, px2, vx, wx⟩ := sub_pos hx ha h1
  obtain ⟨Mh, eh, lh, fh, rh, sh, ph1, ph2, vh, wh⟩ := sub_pos hd hb h3
  obtain ⟨Md, ed, ld, fd, rd, sd, pd1, pd2, vd, wd'⟩ := sub_pos hc ha (by omega)
  obtain ⟨S, fS, rS, sS, pS1, pS2, wS⟩ := quo_pos hE rh rd sh sd ph1 ph2 pd1 pd2
  obtain ⟨N, eN, lN, fT, rT, sT, vT, wT⟩ := mul_pos hE rx rS sx sS px1 px2 pS1 pS2
  obtain ⟨y0, y1⟩ := sampleZ_bd hb hF
  obtain ⟨z0, z1⟩ := sampleZ_bd hd hF
  obtain ⟨fy, sy, vy⟩ := wide_fin hb
  have hmono := vN_mono (show Mx ≤ Md by omega)
  rw [vx] at wx eN
  rw [vd] at wS
  rw [vh] at wS wh
  rw [vT] at wT
  obtain ⟨a, ea⟩ : ∃ a, a = val64 (rungOf Ieee.double Mx (-1074)) := ⟨_, rfl⟩
  obtain ⟨d, ed'⟩ : ∃ d, d = val64 (rungOf Ieee.double Md (-1074)) := ⟨_, rfl⟩
  obtain ⟨h, eh'⟩ : ∃ h, h = val64 (rungOf Ieee.double Mh (-1074)) := ⟨_, rfl⟩
  obtain ⟨s, hs⟩ : ∃ s, s = val64 (rung64 S) := ⟨_, rfl⟩
  obtain ⟨t, ht⟩ : ∃ t, t = val64 (rungOf Ieee.double N (-1074)) := ⟨_, rfl⟩
  have hst : sval64 (wordOf false (N : Int)) = (t : Int) := by
    unfold sval64; rw [sT, vT, ← ht]; rfl
  rw [← hs] at wS eN
  rw [← ht] at wT
  rw [← ea, ← ed'] at hmono
  rw [← ea] at eN
  rw [← ed', ← eh'] at wS
  rw [← eh'] at wh
  have key : t * 2 ^ 50 ≤ Mh * (2 ^ 50 + 1) := piece_key (Nat.two_pow_pos E) wT eN hmono wS wh
  have hZ0 : -((67108860 * 2 ^ F : Nat) : Int) ≤ sampleZ py + (t : Int) := by omega
  have hZ1 : sampleZ py + (t : Int) ≤ ((67108861 * 2 ^ F : Nat) : Int) := by omega
  have hl : (sampleZ py + (t : Int)).natAbs.log2 ≤ 2000 := by
    refine log_lt (k := 26 + F) ?_ (by omega)
    rw [Nat.pow_add]
    have := Nat.two_pow_pos F
    omega
  have exact1 : ∀ m : Nat, m < 2 ^ 27 → RN ((m * 2 ^ F : Nat) : Int) = ((m * 2 ^ F : Nat) : Int) := by
    intro m hm
    have h1 : m * 2 ^ F < 2 ^ (27 + F) := by rw [Nat.pow_add]; exact Nat.mul_lt_mul_of_pos_right hm (Nat.two_pow_pos _)
    refine RN_exact (g := F) ?_ (Int.natCast_dvd_natCast.2 (Nat.dvd_mul_left _ _)) ?_
    · rw [Int.natAbs_natCast]; exact log_lt h1 (by omega)
    · rw [Int.natAbs_natCast]; exact Nat.lt_of_lt_of_le h1 (Nat.pow_le_pow_right (by decide) (by omega))
  have exact2 : RN (-((67108860 * 2 ^ F : Nat) : Int)) = -((67108860 * 2 ^ F : Nat) : Int) := by
    have h1 : 67108860 * 2 ^ F < 2 ^ (27 + F) := by rw [Nat.pow_add]; exact Nat.mul_lt_mul_of_pos_right (by decide) (Nat.two_pow_pos _)
    refine RN_exact (g := F) ?_ (Int.dvd_neg.2 (Int.natCast_dvd_natCast.2 (Nat.dvd_mul_left _ _))) ?_
    · rw [Int.natAbs_neg, Int.natAbs_natCast]; exact log_lt h1 (by omega)
    · rw [Int.natAbs_neg, Int.natAbs_natCast]; exact Nat.lt_of_lt_of_le h1 (Nat.pow_le_pow_right (by decide) (by omega))
  have r0 := RN_mono hZ0
  have r1 := RN_mono hZ1
  rw [exact1 67108861 (by decide)] at r1
  rw [exact2] at r0
  obtain ⟨_, _, w3, w4⟩ := wordOf_facts (σ := sg (sgn64 (wideN py)) (sgn64 (wordOf false (N : Int))) (sampleZ py + (t : Int))) hl sg_of
  have fV := add_fin fy rT
  rw [vy, hst] at fV
  refine ⟨_, _, _, S, _, _, Mx, N, fx, fh, fd, fS, fT, fV, ?_, ex, by rw [← hs, ← ea]; exact eN, by rw [← ht]; exact w4⟩
  rw [← val_inj_lt64, val_lim hF, ← val_abs, w4]
  omega
end Go.Proofs.YtieojgblamkgoaaGreatDoor
/- What a curve's At answers. -/
namespace Go.Proofs.YtieojgblamkgoaaGreatDoor
open Go.RowKit

/-- What is reckoned between two knots, as a word of 64 bits. -/
def pieceB (px py qx qy x : Nat) : Nat :=
  ((floatBits .sub .f64 (wideN x) (wideN px)).bind fun A => (floatBits .sub .f64 (wideN qy) (wideN py)).bind fun H => (floatBits .sub .f64 (wideN qx) (wideN px)).bind fun D =>
    (floatBits .quo .f64 H D).bind fun S => (floatBits .mul .f64 A S).bind fun T => floatBits .add .f64 (wideN py) T).getD 0
theorem pieceB_eq {px py qx qy x A H D S T V : Nat} (hA : floatBits .sub .f64 (wideN x) (wideN px) = some A) (hH : floatBits .sub .f64 (wideN qy) (wideN py) = some H) (hD : floatBits .sub .f64 (wideN qx) (wideN px) = some D)
    (hS : floatBits .quo .f64 H D = some S) (hT : floatBits .mul .f64 A S = some T) (hV : floatBits .add .f64 (wideN py) T = some V) : pieceB px py qx qy x = V := by
  unfold pieceB
  rw [hA, hH, hD]
  show ((floatBits .quo .f64 H D).bind fun S => (floatBits .mul .f64 A S).bind fun T => floatBits .add .f64 (wideN py) T).getD 0 = V
  rw [hS]
  show ((floatBits .mul .f64 A S).bind fun T => floatBits .add .f64 (wideN py) T).getD 0 = V
  rw [hT]
  show (floatBits .add .f64 (wideN py) T).getD 0 = V
  rw [hV]; rfl
def pieceV (px py qx qy x : Nat) : Nat := if equalB py qy = true then py else clipV py qy (toldD (some (Ieee.double.read (pieceB px py qx qy x))))

/-- Knots that may be a curve's. -/
structure COk (l : List (Nat × Nat)) : Prop where
  two : 2 ≤ l.length
  many : l.length ≤ 64
  lt : ∀ i, kx l i < 4294967296 ∧ ky l i < 4294967296
  fin : ∀ i, i < l.length → rung32 (kx l i) < 2139095040 ∧ rung32 (ky l i) < 2139095040
  rise : ∀ i, i + 1 < l.length → srung32 (kx l i) < srung32 (kx l (i + 1)) ∧ srung32 (ky l i) ≤ srung32 (ky l (i + 1))

/-- How many knots are not above x, by halves. -/
def aboveV (l : List (Nat × Nat)) (x : Nat) : Nat := bis (fun i => lessB x (kx l i)) l.length 0 l.length
/-- At. -/
def atV (l : List (Nat × Nat)) (x : Nat) : Nat :=
  if nanN x = true then 2143289344
  else if aboveV l x = 0 then ky l 0
  else if aboveV l x = l.length ∨ equalB (kx l (aboveV l x - 1)) x = true then ky l (aboveV l x - 1)
  else pieceV (kx l (aboveV l x - 1)) (ky l (aboveV l x - 1)) (kx l (aboveV l x)) (ky l (aboveV l x)) x
theorem above_facts (l : List (Nat × Nat)) (x : Nat) : aboveV l x ≤ l.length ∧ (aboveV l x = l.length ∨ lessB x (kx l (aboveV l x)) = true) ∧ (aboveV l x = 0 ∨ lessB x (kx l (aboveV l x - 1)) = false) := by
  obtain ⟨_, a, b, c⟩ := bis_facts (fun i => lessB x (kx l i)) (l.length - 0) 0 l.length rfl (Nat.zero_le _)
  exact ⟨a, b, c⟩
theorem lessB_num {a b : Nat} (ha : nanN a = false) (hb : nanN b = false) : lessB a b = decide (srung32 a < srung32 b) := by
  rw [nanN_rung] at ha hb
  have ha := of_decide_eq_false ha
  have hb := of_decide_eq_false hb
  unfold lessB
  rw [order_num32 (by omega) (by omega), cmp_lt]
theorem equalB_num {a b : Nat} (ha : nanN a = false) (hb : nanN b = false) : equalB a b = decide (srung32 a = srung32 b) := by
  rw [nanN_rung] at ha hb
  have ha := of_decide_eq_false ha
  have hb := of_decide_eq_false hb
  unfold equalB
  rw [order_num32 (by omega) (by omega), cmp_eq]
theorem fin_nan {a : Nat} (h : rung32 a < 2139095040) : nanN a = false := by rw [nanN_rung]; exact decide_eq_false (by omega)
theorem wideW_num {a : Nat} (h : nanN a = false) : wideW a = wideN a := by unfold wideW; rw [h]; rfl

/-- A curve lies in memory. -/
structure CIs (w : World) (b o : Nat) (l : List (Nat × Nat)) : Prop where
  it : ∃ g o' cap, w.cell? ⟨b, o, none⟩ = some (.slice (some ⟨g, o', none⟩) l.length cap) ∧ l.length ≤ cap ∧ KIs w g o' l
theorem CIs.next {w w' : World} {b o : Nat} {l : List (Nat × Nat)} (h : CIs w b o l) (q : Q w w') : CIs w' b o l := by
  obtain ⟨g, o', cap, h1, h2, h3⟩ := h.it
  exact ⟨g, o', cap, q.cell h1, h2, h3.next q⟩

theorem cell_1 {w : World} {a : Addr} {v : Value} (h : w.cell? a = some v) (c : Array Value) (t : TypeId) : (w.alloc (.cells c t)).cell? a = some v := ((Q.refl w).cells c t).cell h
theorem cell_2 {w : World} {a : Addr} {v : Value} (h : w.cell? a = some v) (c : Array Value) (t : TypeId) (c' : Array Value) (t' : TypeId) : ((w.alloc (.cells c t)).alloc (.cells c' t')).cell? a = some v := (((Q.refl w).cells c t).cells c' t').cell h
theorem atV_nan {l : List (Nat × Nat)} {x : Nat} (h : nanN x = true) : atV l x = 2143289344 := by unfold atV; rw [if_pos h]
theorem atV_lo {l : List (Nat × Nat)} {x : Nat} (h : nanN x = false) (h0 : aboveV l x = 0) : atV l x = ky l 0 := by unfold atV; rw [if_neg (by rw [h]; decide), if_pos h0]
theorem atV_knot {l : List (Nat × Nat)} {x : Nat} (h : nanN x = false) (h0 : aboveV l x ≠ 0) (h1 : aboveV l x = l.length ∨ equalB (kx l (aboveV l x - 1)) x = true) : atV l x = ky l (aboveV l x - 1) := by
  unfold atV; rw [if_neg (by rw [h]; decide), if_neg h0, if_pos h1]
theorem atV_in {l : List (Nat × Nat)} {x : Nat} (h : nanN x = false) (h0 : aboveV l x ≠ 0) (h1 : aboveV l x ≠ l.length) (h2 : equalB (kx l (aboveV l x - 1)) x = false) :
    atV l x = pieceV (kx l (aboveV l x - 1)) (ky l (aboveV l x - 1)) (kx l (aboveV l x)) (ky l (aboveV l x)) x := by
  unfold atV; rw [if_neg (by rw [h]; decide), if_neg h0, if_neg (by rw [h2]; simp [h1])]

theorem in_facts {l : List (Nat × Nat)} (hl : COk l) {x R : Nat} (hn : nanN x = false) (h0 : R ≠ 0) (hR : R < l.length) (h1 : R = l.length ∨ lessB x (kx l R) = true) (h2 : R = 0 ∨ lessB x (kx l (R - 1)) = false) (h3 : equalB (kx l (R - 1)) x = false) :
    rung32 x < 2139095040 ∧ srung32 (kx l (R - 1)) < srung32 x ∧ srung32 x < srung32 (kx l R) ∧ srung32 (ky l (R - 1)) ≤ srung32 (ky l R) := by
  obtain ⟨fa, _⟩ := hl.fin (R - 1) (by omega)
  obtain ⟨fb, _⟩ := hl.fin R hR
  rcases h1 with h1 | h1
  · omega
  rcases h2 with h2 | h2
  · omega
  rw [lessB_num hn (fin_nan fb)] at h1
  rw [lessB_num hn (fin_nan fa)] at h2
  rw [equalB_num (fin_nan fa) hn] at h3
  have h1 := of_decide_eq_true h1
  have h2 := of_decide_eq_false h2
  have h3 := of_decide_eq_false h3
  have hr := (hl.rise (R - 1) (by omega)).2
  rw [show R - 1 + 1 = R by omega] at hr
  refine ⟨?_, by omega, h1, hr⟩
  unfold srung32 at h1 h2 h3
  rw [nanN_rung] at hn
  split at h1 <;> split at h2 <;> split at h2 <;> omega

end Go.Proofs.YtieojgblamkgoaaGreatDoor
/- What New and Knots return. -/
namespace Go.Proofs.YtieojgblamkgoaaGreatDoor
open Go.RowKit

/-- Is a sample finite? -/
def finN (s : Nat) : Bool := decide (rung32 s < 2139095040)
theorem class_fin (a : Nat) : (classV (a : Int) != 1 && classV (a : Int) != 2) = finN a := by
  unfold finN rung32 classV expV fracV
  by_cases h1 : (a : Int) / 8388608 % 256 = 255
  · rw [if_pos h1, decide_eq_false (by omega)]
    split <;> rfl
  · rw [if_neg h1, decide_eq_true (by omega)]
    split
    · split <;> rfl
    · rfl
/-- Are the first k knots finite? -/
def finTo (l : List (Nat × Nat)) (k : Nat) : Prop := ∀ i, i < k → finN (kx l i) = true ∧ finN (ky l i) = true
theorem fin_more {l : List (Nat × Nat)} {k : Nat} (h : finTo l k) (h1 : finN (kx l k) = true) (h2 : finN (ky l k) = true) : finTo l (k + 1) := by
  intro i hi
  rcases Nat.lt_or_ge i k with g | g
  · exact h i g
  · rw [show i = k by omega]; exact ⟨h1, h2⟩
/-- Do the first k + 1 knots rise? -/
def riseTo (l : List (Nat × Nat)) (k : Nat) : Prop := ∀ i, i < k → lessB (kx l i) (kx l (i + 1)) = true ∧ lessB (ky l (i + 1)) (ky l i) = false
theorem rise_more {l : List (Nat × Nat)} {k : Nat} (h : riseTo l k) (h1 : lessB (kx l k) (kx l (k + 1)) = true) (h2 : lessB (ky l (k + 1)) (ky l k) = false) : riseTo l (k + 1) := by
  intro i hi
  rcases Nat.lt_or_ge i k with g | g
  · exact h i g
  · rw [show i = k by omega]; exact ⟨h1, h2⟩
/-- The cells of knots, in a row. -/
def kcell (l : List (Nat × Nat)) (j : Nat) : Value := if j % 2 = 0 then .int .u32 (kx l (j / 2)) else .int .u32 (ky l (j / 2))
def flat (l : List (Nat × Nat)) : List Value := (List.range (l.length * 2)).map (kcell l)
theorem flat_len (l : List (Nat × Nat)) : (flat l).length = l.length * 2 := by unfold flat; simp
theorem flat_get {l : List (Nat × Nat)} {j : Nat} (h : j < l.length * 2) : (flat l)[j]? = some (kcell l j) := by
  unfold flat; rw [List.getElem?_map, List.getElem?_range h]; rfl
theorem flat_of {l : List (Nat × Nat)} {j : Nat} {u : Value} (h : (flat l)[j]? = some u) : j < l.length * 2 ∧ u = kcell l j := by
  have hj : j < l.length * 2 := by have := (List.getElem?_eq_some_iff.1 h).1; rwa [flat_len] at this
  rw [flat_get hj] at h
  exact ⟨hj, (Option.some.inj h).symm⟩
theorem kcell_x (l : List (Nat × Nat)) (i : Nat) : kcell l (i * 2) = .int .u32 (kx l i) := by
  unfold kcell; rw [if_pos (by omega), show i * 2 / 2 = i by omega]
theorem kcell_y (l : List (Nat × Nat)) (i : Nat) : kcell l (i * 2 + 1) = .int .u32 (ky l i) := by
  unfold kcell; rw [if_neg (by omega), show (i * 2 + 1) / 2 = i by omega]
theorem KIs.flat_cells {w : World} {g o : Nat} {l : List (Nat × Nat)} (h : KIs w g o l) : ∀ j u, (flat l)[j]? = some u → w.cell? ((⟨g, o, none⟩ : Addr).add j) = some u := by
  intro j u hu
  obtain ⟨hj, rfl⟩ := flat_of hu
  have hadd : (⟨g, o, none⟩ : Addr).add j = ⟨g, o + j, none⟩ := by unfold Addr.add; split <;> simp_all
  rw [hadd]
  obtain ⟨c1, c2⟩ := h (j / 2) (by omega)
  by_cases e : j % 2 = 0
  · obtain ⟨i, rfl⟩ : ∃ i, j = i * 2 := ⟨j / 2, by omega⟩
    rw [show i * 2 / 2 = i by omega] at c1
    rw [kcell_x]; exact c1
  · obtain ⟨i, rfl⟩ : ∃ i, j = i * 2 + 1 := ⟨j / 2, by omega⟩
    rw [show (i * 2 + 1) / 2 = i by omega] at c2
    rw [kcell_y]; exact c2
theorem KIs.of_flat {w : World} {g : Nat} {l : List (Nat × Nat)} (h : ∀ j u, (flat l)[j]? = some u → w.cell? ⟨g, j, none⟩ = some u) : KIs w g 0 l := by
  intro i hi
  refine ⟨?_, ?_⟩
  · rw [Nat.zero_add]; exact h (i * 2) _ (by rw [flat_get (by omega), kcell_x])
  · rw [Nat.zero_add]; exact h (i * 2 + 1) _ (by rw [flat_get (by omega), kcell_y])

theorem info_of {P : Program} {e : TypeId} {n b : Nat} {z : Value} (h1 : (P.info? e).map (fun i => (i.size, i.bytes)) = some (n, b)) (h2 : (P.info? e).bind (·.zero) = some z) : ∃ i, P.info? e = some i ∧ i.size = n ∧ i.bytes = b ∧ i.zero = some z := by
  cases h : P.info? e with
  | none => rw [h] at h1; cases h1
  | some i =>
    rw [h] at h1 h2
    have h1 : some (i.size, i.bytes) = some (n, b) := h1
    have h2 : i.zero = some z := h2
    injection h1 with h1
    injection h1 with h3 h4
    exact ⟨i, rfl, h3, h4, h2⟩
theorem eql_nil (P : Program) (w : World) (t e : TypeId) (a : Addr) (n c : Nat) (h : P.underlying t = some (.slice e)) : (binOp .eql t (.slice (some a) n c) (.slice none 0 0)).run P w = .ok (.bool false) w := by
  simp only [binOp]
  simp [Op.equal, Op.maxDepth, Lib.run_equalIn_slice_nil w 9999 t e (some a) n c 0 0 h]
/-- What is wrong with a list of knots. -/
def Bad (l : List (Nat × Nat)) (e : Int) : Prop :=
  ((l.length < 2 ∨ 64 < l.length) ∧ e = 40) ∨ (2 ≤ l.length ∧ l.length ≤ 64 ∧ ¬ finTo l l.length ∧ e = 41) ∨ (2 ≤ l.length ∧ l.length ≤ 64 ∧ finTo l l.length ∧ ¬ riseTo l (l.length - 1) ∧ e = 42)
def Good (l : List (Nat × Nat)) : Prop := 2 ≤ l.length ∧ l.length ≤ 64 ∧ finTo l l.length ∧ riseTo l (l.length - 1)

theorem good_ok {l : List (Nat × Nat)} (h : Good l) (hlt : ∀ i, kx l i < 4294967296 ∧ ky l i < 4294967296) : COk l := by
  obtain ⟨h1, h2, h3, h4⟩ := h
  have f : ∀ i, i < l.length → rung32 (kx l i) < 2139095040 ∧ rung32 (ky l i) < 2139095040 := fun i hi => ⟨of_decide_eq_true (h3 i hi).1, of_decide_eq_true (h3 i hi).2⟩
  refine ⟨h1, h2, hlt, f, fun i hi => ?_⟩
  obtain ⟨a, b⟩ := h4 i (by omega)
  rw [lessB_num (fin_nan (f i (by omega)).1) (fin_nan (f (i + 1) hi).1)] at a
  rw [lessB_num (fin_nan (f (i + 1) hi).2) (fin_nan (f i (by omega)).2)] at b
  exact ⟨of_decide_eq_true a, by have := of_decide_eq_false b; omega⟩
end Go.Proofs.YtieojgblamkgoaaGreatDoor

/- Plain facts: a piece of a curve in binary64: what is reckoned is finite, and no greater than a sample may be. -/
import Derived.Test.YtfolecnjaaakeaaCurvW
namespace Go.Proofs.Ytfolecnjaaakeaa
open Go.RowKit

theorem vN_rel {M : Nat} (hM : M.log2 ≤ 2000) : val64 (rungOf Ieee.double M (-1074)) * 2 ^ 53 ≤ M * (2 ^ 53 + 1) := by
  rw [vN_eq hM]
  have h := (rne_near M (lostK M)).1
  rcases Nat.eq_zero_or_pos (lostK M) with g | g
  · rw [g, rne_zero, Nat.pow_zero, Nat.mul_one]; omega
  · have h0 : M ≠ 0 := by intro h0; subst h0; exact absurd g (by decide)
    have h1 := Nat.log2_self_le h0
    rw [show M.log2 = 52 + lostK M by unfold lostK at *; omega, Nat.pow_add] at h1
    omega
theorem vN_rel2 {M : Nat} (hM : M.log2 ≤ 2000) : M * (2 ^ 53 - 1) ≤ val64 (rungOf Ieee.double M (-1074)) * 2 ^ 53 := by
  rw [vN_eq hM]
  have h := (rne_near M (lostK M)).2
  rcases Nat.eq_zero_or_pos (lostK M) with g | g
  · rw [g, rne_zero, Nat.pow_zero, Nat.mul_one]; omega
  · have h0 : M ≠ 0 := by intro h0; subst h0; exact absurd g (by decide)
    have h1 := Nat.log2_self_le h0
    rw [show M.log2 = 52 + lostK M by unfold lostK at *; omega, Nat.pow_add] at h1
    omega
theorem vN_mono {M N : Nat} (h : M ≤ N) : val64 (rungOf Ieee.double M (-1074)) ≤ val64 (rungOf Ieee.double N (-1074)) := val_le64 (rung_mono _ _ h)
theorem RN_mono {Y Z : Int} (h : Y ≤ Z) : RN Y ≤ RN Z := by
  unfold RN
  by_cases hy : Y < 0
  · rw [if_pos hy]
    by_cases hz : Z < 0
    · rw [if_pos hz]
      have := vN_mono (show Z.natAbs ≤ Y.natAbs by omega)
      omega
    · rw [if_neg hz]; omega
  · rw [if_neg hy, if_neg (by omega)]
    have := vN_mono (show Y.natAbs ≤ Z.natAbs by omega)
    omega
theorem RN_pow (k : Nat) (hk : k ≤ 1900) : RN ((2 ^ k : Nat) : Int) = (2 ^ k : Nat) := by
  refine RN_exact (g := k) ?_ (Int.dvd_refl _) ?_
  · rw [Int.natAbs_natCast, Nat.log2_two_pow]; omega
  · rw [Int.natAbs_natCast]; exact Nat.pow_lt_pow_right (by decide) (by omega)

/-- How a word of a normal number is made up. -/
theorem plc_of {r k : Nat} (h : 2 ^ k ≤ val64 r) : k < 53 + plc64 r := by
  have hm := mag_lt64 r
  have h1 : val64 r < 2 ^ (53 + plc64 r) := by
    unfold val64; rw [Nat.pow_add]; exact Nat.mul_lt_mul_of_pos_right hm (Nat.two_pow_pos _)
  exact (Nat.pow_lt_pow_iff_right (by decide : 1 < 2)).1 (Nat.lt_of_le_of_lt h h1)
theorem plc_to {r k : Nat} (hp : 0 < plc64 r) (h : val64 r < 2 ^ k) : 52 + plc64 r < k := by
  have hm := mag_ge64 hp
  have h1 : 2 ^ (52 + plc64 r) ≤ val64 r := by
    unfold val64; rw [Nat.pow_add]; exact Nat.mul_le_mul_right _ hm
  exact (Nat.pow_lt_pow_iff_right (by decide : 1 < 2)).1 (Nat.lt_of_le_of_lt h1 h)
theorem log_mag {r : Nat} (hp : 0 < plc64 r) : (mag64 r).log2 = 52 := by
  have h1 := mag_ge64 hp
  have h2 := mag_lt64 r
  exact (Nat.log2_eq_iff (by omega)).2 ⟨h1, h2⟩

theorem vN_pow (k : Nat) (hk : k ≤ 1900) : val64 (rungOf Ieee.double (2 ^ k) (-1074)) = 2 ^ k := by
  refine vN_exact (g := k) ?_ (Nat.dvd_refl _) ?_
  · rw [Nat.log2_two_pow]; omega
  · exact Nat.pow_lt_pow_right (by decide) (by omega)
theorem log_lt {n k : Nat} (h : n < 2 ^ k) (hk : k ≤ 2000) : n.log2 ≤ 2000 := by
  by_cases h0 : n = 0
  · subst h0; decide
  · have := (Nat.log2_lt h0).2 h; omega
/-- The word of a number of least units that is not below 0. -/
theorem word_pos (M : Nat) {a b : Nat} (h0 : 2 ^ a ≤ M) (h1 : M < 2 ^ b) (hb : b ≤ 1900) :
    rung64 (wordOf false M) < 9218868437227405312 ∧ sgn64 (wordOf false M) = false ∧ val64 (rung64 (wordOf false M)) = val64 (rungOf Ieee.double M (-1074)) ∧
      2 ^ a ≤ val64 (rung64 (wordOf false M)) ∧ val64 (rung64 (wordOf false M)) ≤ 2 ^ b ∧ val64 (rung64 (wordOf false M)) * 2 ^ 53 ≤ M * (2 ^ 53 + 1) := by
  have hl := log_lt h1 (by omega)
  have hab : a < b := (Nat.pow_lt_pow_iff_right (by decide : 1 < 2)).1 (Nat.lt_of_le_of_lt h0 h1)
  obtain ⟨e1, e2, e3, _⟩ := wordOf_facts (σ := false) (Z := (M : Int)) (by rw [Int.natAbs_natCast]; exact hl) (fun _ => (decide_eq_false (by omega)).symm)
  rw [Int.natAbs_natCast] at e1
  rw [e1]
  refine ⟨by rw [← e1]; exact e3, e2, rfl, ?_, ?_, vN_rel hl⟩
  · have := vN_mono h0; rwa [vN_pow a (by omega)] at this
  · have := vN_mono (Nat.le_of_lt h1); rwa [vN_pow b (by omega)] at this
/-- A positive quotient of normal numbers. -/
theorem quo_pos {x y E : Nat} (hE : E = 1074) (hx : rung64 x < 9218868437227405312) (hy : rung64 y < 9218868437227405312) (sx : sgn64 x = false) (sy : sgn64 y = false)
    (px : 872 < plc64 (rung64 x)) (qx : plc64 (rung64 x) < 1158) (py : 872 < plc64 (rung64 y)) (qy : plc64 (rung64 y) < 1158) :
    ∃ r, floatBits .quo .f64 x y = some r ∧ rung64 r < 9218868437227405312 ∧ sgn64 r = false ∧ 700 < plc64 (rung64 r) ∧ plc64 (rung64 r) < 1330 ∧
      val64 (rung64 r) * val64 (rung64 y) * 2 ^ 107 ≤ val64 (rung64 x) * 2 ^ E * ((2 ^ 54 + 1) * (2 ^ 53 + 1)) := by
  have lx := log_mag (r := rung64 x) (by omega)
  have ly := log_mag (r := rung64 y) (by omega)
  have mx := mag_ge64 (r := rung64 x) (by omega)
  have my := mag_ge64 (r := rung64 y) (by omega)
  have nx := mag_lt64 (rung64 x)
  have ny := mag_lt64 (rung64 y)
  have rx := read_fin64 hx
  have ry := read_fin64 hy
  have vx : val64 (rung64 x) = mag64 (rung64 x) * 2 ^ plc64 (rung64 x) := rfl
  have vy : val64 (rung64 y) = mag64 (rung64 y) * 2 ^ plc64 (rung64 y) := rfl
  rw [vx, vy]
  rw [sx] at rx
  rw [sy] at ry
  clear vx vy
  generalize mag64 (rung64 x) = m at *
  generalize mag64 (rung64 y) = n at *
  generalize plc64 (rung64 x) = i at *
  generalize plc64 (rung64 y) = j at *
  obtain ⟨q, hq⟩ : ∃ q, q = m * 2 ^ 54 / n := ⟨_, rfl⟩
  obtain ⟨S, hS⟩ : ∃ S, S = 2 * (m * 2 ^ 54 / n) + (m * 2 ^ 54 % n != 0).toNat := ⟨_, rfl⟩
  have hq1 : q * n ≤ m * 2 ^ 54 := by rw [hq]; exact Nat.div_mul_le_self _ _
  have hq0 : 2 ^ 53 ≤ q := by
    rw [hq, Nat.le_div_iff_mul_le (by omega)]; omega
  have hq2 : q < 2 ^ 56 := by
    rw [hq, Nat.div_lt_iff_lt_mul (by omega)]; omega
  have hc : (m * 2 ^ 54 % n != 0).toNat ≤ 1 := Bool.toNat_le _
  rw [← hq] at hS
  have S0 : 2 ^ 54 ≤ S := by omega
  have S1 : S < 2 ^ 58 := by omega
  have S2 : S * n * 2 ^ 53 ≤ m * 2 ^ 54 * (2 ^ 54 + 1) := by
    have : S * n ≤ 2 * (m * 2 ^ 54) + n := by
      have h1 : S * n ≤ (2 * q + 1) * n := Nat.mul_le_mul_right _ (by omega)
      have h2 : (2 * q + 1) * n = 2 * (q * n) + n := by rw [Nat.add_mul, Nat.one_mul, Nat.mul_assoc]
      omega
    omega
  obtain ⟨K, hK⟩ : ∃ K : Nat, K + j = i + 1019 := ⟨i + 1019 - j, by omega⟩
  have hb : S * 2 ^ K < 2 ^ (58 + K) := by rw [Nat.pow_add]; exact Nat.mul_lt_mul_of_pos_right S1 (Nat.two_pow_pos _)
  have ha : 2 ^ (54 + K) ≤ S * 2 ^ K := by rw [Nat.pow_add]; exact Nat.mul_le_mul_right _ S0
  obtain ⟨f1, f2, _, f4, f5, f6⟩ := word_pos (S * 2 ^ K) ha hb (by omega)
  have f7 := plc_of f4
  have f8 := plc_to (k := 59 + K) (by omega) (Nat.lt_of_le_of_lt f5 (Nat.pow_lt_pow_right (by decide) (by omega)))
  refine ⟨wordOf false ((S * 2 ^ K : Nat) : Int), ?_, f1, f2, by omega, by omega, ?_⟩
  · show ((Ieee.double.read x).quotient 54 (Ieee.double.read y)).map Ieee.double.write = _
    rw [rx, ry]
    simp only [Ieee.Datum.quotient]
    rw [if_neg (by omega), lx, ly, Nat.shiftLeft_eq]
    show some (Ieee.double.nearest _ _ _) = _
    rw [nearest_rung]
    unfold wordOf
    rw [Int.natAbs_natCast, rung_scale, hS, hq]
    congr 3
    omega
  · generalize val64 (rung64 (wordOf false ((S * 2 ^ K : Nat) : Int))) = v at f6
    have e1 : 2 ^ (i + 1020) = 2 ^ K * 2 ^ j * 2 := by rw [← Nat.pow_add, hK, ← Nat.pow_succ]
    have e2 : 2 ^ i * 2 ^ E = 2 ^ 54 * 2 ^ (i + 1020) := by rw [← Nat.pow_add, ← Nat.pow_add, show i + E = 54 + (i + 1020) by omega]
    generalize 2 ^ (i + 1020) = Y at e1 e2
    generalize 2 ^ E = W at e2
    generalize 2 ^ i = I at e2
    clear hE hK f1 f2 f4 f5 f7 f8 ha hb hS hq hq1 hq0 hq2 hc S0 S1 rx ry
    generalize 2 ^ K = A at e1 f6
    generalize 2 ^ j = B at e1
    have g1 : v * 2 ^ 53 * (n * B * 2 ^ 54) ≤ S * A * (2 ^ 53 + 1) * (n * B * 2 ^ 54) := Nat.mul_le_mul_right _ f6
    have g2 : S * A * (2 ^ 53 + 1) * (n * B * 2 ^ 54) = S * n * 2 ^ 53 * (Y * (2 ^ 53 + 1)) := by
      rw [e1, show (2 : Nat) ^ 54 = 2 ^ 53 * 2 from rfl]; ac_rfl
    have g3 : S * n * 2 ^ 53 * (Y * (2 ^ 53 + 1)) ≤ m * 2 ^ 54 * (2 ^ 54 + 1) * (Y * (2 ^ 53 + 1)) := Nat.mul_le_mul_right _ S2
    have g4 : m * 2 ^ 54 * (2 ^ 54 + 1) * (Y * (2 ^ 53 + 1)) = m * I * W * ((2 ^ 54 + 1) * (2 ^ 53 + 1)) := by
      rw [Nat.mul_assoc m I, e2]; ac_rfl
    have g5 : v * (n * B) * 2 ^ 107 = v * 2 ^ 53 * (n * B * 2 ^ 54) := by
      rw [show (2 : Nat) ^ 107 = 2 ^ 53 * 2 ^ 54 from rfl]; ac_rfl
    rw [g5, ← g4]
    exact Nat.le_trans g1 (Nat.le_trans (Nat.le_of_eq g2) g3)

/-- A product of normal numbers that are not below 0. -/
theorem mul_pos {x y E : Nat} (hE : E = 1074) (hx : rung64 x < 9218868437227405312) (hy : rung64 y < 9218868437227405312) (sx : sgn64 x = false) (sy : sgn64 y = false)
    (px : 872 < plc64 (rung64 x)) (qx : plc64 (rung64 x) < 1158) (py : 700 < plc64 (rung64 y)) (qy : plc64 (rung64 y) < 1330) :
    ∃ N, N * 2 ^ E = val64 (rung64 x) * val64 (rung64 y) ∧ N.log2 ≤ 1900 ∧ floatBits .mul .f64 x y = some (wordOf false (N : Int)) ∧ rung64 (wordOf false N) < 9218868437227405312 ∧ sgn64 (wordOf false N) = false ∧
      val64 (rung64 (wordOf false N)) = val64 (rungOf Ieee.double N (-1074)) ∧ val64 (rung64 (wordOf false N)) * 2 ^ 53 ≤ N * (2 ^ 53 + 1) := by
  have mx := mag_ge64 (r := rung64 x) (by omega)
  have my := mag_ge64 (r := rung64 y) (by omega)
  have nx := mag_lt64 (rung64 x)
  have ny := mag_lt64 (rung64 y)
  have rx := read_fin64 hx
  have ry := read_fin64 hy
  have vx : val64 (rung64 x) = mag64 (rung64 x) * 2 ^ plc64 (rung64 x) := rfl
  have vy : val64 (rung64 y) = mag64 (rung64 y) * 2 ^ plc64 (rung64 y) := rfl
  rw [vx, vy]
  rw [sx] at rx
  rw [sy] at ry
  clear vx vy
  generalize mag64 (rung64 x) = m at *
  generalize mag64 (rung64 y) = n at *
  generalize plc64 (rung64 x) = i at *
  generalize plc64 (rung64 y) = j at *
  obtain ⟨K, hK⟩ : ∃ K : Nat, K + E = i + j := ⟨i + j - E, by omega⟩
  have h0 : 2 ^ 104 ≤ m * n := Nat.le_trans (by decide) (Nat.mul_le_mul mx my)
  have h1 : m * n < 2 ^ 106 := Nat.lt_of_lt_of_le (Nat.mul_lt_mul'' nx ny) (by decide)
  have ha : 2 ^ (104 + K) ≤ m * n * 2 ^ K := by rw [Nat.pow_add]; exact Nat.mul_le_mul_right _ h0
  have hb : m * n * 2 ^ K < 2 ^ (106 + K) := by rw [Nat.pow_add]; exact Nat.mul_lt_mul_of_pos_right h1 (Nat.two_pow_pos _)
  obtain ⟨f1, f2, f3, _, _, f6⟩ := word_pos (m * n * 2 ^ K) ha hb (by omega)
  refine ⟨m * n * 2 ^ K, ?_, ?_, ?_, f1, f2, f3, f6⟩
  · rw [Nat.mul_assoc, ← Nat.pow_add, hK, Nat.pow_add]; ac_rfl
  · have := (Nat.log2_lt (n := m * n * 2 ^ K) (by have := Nat.two_pow_pos (104 + K); omega)).2 hb; omega
  · show ((Ieee.double.read x).product (Ieee.double.read y)).map Ieee.double.write = _
    rw [rx, ry]
    show some (Ieee.double.nearest (false ^^ false) (m * n) (-1074 + (i : Int) + (-1074 + (j : Int)))) = _
    rw [nearest_rung]
    unfold wordOf
    rw [Int.natAbs_natCast, rung_scale, show -1074 + (i : Int) + (-1074 + (j : Int)) = -1074 + (K : Int) by omega]
    rfl
end Go.Proofs.Ytfolecnjaaakeaa

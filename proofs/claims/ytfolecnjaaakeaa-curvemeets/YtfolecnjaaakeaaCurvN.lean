/- Plain facts: a piece of a curve in binary64. -/
import Derived.Test.YtfolecnjaaakeaaCurvM
namespace Go.Proofs.Ytfolecnjaaakeaa
open Go.RowKit

theorem sampleZ_eq (a : Nat) {c : Nat} (hc : c = 925) : sampleZ a = sval32 a * 2 ^ c := by
  unfold sampleZ sval32 val32 Ieee.signed
  rw [← hc, Nat.shiftLeft_eq, Nat.pow_add, ← Nat.mul_assoc]
  split
  · rw [Int.neg_mul, Int.natCast_mul, Int.natCast_pow]; rfl
  · rw [Int.natCast_mul, Int.natCast_pow]; rfl
theorem sampleZ_lt_iff (a b : Nat) : sampleZ a < sampleZ b ↔ srung32 a < srung32 b := by
  obtain ⟨c, hc⟩ : ∃ c : Nat, c = 925 := ⟨_, rfl⟩
  rw [sampleZ_eq a hc, sampleZ_eq b hc]
  have hp : (0 : Int) < 2 ^ c := Int.pow_pos (by decide)
  have h := sval_srung32 a b
  rw [Int.mul_lt_mul_right hp]
  rw [← Int.compare_eq_lt, h, Int.compare_eq_lt]
theorem sampleZ_bd {a : Nat} (h : rung32 a < 2139095040) {F : Nat} (hF : F = 1176) : -((67108860 * 2 ^ F : Nat) : Int) ≤ sampleZ a ∧ sampleZ a ≤ ((67108860 * 2 ^ F : Nat) : Int) := by
  have hm := mag_lt32 (rung32 a)
  have hp := plc_le32 h
  have e : (sampleZ a).natAbs ≤ 67108860 * 2 ^ F := by
    unfold sampleZ
    rw [signed_abs]
    have h1 : mag32 (rung32 a) * 2 ^ (plc32 (rung32 a) + 925) ≤ 16777215 * 2 ^ (2 + F) := Nat.mul_le_mul (by omega) (Nat.pow_le_pow_right (by decide) (by omega))
    have e : 2 ^ (2 + F) = 4 * 2 ^ F := by rw [Nat.pow_add]
    rw [e] at h1
    omega
  omega

/-- A positive difference of samples. -/
theorem sub_pos {a b : Nat} (ha : rung32 a < 2139095040) (hb : rung32 b < 2139095040) (h : sampleZ b < sampleZ a) :
    ∃ M : Nat, (M : Int) = sampleZ a - sampleZ b ∧ M.log2 ≤ 1900 ∧ floatBits .sub .f64 (wideN a) (wideN b) = some (wordOf false (M : Int)) ∧ rung64 (wordOf false M) < 9218868437227405312 ∧ sgn64 (wordOf false M) = false ∧
      872 < plc64 (rung64 (wordOf false M)) ∧ plc64 (rung64 (wordOf false M)) < 1158 ∧ val64 (rung64 (wordOf false M)) = val64 (rungOf Ieee.double M (-1074)) ∧ val64 (rung64 (wordOf false M)) * 2 ^ 53 ≤ M * (2 ^ 53 + 1) := by
  obtain ⟨c, hc⟩ : ∃ c : Nat, c = 925 := ⟨_, rfl⟩
  obtain ⟨F, hF⟩ : ∃ F : Nat, F = 1176 := ⟨_, rfl⟩
  obtain ⟨a0, a1⟩ := sampleZ_bd ha hF
  obtain ⟨b0, b1⟩ := sampleZ_bd hb hF
  obtain ⟨f1, s1, v1⟩ := wide_fin ha
  obtain ⟨f2, s2, v2⟩ := wide_fin hb
  obtain ⟨M, hM⟩ : ∃ M : Nat, (M : Int) = sampleZ a - sampleZ b := ⟨(sampleZ a - sampleZ b).toNat, by omega⟩
  have hd : 2 ^ c ∣ M := by
    have : ((2 ^ c : Nat) : Int) ∣ (M : Int) := by
      rw [hM]
      exact Int.dvd_sub (signed_dvd _ _ (by omega)) (signed_dvd _ _ (by omega))
    exact Int.natCast_dvd_natCast.1 this
  have h0 : 2 ^ c ≤ M := Nat.le_of_dvd (by omega) hd
  have h1 : M < 2 ^ (27 + F) := by
    rw [Nat.pow_add]
    have := Nat.two_pow_pos F
    omega
  obtain ⟨g1, g2, g3, g4, g5, g6⟩ := word_pos M h0 h1 (by omega)
  have g7 := plc_of g4
  have g8 := plc_to (k := 28 + F) (by omega) (Nat.lt_of_le_of_lt g5 (Nat.pow_lt_pow_right (by decide) (by omega)))
  refine ⟨M, hM, ?_, ?_, g1, g2, by omega, by omega, g3, g6⟩
  · have := (Nat.log2_lt (n := M) (by have := Nat.two_pow_pos c; omega)).2 h1; omega
  · rw [sub_fin f1 f2, v1, v2, ← hM, sg_of (by have := Nat.two_pow_pos c; omega), decide_eq_false (by omega)]

theorem val_lim {F : Nat} (hF : F = 1176) : val64 5183643170835005440 = 67108862 * 2 ^ F := by
  have e1 : mag64 5183643170835005440 = 67108862 * 2 ^ 27 := by decide
  obtain ⟨J, hJ⟩ : ∃ J, J = plc64 5183643170835005440 := ⟨_, rfl⟩
  have e2 : plc64 5183643170835005440 = 1149 := by decide
  unfold val64
  rw [e1, ← hJ, Nat.mul_assoc, ← Nat.pow_add, show 27 + J = F by omega]

theorem piece_key {t N W a d s h M : Nat} (hW : 0 < W) (wT : t * 2 ^ 53 ≤ N * (2 ^ 53 + 1)) (eN : N * W = a * s) (hm : a ≤ d) (wS : s * d * 2 ^ 107 ≤ h * W * ((2 ^ 54 + 1) * (2 ^ 53 + 1))) (wh : h * 2 ^ 53 ≤ M * (2 ^ 53 + 1)) : t * 2 ^ 50 ≤ M * (2 ^ 50 + 1) := by
  have c1 : (2 ^ 53 + 1) * ((2 ^ 54 + 1) * (2 ^ 53 + 1) * (2 ^ 53 + 1)) ≤ (2 ^ 50 + 1) * 2 ^ 163 := by decide
  have c2 : 2 ^ 53 * 2 ^ 107 * 2 ^ 53 = 2 ^ 50 * 2 ^ 163 := by decide
  generalize hA : 2 ^ 53 + 1 = A at *
  generalize hB : 2 ^ 54 + 1 = B at *
  generalize hP : (2 : Nat) ^ 53 = P at wT wh c2
  generalize hR : (2 : Nat) ^ 107 = R at wS c2
  generalize hC : 2 ^ 50 + 1 = C at *
  generalize hD : (2 : Nat) ^ 50 = D at c2 ⊢
  have hG : 0 < (2 : Nat) ^ 163 := by decide
  generalize (2 : Nat) ^ 163 = G at c1 c2 hG
  clear hA hB hP hR hC hD
  have k1 : t * P * W * R ≤ N * A * W * R := Nat.mul_le_mul_right _ (Nat.mul_le_mul_right _ wT)
  have k2 : N * A * W * R = a * s * A * R := by rw [← eN]; ac_rfl
  have k3 : a * s * A * R ≤ d * s * A * R := Nat.mul_le_mul_right _ (Nat.mul_le_mul_right _ (Nat.mul_le_mul_right _ hm))
  have k4 : d * s * A * R = s * d * R * A := by ac_rfl
  have k5 : s * d * R * A ≤ h * W * (B * A) * A := Nat.mul_le_mul_right _ wS
  have k6 : t * P * R * W ≤ h * (B * A * A) * W := by
    have e1 : t * P * R * W = t * P * W * R := by ac_rfl
    have e2 : h * (B * A * A) * W = h * W * (B * A) * A := by ac_rfl
    rw [e1, e2]
    exact Nat.le_trans k1 (Nat.le_trans (Nat.le_of_eq k2) (Nat.le_trans k3 (Nat.le_trans (Nat.le_of_eq k4) k5)))
  have k7 := Nat.le_of_mul_le_mul_right k6 hW
  have k8 : t * P * R * P ≤ h * (B * A * A) * P := Nat.mul_le_mul_right _ k7
  have k9 : h * (B * A * A) * P ≤ M * A * (B * A * A) := by
    have e : h * (B * A * A) * P = h * P * (B * A * A) := by ac_rfl
    rw [e]; exact Nat.mul_le_mul_right _ wh
  have k10 : M * A * (B * A * A) ≤ M * (C * G) := by rw [Nat.mul_assoc]; exact Nat.mul_le_mul_left _ c1
  have e1 : t * P * R * P = t * D * G := by
    rw [Nat.mul_assoc t D, ← c2]; ac_rfl
  refine Nat.le_of_mul_le_mul_right ?_ hG
  rw [← e1]
  have e2 : M * C * G = M * (C * G) := Nat.mul_assoc ..
  rw [e2]
  exact Nat.le_trans k8 (Nat.le_trans k9 k10)

/-- What is reckoned between two knots. -/
theorem piece {px py qx qy x : Nat} (ha : rung32 px < 2139095040) (hb : rung32 py < 2139095040) (hc : rung32 qx < 2139095040) (hd : rung32 qy < 2139095040) (hx : rung32 x < 2139095040)
    (h1 : sampleZ px < sampleZ x) (h2 : sampleZ x < sampleZ qx) (h3 : sampleZ py < sampleZ qy) {E : Nat} (hE : E = 1074) :
    ∃ A H D S T V M N : Nat, floatBits .sub .f64 (wideN x) (wideN px) = some A ∧ floatBits .sub .f64 (wideN qy) (wideN py) = some H ∧ floatBits .sub .f64 (wideN qx) (wideN px) = some D ∧
      floatBits .quo .f64 H D = some S ∧ floatBits .mul .f64 A S = some T ∧ floatBits .add .f64 (wideN py) T = some V ∧ rung64 V < 5183643170835005440 ∧
      (M : Int) = sampleZ x - sampleZ px ∧ N * 2 ^ E = val64 (rungOf Ieee.double M (-1074)) * val64 (rung64 S) ∧ sval64 V = RN (sampleZ py + val64 (rungOf Ieee.double N (-1074))) := by
  obtain ⟨F, hF⟩ : ∃ F : Nat, F = 1176 := ⟨_, rfl⟩
  obtain ⟨Mx, ex, lx, fx, rx, sx, px1, px2, vx, wx⟩ := sub_pos hx ha h1
  obtain ⟨Mh, eh, lh, fh, rh, sh, ph1, ph2, vh, wh⟩ := sub_pos hd hb h3
  obtain ⟨Md, ed, ld, fd, rd, sd, pd1, pd2, vd, wd'⟩ := sub_pos hc ha (by omega)
  obtain ⟨S, fS, rS, sS, pS1, pS2, wS⟩ := quo_pos hE rh rd sh sd ph1 ph2 pd1 pd2
  obtain ⟨N, eN, lN, fT, rT, sT, vT, wT⟩ := mul_pos hE rx rS sx sS px1 px2 pS1 pS2
  obtain ⟨y0, y1⟩ := sampleZ_bd hb hF
  obtain ⟨z0, z1⟩ := sampleZ_bd hd hF
  obtain ⟨fy, sy, vy⟩ := wide_fin hb
  have hmono := vN_mono (show Mx ≤ Md by omega)
  rw [vx] at wx eN
  rw [vd] at wS
  rw [vh] at wS wh
  rw [vT] at wT
  obtain ⟨a, ea⟩ : ∃ a, a = val64 (rungOf Ieee.double Mx (-1074)) := ⟨_, rfl⟩
  obtain ⟨d, ed'⟩ : ∃ d, d = val64 (rungOf Ieee.double Md (-1074)) := ⟨_, rfl⟩
  obtain ⟨h, eh'⟩ : ∃ h, h = val64 (rungOf Ieee.double Mh (-1074)) := ⟨_, rfl⟩
  obtain ⟨s, hs⟩ : ∃ s, s = val64 (rung64 S) := ⟨_, rfl⟩
  obtain ⟨t, ht⟩ : ∃ t, t = val64 (rungOf Ieee.double N (-1074)) := ⟨_, rfl⟩
  have hst : sval64 (wordOf false (N : Int)) = (t : Int) := by
    unfold sval64; rw [sT, vT, ← ht]; rfl
  rw [← hs] at wS eN
  rw [← ht] at wT
  rw [← ea, ← ed'] at hmono
  rw [← ea] at eN
  rw [← ed', ← eh'] at wS
  rw [← eh'] at wh
  have key : t * 2 ^ 50 ≤ Mh * (2 ^ 50 + 1) := piece_key (Nat.two_pow_pos E) wT eN hmono wS wh
  have hZ0 : -((67108860 * 2 ^ F : Nat) : Int) ≤ sampleZ py + (t : Int) := by omega
  have hZ1 : sampleZ py + (t : Int) ≤ ((67108861 * 2 ^ F : Nat) : Int) := by omega
  have hl : (sampleZ py + (t : Int)).natAbs.log2 ≤ 2000 := by
    refine log_lt (k := 26 + F) ?_ (by omega)
    rw [Nat.pow_add]
    have := Nat.two_pow_pos F
    omega
  have exact1 : ∀ m : Nat, m < 2 ^ 27 → RN ((m * 2 ^ F : Nat) : Int) = ((m * 2 ^ F : Nat) : Int) := by
    intro m hm
    have h1 : m * 2 ^ F < 2 ^ (27 + F) := by rw [Nat.pow_add]; exact Nat.mul_lt_mul_of_pos_right hm (Nat.two_pow_pos _)
    refine RN_exact (g := F) ?_ (Int.natCast_dvd_natCast.2 (Nat.dvd_mul_left _ _)) ?_
    · rw [Int.natAbs_natCast]; exact log_lt h1 (by omega)
    · rw [Int.natAbs_natCast]; exact Nat.lt_of_lt_of_le h1 (Nat.pow_le_pow_right (by decide) (by omega))
  have exact2 : RN (-((67108860 * 2 ^ F : Nat) : Int)) = -((67108860 * 2 ^ F : Nat) : Int) := by
    have h1 : 67108860 * 2 ^ F < 2 ^ (27 + F) := by rw [Nat.pow_add]; exact Nat.mul_lt_mul_of_pos_right (by decide) (Nat.two_pow_pos _)
    refine RN_exact (g := F) ?_ (Int.dvd_neg.2 (Int.natCast_dvd_natCast.2 (Nat.dvd_mul_left _ _))) ?_
    · rw [Int.natAbs_neg, Int.natAbs_natCast]; exact log_lt h1 (by omega)
    · rw [Int.natAbs_neg, Int.natAbs_natCast]; exact Nat.lt_of_lt_of_le h1 (Nat.pow_le_pow_right (by decide) (by omega))
  have r0 := RN_mono hZ0
  have r1 := RN_mono hZ1
  rw [exact1 67108861 (by decide)] at r1
  rw [exact2] at r0
  obtain ⟨_, _, w3, w4⟩ := wordOf_facts (σ := sg (sgn64 (wideN py)) (sgn64 (wordOf false (N : Int))) (sampleZ py + (t : Int))) hl sg_of
  have fV := add_fin fy rT
  rw [vy, hst] at fV
  refine ⟨_, _, _, S, _, _, Mx, N, fx, fh, fd, fS, fT, fV, ?_, ex, by rw [← hs, ← ea]; exact eN, by rw [← ht]; exact w4⟩
  rw [← val_inj_lt64, val_lim hF, ← val_abs, w4]
  omega
end Go.Proofs.Ytfolecnjaaakeaa

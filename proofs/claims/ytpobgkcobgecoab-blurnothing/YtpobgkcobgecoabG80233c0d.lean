/- Plain facts: a quotient with its rest told by one bit. -/
import Derived.Test.YtpobgkcobgecoabG4ea766ee
import Derived.Test.YtpobgkcobgecoabGb66da525
import Derived.Test.YtpobgkcobgecoabG84f0b933
import Derived.Test.YtpobgkcobgecoabGa1536a72
import Derived.Test.YtpobgkcobgecoabGbc7ca20b
import Derived.Test.YtpobgkcobgecoabGef7fbfb4
namespace Go.Proofs.Ytpobgkcobgecoab
open Go.RowKit

/-- A quotient's digits, and one more that tells of a rest. -/
def sqV (m n A : Nat) : Nat := 2 * (m * 2 ^ A / n) + if m * 2 ^ A % n = 0 then 0 else 1
theorem sq_stick {m n B k : Nat} (hn : 0 < n) : stick (sqV m n (B + k)) (k + 1) = sqV m n B := by
  have hk := Nat.two_pow_pos k
  have e0 : m * 2 ^ (B + k) = m * 2 ^ B * 2 ^ k := by rw [Nat.pow_add, Nat.mul_assoc]
  -- the great quotient, cut, is the small one
  have e1 : m * 2 ^ (B + k) / n / 2 ^ k = m * 2 ^ B / n := by
    rw [Nat.div_div_eq_div_mul, e0, Nat.mul_div_mul_right _ _ hk]
  have d1 := Nat.div_add_mod (m * 2 ^ (B + k)) n
  have d2 := Nat.div_add_mod (m * 2 ^ B) n
  have d3 := Nat.div_add_mod (m * 2 ^ (B + k) / n) (2 ^ k)
  have r1 := Nat.mod_lt (m * 2 ^ (B + k)) hn
  have r2 := Nat.mod_lt (m * 2 ^ B) hn
  rw [e1] at d3
  obtain ⟨q, hq⟩ : ∃ q, q = m * 2 ^ B / n := ⟨_, rfl⟩
  obtain ⟨Q', hQ⟩ : ∃ Q', Q' = m * 2 ^ (B + k) / n := ⟨_, rfl⟩
  obtain ⟨r, hr⟩ : ∃ r, r = m * 2 ^ B % n := ⟨_, rfl⟩
  obtain ⟨R, hR⟩ : ∃ R, R = m * 2 ^ (B + k) % n := ⟨_, rfl⟩
  obtain ⟨t, ht⟩ : ∃ t, t = Q' % 2 ^ k := ⟨_, rfl⟩
  unfold stick sqV
  rw [← hQ, ← hR, ← hq, ← hr]
  rw [← hQ, ← hq, ← ht] at d3
  rw [← hQ, ← hR] at d1
  rw [← hq, ← hr] at d2
  have htk : t < 2 ^ k := by rw [ht]; exact Nat.mod_lt _ hk
  -- r * 2^k = n * t + R
  have key : r * 2 ^ k = n * t + R := by
    have a1 : n * Q' + R = (n * q + r) * 2 ^ k := by rw [d1, d2, e0]
    rw [← d3] at a1
    rw [Nat.mul_add, Nat.add_mul] at a1
    have a2 : n * (2 ^ k * q) = n * q * 2 ^ k := by rw [Nat.mul_comm (2 ^ k) q, Nat.mul_assoc]
    omega
  have hzero : r = 0 ↔ t = 0 ∧ R = 0 := by
    constructor
    · intro h
      rw [h, Nat.zero_mul] at key
      have k1 : n * t = 0 := by omega
      rcases Nat.mul_eq_zero.1 k1 with h' | h'
      · omega
      · exact ⟨h', by omega⟩
    · rintro ⟨h1, h2⟩
      rw [h1, h2, Nat.mul_zero] at key
      rcases Nat.mul_eq_zero.1 key with h' | h'
      · exact h'
      · omega
  have ep : 2 ^ (k + 1) = 2 * 2 ^ k := by rw [Nat.pow_succ]; omega
  obtain ⟨b, hb⟩ : ∃ b, b = if R = 0 then 0 else 1 := ⟨_, rfl⟩
  have hb2 : b < 2 := by rw [hb]; split <;> omega
  rw [← hb]
  have f1 : (2 * Q' + b) / 2 ^ (k + 1) = q := by
    rw [ep, ← Nat.div_div_eq_div_mul, show (2 * Q' + b) / 2 = Q' by omega, hQ, e1, hq]
  have f2 : (2 * Q' + b) % 2 ^ (k + 1) = 2 * t + b := by
    have g := Nat.div_add_mod (2 * Q' + b) (2 ^ (k + 1))
    rw [f1, ep] at g
    rw [ep]
    have g2 : 2 * 2 ^ k * q = 2 * (2 ^ k * q) := Nat.mul_assoc _ _ _
    omega
  rw [f1, f2]
  have hbR : b = 0 ↔ R = 0 := by rw [hb]; split <;> omega
  by_cases h : r = 0
  · obtain ⟨h1, h2⟩ := hzero.1 h
    rw [if_pos h, if_pos (by have := hbR.2 h2; omega)]
  · rw [if_neg h, if_neg]
    intro h'
    exact h (hzero.2 ⟨by omega, hbR.1 (by omega)⟩)
theorem sq_link (f : Ieee.Format) {m n A B : Nat} (x : Int) (hn : 0 < n) (hA : B ≤ A) (hq : 2 ^ (f.fractionBits + 1) ≤ m * 2 ^ B / n) :
    rungOf f (sqV m n A) (x - A - 1) = rungOf f (sqV m n B) (x - B - 1) := by
  obtain ⟨k, rfl⟩ : ∃ k, A = B + k := ⟨A - B, by omega⟩
  have e1 : m * 2 ^ (B + k) / n / 2 ^ k = m * 2 ^ B / n := by
    rw [Nat.div_div_eq_div_mul, Nat.pow_add, ← Nat.mul_assoc, Nat.mul_div_mul_right _ _ (Nat.two_pow_pos k)]
  have h1 : 2 ^ (f.fractionBits + 1 + k) ≤ m * 2 ^ (B + k) / n := by
    rw [Nat.pow_add]
    rw [← e1] at hq
    exact (Nat.le_div_iff_mul_le (Nat.two_pow_pos k)).1 hq
  have h2 : 2 ^ (f.fractionBits + 2 + k) ≤ sqV m n (B + k) := by
    unfold sqV
    rw [show f.fractionBits + 2 + k = f.fractionBits + 1 + k + 1 by omega, Nat.pow_succ]
    omega
  have hM : sqV m n (B + k) ≠ 0 := by have := Nat.two_pow_pos (f.fractionBits + 2 + k); omega
  have hlog : f.fractionBits + 2 + k ≤ (sqV m n (B + k)).log2 := (Nat.le_log2 hM).2 h2
  have := rung_stick f (M := sqV m n (B + k)) (k := k + 1) (x - (B + k : Nat) - 1) (by omega) hM (by unfold lastOf; omega)
  rw [sq_stick hn] at this
  rw [← this]
  congr 1; omega
theorem quo_digits {m n : Nat} (hm : m ≠ 0) (hn : n ≠ 0) {d : Nat} (h0 : 0 < d) : 2 ^ (d - 1) ≤ m * 2 ^ (d + n.log2 - m.log2) / n := by
  rw [Nat.le_div_iff_mul_le (by omega)]
  have h1 := Nat.log2_self_le hm
  have h2 : n < 2 ^ (n.log2 + 1) := Nat.lt_log2_self
  have a1 : 2 ^ (d - 1) * n < 2 ^ (d - 1) * 2 ^ (n.log2 + 1) := Nat.mul_lt_mul_of_pos_left h2 (Nat.two_pow_pos _)
  rw [← Nat.pow_add, show d - 1 + (n.log2 + 1) = d + n.log2 by omega] at a1
  have a2 : 2 ^ m.log2 * 2 ^ (d + n.log2 - m.log2) ≤ m * 2 ^ (d + n.log2 - m.log2) := Nat.mul_le_mul_right _ h1
  rw [← Nat.pow_add] at a2
  have a3 : 2 ^ (d + n.log2) ≤ 2 ^ (m.log2 + (d + n.log2 - m.log2)) := Nat.pow_le_pow_right (by decide) (by omega)
  omega
theorem sq_not (m n A : Nat) : 2 * (m * 2 ^ A / n) + (!decide (m * 2 ^ A % n = 0)).toNat = sqV m n A := by
  unfold sqV
  by_cases h : m * 2 ^ A % n = 0
  · rw [decide_eq_true h, if_pos h]; rfl
  · rw [decide_eq_false h, if_neg h]; rfl
theorem sq_model (m n A : Nat) : 2 * ((m <<< A) / n) + ((m <<< A) % n != 0).toNat = sqV m n A := by
  unfold sqV
  rw [Nat.shiftLeft_eq]
  by_cases h : m * 2 ^ A % n = 0
  · rw [if_pos h, h]; rfl
  · rw [if_neg h, bne_iff_ne.2 h]; rfl
end Go.Proofs.Ytpobgkcobgecoab
/- Plain facts: a number rounded to binary32, as a signed rung. -/
namespace Go.Proofs.Ytpobgkcobgecoab
open Go.RowKit
set_option linter.unusedVariables false
set_option linter.unusedSimpArgs false

/-- A number in units of 2^-1074, rounded to binary32: the signed rung. -/
def RS (Z : Int) : Int := if Z < 0 then -(rungOf Ieee.single Z.natAbs (-1074) : Int) else (rungOf Ieee.single Z.natAbs (-1074) : Int)
theorem RS_mono {Y Z : Int} (h : Y ≤ Z) : RS Y ≤ RS Z := by
  unfold RS
  by_cases hy : Y < 0
  · rw [if_pos hy]
    by_cases hz : Z < 0
    · rw [if_pos hz]
      have := rung_mono Ieee.single (-1074) (show Z.natAbs ≤ Y.natAbs by omega)
      omega
    · rw [if_neg hz]; omega
  · rw [if_neg hy, if_neg (by omega)]
    have := rung_mono Ieee.single (-1074) (show Y.natAbs ≤ Z.natAbs by omega)
    omega
theorem srung_told {σ : Bool} {Z : Int} {N : Nat} {b : Int} (hσ : Z ≠ 0 → σ = decide (Z < 0)) (hN : rungOf Ieee.single N b = rungOf Ieee.single Z.natAbs (-1074)) : srung32 (toldD (some (.number σ N b))) = RS Z ∧ nanN (toldD (some (.number σ N b))) = false := by
  rw [toldD_num, hN]
  have hle : rungOf Ieee.single Z.natAbs (-1074) ≤ 2139095040 := by have := rungOf_le Ieee.single Z.natAbs (-1074); rw [inf32] at this; exact this
  obtain ⟨a, b'⟩ := sgn_word32 σ (r := rungOf Ieee.single Z.natAbs (-1074)) (by omega)
  refine ⟨?_, nanN_word hle⟩
  unfold srung32 RS
  rw [a, b']
  by_cases h : Z = 0
  · subst h
    rw [show (0 : Int).natAbs = 0 from rfl, rungOf_zero]
    cases σ <;> rfl
  · rw [hσ h]
    by_cases k : Z < 0
    · rw [decide_eq_true k, if_pos rfl, if_pos k]
    · rw [decide_eq_false k, if_neg (by decide), if_neg k]
theorem samp_eq (a : Nat) {c : Nat} (hc : c = 925) : sampleZ a = sval32 a * 2 ^ c := by
  unfold sampleZ sval32 val32 Ieee.signed
  rw [← hc, Nat.shiftLeft_eq, Nat.pow_add, ← Nat.mul_assoc]
  split
  · rw [Int.neg_mul, Int.natCast_mul, Int.natCast_pow]; rfl
  · rw [Int.natCast_mul, Int.natCast_pow]; rfl
theorem sval_le {a b : Nat} (h : srung32 a ≤ srung32 b) : sval32 a ≤ sval32 b := by
  have e := sval_srung32 a b
  rcases Int.lt_or_le (sval32 b) (sval32 a) with g | g
  · rw [Int.compare_eq_gt.2 g] at e
    have := Int.compare_eq_gt.1 e.symm
    omega
  · exact g
theorem sval_eq {a b : Nat} (h : sval32 a = sval32 b) : srung32 a = srung32 b := by
  have e := sval_srung32 a b
  rw [Int.compare_eq_eq.2 h] at e
  exact Int.compare_eq_eq.1 e.symm
theorem samp_le {a b : Nat} (h : srung32 a ≤ srung32 b) : sampleZ a ≤ sampleZ b := by
  obtain ⟨c, hc⟩ : ∃ c : Nat, c = 925 := ⟨_, rfl⟩
  rw [samp_eq a hc, samp_eq b hc]
  exact Int.mul_le_mul_of_nonneg_right (sval_le h) (Int.le_of_lt (Int.pow_pos (by decide)))
theorem srung_bd {x : Nat} (h : nanN x = false) : -2139095040 ≤ srung32 x ∧ srung32 x ≤ 2139095040 := by
  rw [nanN_rung] at h
  have h := of_decide_eq_false h
  unfold srung32
  split <;> omega
theorem fin_srung {x : Nat} (h : rung32 x < 2139095040) : -2139095040 < srung32 x ∧ srung32 x < 2139095040 := by
  unfold srung32; split <;> omega
theorem RS_self {a : Nat} (h : rung32 a < 2139095040) : RS (sampleZ a) = srung32 a := by
  have habs : (sampleZ a).natAbs = mag32 (rung32 a) * 2 ^ (plc32 (rung32 a) + 925) := by unfold sampleZ; rw [signed_abs]
  have hr : rungOf Ieee.single (sampleZ a).natAbs (-1074) = rung32 a := by
    rw [habs, rung_scale, show (-1074 + ((plc32 (rung32 a) + 925 : Nat) : Int)) = -149 + (plc32 (rung32 a) : Int) by omega]
    exact self32 h
  unfold RS srung32
  rw [hr]
  by_cases z : sampleZ a = 0
  · have : rung32 a = 0 := by rw [← hr, z]; exact rungOf_zero _ _
    rw [this]; split <;> split <;> rfl
  · have hs : sgn32 a = decide (sampleZ a < 0) := signed_sign z
    rw [hs]
    by_cases k : sampleZ a < 0
    · rw [if_pos k, if_pos (decide_eq_true k)]
    · rw [if_neg k, if_neg (by simp; omega)]
end Go.Proofs.Ytpobgkcobgecoab
/- What weights make of finite samples: it rises, and of one sample it is that sample. Plain. -/
namespace Go.Proofs.Ytpobgkcobgecoab
open Go.RowKit
set_option linter.unusedVariables false
set_option linter.unusedSimpArgs false

theorem RNb_mono {Y Z : Int} (h : Y ≤ Z) : RN Y ≤ RN Z := by
  unfold RN
  by_cases hy : Y < 0
  · rw [if_pos hy]
    by_cases hz : Z < 0
    · rw [if_pos hz]
      have := val_le64 (rung_mono Ieee.double (-1074) (show Z.natAbs ≤ Y.natAbs by omega))
      omega
    · rw [if_neg hz]; omega
  · rw [if_neg hy, if_neg (by omega)]
    have := val_le64 (rung_mono Ieee.double (-1074) (show Y.natAbs ≤ Z.natAbs by omega))
    omega
/-- A finite word of binary64 worth Z. -/
structure Wb (x : Nat) (Z : Int) : Prop where
  fin : rung64 x < 9218868437227405312
  val : sval64 x = Z
theorem Wb.prod {x : Nat} (hx : rung32 x < 2139095040) {y : Int} (h0 : y ≤ 268435456) (h1 : -268435456 ≤ y) : Wb (opT .mul (floatOfInt .f64 y) (wideW x)) (y * sampleZ x) := by
  obtain ⟨m, g, a, b, c⟩ := X_formq hx
  obtain ⟨f, v⟩ := (IsDq.prod hx h0 h1).sval a b c (Nat.le_trans (show y.natAbs ≤ 268435456 by omega) (by decide))
  exact ⟨f, v⟩
theorem Wb.add {x y : Nat} {X Y : Int} (hx : Wb x X) (hy : Wb y Y) (hs : (X + Y).natAbs.log2 ≤ 2000) : Wb (opT .add x y) (RN (X + Y)) := by
  show Wb (add64V x y) _
  unfold add64V
  rw [read_fin64 hx.fin, read_fin64 hy.fin]
  obtain ⟨N, c, e1, e2⟩ := sum_units (sgn64 x) (sgn64 y) (mag64 (rung64 x)) (mag64 (rung64 y)) (-1074 + (plc64 (rung64 x) : Int)) (-1074 + (plc64 (rung64 y) : Int)) (by omega) (by omega)
  rw [show (-1074 + (plc64 (rung64 x) : Int) + 1074).toNat = plc64 (rung64 x) by omega, show (-1074 + (plc64 (rung64 y) : Int) + 1074).toNat = plc64 (rung64 y) by omega, ← sval_signed64q, ← sval_signed64q, hx.val, hy.val] at e1 e2
  rw [e1, told64_numq, e2]
  obtain ⟨_, _, h1, h2⟩ := wordOf_facts (σ := sg (sgn64 x) (sgn64 y) (X + Y)) hs (fun h => sg_of h)
  exact ⟨h1, h2⟩
theorem log_powb {n e : Nat} (h : n ≤ 2 ^ e) (he : e ≤ 1990) : n.log2 ≤ 2000 := by
  by_cases h0 : n = 0
  · subst h0; decide
  · have h2 : n < 2 ^ (e + 1) := by rw [Nat.pow_add]; have := Nat.two_pow_pos e; omega
    have := (Nat.log2_lt h0).2 h2
    omega
/-- Sums of products, each rounded. -/
def racc (W : Nat → Int) (S : Nat → Nat) : Nat → Int
  | 0 => W 0 * sampleZ (S 0)
  | k + 1 => RN (racc W S k + W (k + 1) * sampleZ (S (k + 1)))
theorem samp_capb {a : Nat} (h : rung32 a < 2139095040) {y : Int} (h0 : y ≤ 268435456) (h1 : -268435456 ≤ y) {j : Nat} (hj : j = 1230) : (y * sampleZ a).natAbs ≤ 2 ^ j := by
  have hs : (sampleZ a).natAbs ≤ 2 ^ (j - 28) := by
    unfold sampleZ
    rw [signed_abs]
    have hp := plc_le32 h
    have h1 : mag32 (rung32 a) * 2 ^ (plc32 (rung32 a) + 925) < 2 ^ 24 * 2 ^ (plc32 (rung32 a) + 925) := Nat.mul_lt_mul_of_pos_right (mag_lt32 _) (Nat.two_pow_pos _)
    rw [← Nat.pow_add] at h1
    exact Nat.le_trans (Nat.le_of_lt h1) (Nat.pow_le_pow_right (by decide) (by omega))
  rw [Int.natAbs_mul]
  have e : 2 ^ j = 2 ^ 28 * 2 ^ (j - 28) := by rw [← Nat.pow_add]; congr 1; omega
  rw [e]
  refine Nat.mul_le_mul ?_ hs
  have : (2 : Nat) ^ 28 = 268435456 := by decide
  omega
theorem wac_wb {W : Nat → Int} {S : Nat → Nat} {j : Nat} (hj : j = 1230) : ∀ k : Nat, k ≤ 14 → (∀ i, i ≤ k → rung32 (S i) < 2139095040 ∧ 0 ≤ W i ∧ W i ≤ 3432) → Wb (wac W S k) (racc W S k) ∧ (racc W S k).natAbs ≤ 2 ^ (j + 2 * k)
  | 0, _, h => by
    obtain ⟨h1, h2, h3⟩ := h 0 (by omega)
    exact ⟨Wb.prod h1 (by omega) (by omega), samp_capb h1 (by omega) (by omega) (by omega)⟩
  | k + 1, hk, h => by
    obtain ⟨i1, i2⟩ := wac_wb hj k (by omega) (fun i hi => h i (by omega))
    obtain ⟨h1, h2, h3⟩ := h (k + 1) (by omega)
    have hc := samp_capb h1 (y := W (k + 1)) (by omega) (by omega) hj
    have hm : (2 : Nat) ^ j ≤ 2 ^ (j + 2 * k) := Nat.pow_le_pow_right (by decide) (by omega)
    have hs : (racc W S k + W (k + 1) * sampleZ (S (k + 1))).natAbs ≤ 2 ^ (j + 2 * k + 1) := by rw [Nat.pow_succ]; omega
    have hl := log_powb hs (by omega)
    refine ⟨i1.add (Wb.prod h1 (by omega) (by omega)) hl, ?_⟩
    have := RN_le hl
    show (RN _).natAbs ≤ _
    rw [show j + 2 * (k + 1) = j + 2 * k + 1 + 1 by omega, Nat.pow_succ]
    omega
theorem racc_mono {W : Nat → Int} {S T : Nat → Nat} : ∀ k : Nat, (∀ i, i ≤ k → 0 ≤ W i ∧ srung32 (S i) ≤ srung32 (T i)) → racc W S k ≤ racc W T k
  | 0, h => Int.mul_le_mul_of_nonneg_left (samp_le (h 0 (by omega)).2) (h 0 (by omega)).1
  | k + 1, h => by
    have i1 := racc_mono k (fun i hi => h i (by omega))
    have i2 := Int.mul_le_mul_of_nonneg_left (samp_le (h (k + 1) (by omega)).2) (h (k + 1) (by omega)).1
    exact RNb_mono (by omega)
/-- A number divided by a whole number, as a rung. -/
def qrg (k z : Nat) : Nat := rungOf Ieee.double (sqV z k 100) (-1074 - (100 : Nat) - 1)
theorem sqV_mono {k A z y : Nat} (hk : 0 < k) (h : z ≤ y) : sqV z k A ≤ sqV y k A := by
  unfold sqV
  have h1 : z * 2 ^ A ≤ y * 2 ^ A := Nat.mul_le_mul_right _ h
  generalize z * 2 ^ A = a at *
  generalize y * 2 ^ A = b at *
  have d1 := Nat.div_add_mod a k
  have d2 := Nat.div_add_mod b k
  have m1 := Nat.mod_lt a hk
  have m2 := Nat.mod_lt b hk
  have hd : a / k ≤ b / k := Nat.div_le_div_right h1
  rcases Nat.lt_or_ge (a / k) (b / k) with c | c
  · split <;> split <;> omega
  · have e : a / k = b / k := by omega
    rw [e] at d1 ⊢
    split <;> split <;> omega
theorem qrg_mono {k z y : Nat} (hk : 0 < k) (h : z ≤ y) : qrg k z ≤ qrg k y := rung_mono _ _ (sqV_mono hk h)
theorem qrg_exact {k X : Nat} (hk : 0 < k) : qrg k (k * X) = rungOf Ieee.double X (-1074) := by
  have e : sqV (k * X) k 100 = X * 2 ^ 101 := by
    unfold sqV
    have h1 : k * X * 2 ^ 100 = X * 2 ^ 100 * k := by rw [Nat.mul_comm k X, Nat.mul_assoc, Nat.mul_comm k, ← Nat.mul_assoc]
    rw [h1, Nat.mul_div_cancel _ hk, Nat.mul_mod_left, if_pos rfl, Nat.add_zero, show (2 : Nat) ^ 101 = 2 ^ 100 * 2 by decide, Nat.mul_comm 2 (X * 2 ^ 100), Nat.mul_assoc]
  unfold qrg
  rw [e, rung_scale]
  congr 1
theorem sqV_shift (m n A j : Nat) : sqV m (n * 2 ^ j) (A + j) = sqV m n A := by
  unfold sqV
  have hp := Nat.two_pow_pos j
  have e1 : m * 2 ^ (A + j) = m * 2 ^ A * 2 ^ j := by rw [Nat.pow_add, Nat.mul_assoc]
  rw [e1, Nat.mul_div_mul_right _ _ hp, Nat.mul_mod_mul_right]
  have : m * 2 ^ A % n * 2 ^ j = 0 ↔ m * 2 ^ A % n = 0 := by
    constructor
    · intro h
      rcases Nat.mul_eq_zero.1 h with c | c
      · exact c
      · omega
    · intro h; rw [h, Nat.zero_mul]
  by_cases h : m * 2 ^ A % n = 0
  · rw [if_pos h, if_pos (this.2 h)]
  · rw [if_neg h, if_neg (fun c => h (this.1 c))]
theorem quo_word {D k : Nat} {Z : Int} (hD : Wb D Z) (hk : 1 ≤ k) (hk2 : k ≤ 16384) : opT .quo D (floatOfInt .f64 (k : Int)) = Ieee.double.word (sgn64 D) (qrg k Z.natAbs) := by
  obtain ⟨j, p, hr, hp⟩ := read_weightq (y := (k : Int)) (by omega) (by omega)
  rw [decide_eq_false (by omega), hp (by omega), Int.natAbs_natCast] at hr
  have hv : Z.natAbs = mag64 (rung64 D) * 2 ^ plc64 (rung64 D) := by rw [← hD.val]; exact val_abs D
  unfold opT
  rw [read_fin64 hD.fin, hr]
  show told64 ((Ieee.Datum.number (sgn64 D) (mag64 (rung64 D)) (-1074 + (plc64 (rung64 D) : Int))).quotient 54 (.number false (k * 2 ^ j) (-(j : Int)))) = _
  have hn0 : k * 2 ^ j ≠ 0 := by have := Nat.mul_pos hk (Nat.two_pow_pos j); omega
  have em : (Ieee.Datum.number (sgn64 D) (mag64 (rung64 D)) (-1074 + (plc64 (rung64 D) : Int))).quotient 54 (.number false (k * 2 ^ j) (-(j : Int))) = some (.number (sgn64 D ^^ false) (sqV (mag64 (rung64 D)) (k * 2 ^ j) (54 + (k * 2 ^ j).log2 - (mag64 (rung64 D)).log2)) (-1074 + (plc64 (rung64 D) : Int) - (-(j : Int)) - ((54 + (k * 2 ^ j).log2 - (mag64 (rung64 D)).log2 : Nat) : Int) - 1)) := by
    rw [← sq_model]
    simp [Ieee.Datum.quotient, hn0]
  rw [em, told64_numq, Bool.xor_false]
  refine congrArg (Ieee.double.word (sgn64 D)) ?_
  by_cases hm : mag64 (rung64 D) = 0
  · rw [hm] at hv ⊢
    rw [hv, Nat.zero_mul]
    unfold qrg sqV
    simp [rungOf_zero]
  · have hd := quo_digits (m := mag64 (rung64 D)) (n := k * 2 ^ j) hm hn0 (d := 54) (by decide)
    have hlog : (k * 2 ^ j).log2 ≤ j + 14 := by
      have : k * 2 ^ j < 2 ^ (j + 15) := by
        rw [Nat.pow_add, Nat.mul_comm (2 ^ j)]
        exact Nat.mul_lt_mul_of_pos_right (by omega) (Nat.two_pow_pos j)
      have := (Nat.log2_lt hn0).2 this
      omega
    have hl := sq_link Ieee.double (m := mag64 (rung64 D)) (n := k * 2 ^ j) (A := plc64 (rung64 D) + 100 + j) (B := 54 + (k * 2 ^ j).log2 - (mag64 (rung64 D)).log2) (-1074 + (plc64 (rung64 D) : Int) - (-(j : Int))) (by omega) (by omega) hd
    rw [← hl, sqV_shift, show sqV (mag64 (rung64 D)) k (plc64 (rung64 D) + 100) = sqV Z.natAbs k 100 by unfold sqV; rw [hv, Nat.pow_add, Nat.mul_assoc]]
    unfold qrg
    congr 1
    omega
theorem qrg_fin {k z e : Nat} (hk : 1 ≤ k) (hz : z ≤ 2 ^ e) (he : e ≤ 1900) : qrg k z < 9218868437227405312 := by
  have h1 : qrg k z ≤ qrg k (k * 2 ^ e) := qrg_mono hk (Nat.le_trans hz (Nat.le_mul_of_pos_left _ hk))
  rw [qrg_exact hk] at h1
  have h2 : val64 (rungOf Ieee.double (2 ^ e) (-1074)) = 2 ^ e := vN_exact (g := e) (log_powb (Nat.le_refl _) (by omega)) ⟨1, by omega⟩ (by rw [Nat.pow_add]; have := Nat.two_pow_pos e; omega)
  have h3 : rungOf Ieee.double (2 ^ e) (-1074) < 9218868437227405312 := by
    refine val_inj_lt64.1 ?_
    rw [h2]
    show 2 ^ e < mag64 9218868437227405312 * 2 ^ plc64 9218868437227405312
    obtain ⟨P, hP, hP2⟩ : ∃ P, plc64 9218868437227405312 = P ∧ 2046 ≤ P := ⟨_, rfl, by decide⟩
    rw [show mag64 9218868437227405312 = 2 ^ 52 by decide, hP, ← Nat.pow_add]
    exact Nat.pow_lt_pow_right (by decide) (by omega)
  omega
/-- The signed value of a quotient. -/
def qsv (k : Nat) (Z : Int) : Int := if Z < 0 then -(val64 (qrg k Z.natAbs) : Int) else (val64 (qrg k Z.natAbs) : Int)
theorem qsv_mono {k : Nat} (hk : 1 ≤ k) {Y Z : Int} (h : Y ≤ Z) : qsv k Y ≤ qsv k Z := by
  unfold qsv
  by_cases hy : Y < 0
  · rw [if_pos hy]
    by_cases hz : Z < 0
    · rw [if_pos hz]
      have := val_le64 (qrg_mono (k := k) hk (show Z.natAbs ≤ Y.natAbs by omega))
      omega
    · rw [if_neg hz]; omega
  · rw [if_neg hy, if_neg (by omega)]
    have := val_le64 (qrg_mono (k := k) hk (show Y.natAbs ≤ Z.natAbs by omega))
    omega
theorem nar_quo {D k e : Nat} {Z : Int} (hD : Wb D Z) (hk : 1 ≤ k) (hk2 : k ≤ 16384) (hz : Z.natAbs ≤ 2 ^ e) (he : e ≤ 1900) : srung32 (narW (opT .quo D (floatOfInt .f64 (k : Int)))) = RS (qsv k Z) ∧ nanN (narW (opT .quo D (floatOfInt .f64 (k : Int)))) = false := by
  rw [quo_word hD hk hk2]
  have hf := qrg_fin hk hz he
  obtain ⟨k1, k2⟩ := sgn_word64 (sgn64 D) (r := qrg k Z.natAbs) (by omega)
  unfold narW
  rw [read_fin64 (by rw [k2]; exact hf), k1, k2]
  have hsz : Z ≠ 0 → sgn64 D = decide (Z < 0) := fun h => by
    have := signed_sign (s := sgn64 D) (m := mag64 (rung64 D)) (k := plc64 (rung64 D))
    rw [← sval_signed64q, hD.val] at this
    exact this h
  have habs : (qsv k Z).natAbs = val64 (qrg k Z.natAbs) := by unfold qsv; split <;> omega
  refine srung_told (fun h => ?_) ?_
  · have hZ : Z ≠ 0 := fun e => h (by
      rw [e]; unfold qsv qrg sqV
      simp [rungOf_zero]
      decide)
    rw [hsz hZ]
    refine decide_eq_decide.2 ⟨fun g => ?_, fun g => ?_⟩
    · have : qsv k Z = -(val64 (qrg k Z.natAbs) : Int) := by unfold qsv; rw [if_pos g]
      omega
    · rcases Int.lt_or_le Z 0 with c | c
      · exact c
      · have : qsv k Z = (val64 (qrg k Z.natAbs) : Int) := by unfold qsv; rw [if_neg (by omega)]
        omega
  · rw [habs]
    unfold val64
    rw [rung_scale]
theorem qsv_exact {k x : Nat} (hx : rung32 x < 2139095040) (hk : 1 ≤ k) : qsv k ((k : Int) * sampleZ x) = sampleZ x := by
  obtain ⟨m, g, a, b, c⟩ := X_formq hx
  have hv := (kX_valq (X := sampleZ x) (k := 1) a b c (by decide)).1
  rw [Int.one_mul] at hv
  have ha : ((k : Int) * sampleZ x).natAbs = k * (sampleZ x).natAbs := by rw [Int.natAbs_mul, Int.natAbs_natCast]
  unfold qsv
  rw [ha, qrg_exact hk, hv]
  rcases Int.lt_or_le (sampleZ x) 0 with h | h
  · rw [if_pos (Int.mul_neg_of_pos_of_neg (by omega) h)]; omega
  · rw [if_neg (by have := Int.mul_nonneg (show (0 : Int) ≤ (k : Int) by omega) h; omega)]; omega
/-- A kernel's weights, of finite samples. -/
theorem mix_key {kind : Int} {r : Nat} (hr : r ≤ 7) (hw : bwE kind r = 0) {S : Nat → Nat} (hS : ∀ i, i < 2 * r + 1 → rung32 (S i) < 2139095040) : ∃ k : Nat, 1 ≤ k ∧ srung32 (mixB kind r S) = RS (qsv k (racc (bwV kind r) S (2 * r))) ∧ nanN (mixB kind r S) = false ∧ (k : Int) = smW (bwV kind r) (2 * r + 1) := by
  obtain ⟨j, hj⟩ : ∃ j : Nat, j = 1230 := ⟨_, rfl⟩
  have hs := bw_sum hw hr
  obtain ⟨w1, w2⟩ := wac_wb (W := bwV kind r) (S := S) hj (2 * r) (by omega) (fun i hi => ⟨hS i (by omega), bw_bd hr i (by omega)⟩)
  obtain ⟨k, hk⟩ : ∃ k : Nat, smW (bwV kind r) (2 * r + 1) = (k : Int) := ⟨(smW (bwV kind r) (2 * r + 1)).toNat, by omega⟩
  rw [hk] at hs
  have := nar_quo w1 (k := k) (by omega) (by omega) w2 (by omega)
  refine ⟨k, by omega, ?_, ?_, hk.symm⟩
  · unfold mixB wghV
    rw [hk]
    exact this.1
  · unfold mixB wghV
    rw [hk]
    exact this.2
theorem mix_rises {kind : Int} {r : Nat} (hr : r ≤ 7) (hw : bwE kind r = 0) {S T : Nat → Nat} (hS : ∀ i, i < 2 * r + 1 → rung32 (S i) < 2139095040) (hT : ∀ i, i < 2 * r + 1 → rung32 (T i) < 2139095040) (hle : ∀ i, i < 2 * r + 1 → srung32 (S i) ≤ srung32 (T i)) : srung32 (mixB kind r S) ≤ srung32 (mixB kind r T) := by
  obtain ⟨k, k1, k2, _, k4⟩ := mix_key hr hw hS
  obtain ⟨l, l1, l2, _, l4⟩ := mix_key hr hw hT
  have e : l = k := by omega
  subst e
  rw [k2, l2]
  exact RS_mono (qsv_mono k1 (racc_mono _ (fun i hi => ⟨(bw_bd hr i (by omega)).1, hle i (by omega)⟩)))
end Go.Proofs.Ytpobgkcobgecoab
/- Blurs of planes: one sample stays; they rise. Plain. -/
namespace Go.Proofs.Ytpobgkcobgecoab
open Go.RowKit
set_option linter.unusedVariables false
set_option linter.unusedSimpArgs false

theorem wac_congr {W : Nat → Int} {S T : Nat → Nat} : ∀ k : Nat, (∀ i, i ≤ k → S i = T i) → wac W S k = wac W T k
  | 0, h => by unfold wac wpr; rw [h 0 (by omega)]
  | k + 1, h => by unfold wac wpr; rw [wac_congr k (fun i hi => h i (by omega)), h (k + 1) (by omega)]
theorem mixB_congr {kind : Int} {r : Nat} {S T : Nat → Nat} (h : ∀ i, i < 2 * r + 1 → S i = T i) : mixB kind r S = mixB kind r T := by
  unfold mixB wghV
  rw [wac_congr (2 * r) (fun i hi => h i (by omega))]
theorem racc_const {W : Nat → Int} {x : Nat} (hx : rung32 x < 2139095040) : ∀ k : Nat, k ≤ 14 → (∀ i, i ≤ k → 0 ≤ W i ∧ W i ≤ 3432) → racc W (fun _ => x) k = smW W (k + 1) * sampleZ x
  | 0, _, _ => by show W 0 * sampleZ x = (0 + W 0) * sampleZ x; rw [Int.zero_add]
  | k + 1, hk, h => by
    have ih := racc_const hx k (by omega) (fun i hi => h i (by omega))
    have hb := smW_bd (W := W) (B := 3432) (by decide) (k + 2) (fun i hi => h i (by omega))
    have e : smW W (k + 1) * sampleZ x + W (k + 1) * sampleZ x = smW W (k + 2) * sampleZ x := by
      show _ = (smW W (k + 1) + W (k + 1)) * sampleZ x
      rw [Int.add_mul]
    unfold racc
    rw [ih, e]
    obtain ⟨m, g, a, b, c⟩ := X_formq hx
    have hn : (smW W (k + 2)).natAbs ≤ 2 ^ 28 := by
      have : (2 : Nat) ^ 28 = 268435456 := by decide
      have : ((k + 2 : Nat) : Int) * 3432 ≤ 16 * 3432 := Int.mul_le_mul_of_nonneg_right (by omega) (by decide)
      omega
    have := (kX_valq (X := sampleZ x) (k := smW W (k + 2)) a b c hn).1
    clear ih e hb hn
    generalize smW W (k + 2) * sampleZ x = Z at *
    unfold RN
    split <;> omega
theorem word_of_srung {a b : Nat} (ha : a < 4294967296) (hb : b < 4294967296) (h : srung32 a = srung32 b) (h0 : srung32 b ≠ 0) : a = b := by
  unfold srung32 sgn32 rung32 at h h0
  have a1 : a / 2147483648 = 0 ∨ a / 2147483648 = 1 := by omega
  have b1 : b / 2147483648 = 0 ∨ b / 2147483648 = 1 := by omega
  rcases a1 with a1 | a1 <;> rcases b1 with b1 | b1 <;> rw [a1, b1] at h <;> rw [b1] at h0 <;> simp at h h0 <;> omega
theorem mix_four : ∀ (r : Fin 8) (k : Fin 2), ∀ x ∈ [0, 2147483648, 2139095040, 4286578688], mixB ((k.val : Int) + 1) r.val (fun _ => x) = x := by decide +kernel
theorem mix_const {kind : Int} {r : Nat} (hr : r ≤ 7) (hw : bwE kind r = 0) {S : Nat → Nat} {x : Nat} (hx : rung32 x ≤ 2139095040) (hx4 : x < 4294967296) (hS : ∀ i, i < 2 * r + 1 → S i = x) : mixB kind r S = x := by
  rw [mixB_congr (T := fun _ => x) hS]
  by_cases hz : srung32 x = 0 ∨ rung32 x = 2139095040
  · have hm : x ∈ [0, 2147483648, 2139095040, 4286578688] := by
      simp only [List.mem_cons, List.not_mem_nil, or_false]
      unfold srung32 rung32 at hz
      unfold rung32 at hx
      rcases hz with h | h
      · split at h <;> omega
      · omega
    rcases bw_kind hw with rfl | rfl
    · exact mix_four ⟨r, by omega⟩ 0 x hm
    · exact mix_four ⟨r, by omega⟩ 1 x hm
  · have hf : rung32 x < 2139095040 := by omega
    obtain ⟨k, k1, k2, _, k4⟩ := mix_key hr hw (S := fun _ => x) (fun _ _ => hf)
    rw [racc_const hf (2 * r) (by omega) (fun i hi => bw_bd hr i (by omega)), ← k4, qsv_exact hf k1, RS_self hf] at k2
    exact word_of_srung (mixB_lt _ _ _) hx4 k2 (by omega)
theorem fin_of_srungb {x : Nat} (h : -2139095040 < srung32 x ∧ srung32 x < 2139095040) : rung32 x < 2139095040 := by
  unfold srung32 at h
  split at h <;> omega
theorem mix_between {kind : Int} {r : Nat} (hr : r ≤ 7) (hw : bwE kind r = 0) {S : Nat → Nat} {lo hi : Nat} (hlo : rung32 lo < 2139095040 ∧ lo < 4294967296) (hhi : rung32 hi < 2139095040 ∧ hi < 4294967296) (hS : ∀ i, i < 2 * r + 1 → rung32 (S i) < 2139095040 ∧ srung32 lo ≤ srung32 (S i) ∧ srung32 (S i) ≤ srung32 hi) : srung32 lo ≤ srung32 (mixB kind r S) ∧ srung32 (mixB kind r S) ≤ srung32 hi ∧ rung32 (mixB kind r S) < 2139095040 := by
  have cl := mix_const hr hw (S := fun _ => lo) (x := lo) (by omega) hlo.2 (fun _ _ => rfl)
  have ch := mix_const hr hw (S := fun _ => hi) (x := hi) (by omega) hhi.2 (fun _ _ => rfl)
  have r1 := mix_rises hr hw (S := fun _ => lo) (T := S) (fun _ _ => hlo.1) (fun i h => (hS i h).1) (fun i h => (hS i h).2.1)
  have r2 := mix_rises hr hw (S := S) (T := fun _ => hi) (fun i h => (hS i h).1) (fun _ _ => hhi.1) (fun i h => (hS i h).2.2)
  rw [cl] at r1
  rw [ch] at r2
  have f1 := fin_srung hlo.1
  have f2 := fin_srung hhi.1
  exact ⟨r1, r2, fin_of_srungb ⟨by omega, by omega⟩⟩
theorem lohi_b {y : Nat} (h : rung32 y < 2139095040) : rung32 y < 2139095040 ∧ srung32 4286578687 ≤ srung32 y ∧ srung32 y ≤ srung32 2139095039 := by
  have := fin_srung h
  have e1 : srung32 4286578687 = -2139095039 := by decide
  have e2 : srung32 2139095039 = 2139095039 := by decide
  rw [e1, e2]
  exact ⟨h, by omega, by omega⟩
/-- Where a window of a line lies. -/
theorem row_in {k pa pb j t r : Nat} (hpa : 0 < pa) (hj : j < pa * pb) : (j / pa) * pa + (borV k pa (((j % pa : Nat) : Int) + (t : Int) - (r : Int))).toNat < pa * pb := by
  have hb := borV_lt (k := k) (n := (pa : Int)) (((j % pa : Nat) : Int) + (t : Int) - (r : Int)) (by omega)
  have hd : j / pa < pb := Nat.div_lt_of_lt_mul hj
  have : (j / pa + 1) * pa ≤ pb * pa := Nat.mul_le_mul_right _ hd
  rw [Nat.add_mul, Nat.one_mul, Nat.mul_comm pb pa] at this
  omega
theorem col_in {k pa pb j t r : Nat} (hpa : 0 < pa) (hpb : 0 < pb) : (borV k pb (((j / pa : Nat) : Int) + (t : Int) - (r : Int))).toNat * pa + j % pa < pa * pb := by
  have hb := borV_lt (k := k) (n := (pb : Int)) (((j / pa : Nat) : Int) + (t : Int) - (r : Int)) (by omega)
  have hm := Nat.mod_lt j hpa
  have hbl : (borV k pb (((j / pa : Nat) : Int) + (t : Int) - (r : Int))).toNat + 1 ≤ pb := by omega
  generalize (borV k pb (((j / pa : Nat) : Int) + (t : Int) - (r : Int))).toNat = b at hbl ⊢
  have : (b + 1) * pa ≤ pb * pa := Nat.mul_le_mul_right _ hbl
  rw [Nat.add_mul, Nat.one_mul, Nat.mul_comm pb pa] at this
  omega
theorem blu_const {kind : Int} {r k pa pb x : Nat} {S : List Nat} (hr : r ≤ 7) (hw : bwE kind r = 0) (hpa : 0 < pa) (hpb : 0 < pb) (hx : rung32 x ≤ 2139095040) (hx4 : x < 4294967296) (hS : ∀ i, i < pa * pb → S.getD i 0 = x) {j : Nat} (hj : j < pa * pb) : bluV kind r k pa pb S j = x := by
  unfold bluV colB alV
  refine mix_const hr hw hx hx4 (fun t ht => ?_)
  have h1 := col_in (k := k) (j := j) (t := t) (r := r) hpa hpb
  show (tabB (pa * pb) _).getD ((borV k pb (((j / pa : Nat) : Int) + (t : Int) - (r : Int))).toNat * pa + j % pa) 0 = x
  rw [tabB_at h1]
  unfold rowB alV
  refine mix_const hr hw hx hx4 (fun u hu => ?_)
  exact hS _ (row_in hpa h1)
theorem blu_rises {kind : Int} {r k pa pb : Nat} {S T : List Nat} (hr : r ≤ 7) (hw : bwE kind r = 0) (hpa : 0 < pa) (hpb : 0 < pb) (hS : ∀ i, i < pa * pb → rung32 (S.getD i 0) < 2139095040) (hT : ∀ i, i < pa * pb → rung32 (T.getD i 0) < 2139095040) (hle : ∀ i, i < pa * pb → srung32 (S.getD i 0) ≤ srung32 (T.getD i 0)) {j : Nat} (hj : j < pa * pb) : srung32 (bluV kind r k pa pb S j) ≤ srung32 (bluV kind r k pa pb T j) := by
  have fl : ∀ V : List Nat, (∀ i, i < pa * pb → rung32 (V.getD i 0) < 2139095040) → ∀ i, i < pa * pb → rung32 (rowB (mixB kind r) r k pa V i) < 2139095040 := fun V hV i hi => by
    unfold rowB alV
    refine (mix_between hr hw (lo := 4286578687) (hi := 2139095039) ⟨by decide, by decide⟩ ⟨by decide, by decide⟩ (fun t ht => ?_)).2.2
    exact lohi_b (hV _ (row_in (k := k) (t := t) (r := r) hpa hi))
  unfold bluV colB alV
  refine mix_rises hr hw (fun t ht => ?_) (fun t ht => ?_) (fun t ht => ?_)
  · have h1 := col_in (k := k) (j := j) (t := t) (r := r) hpa hpb
    show rung32 ((tabB (pa * pb) _).getD ((borV k pb (((j / pa : Nat) : Int) + (t : Int) - (r : Int))).toNat * pa + j % pa) 0) < _
    rw [tabB_at h1]; exact fl S hS _ h1
  · have h1 := col_in (k := k) (j := j) (t := t) (r := r) hpa hpb
    show rung32 ((tabB (pa * pb) _).getD ((borV k pb (((j / pa : Nat) : Int) + (t : Int) - (r : Int))).toNat * pa + j % pa) 0) < _
    rw [tabB_at h1]; exact fl T hT _ h1
  · have h1 := col_in (k := k) (j := j) (t := t) (r := r) hpa hpb
    show srung32 ((tabB (pa * pb) _).getD ((borV k pb (((j / pa : Nat) : Int) + (t : Int) - (r : Int))).toNat * pa + j % pa) 0) ≤ srung32 ((tabB (pa * pb) _).getD ((borV k pb (((j / pa : Nat) : Int) + (t : Int) - (r : Int))).toNat * pa + j % pa) 0)
    rw [tabB_at h1, tabB_at h1]
    unfold rowB alV
    exact mix_rises hr hw (fun u _ => hS _ (row_in hpa h1)) (fun u _ => hT _ (row_in hpa h1)) (fun u _ => hle _ (row_in hpa h1))
theorem blu_between {kind : Int} {r k pa pb lo hi : Nat} {S : List Nat} (hr : r ≤ 7) (hw : bwE kind r = 0) (hpa : 0 < pa) (hpb : 0 < pb) (hlo : rung32 lo < 2139095040 ∧ lo < 4294967296) (hhi : rung32 hi < 2139095040 ∧ hi < 4294967296) (hS : ∀ i, i < pa * pb → rung32 (S.getD i 0) < 2139095040 ∧ srung32 lo ≤ srung32 (S.getD i 0) ∧ srung32 (S.getD i 0) ≤ srung32 hi) {j : Nat} (hj : j < pa * pb) : srung32 lo ≤ srung32 (bluV kind r k pa pb S j) ∧ srung32 (bluV kind r k pa pb S j) ≤ srung32 hi ∧ rung32 (bluV kind r k pa pb S j) < 2139095040 := by
  unfold bluV colB alV
  refine mix_between hr hw hlo hhi (fun t ht => ?_)
  have h1 := col_in (k := k) (j := j) (t := t) (r := r) hpa hpb
  show rung32 ((tabB (pa * pb) _).getD ((borV k pb (((j / pa : Nat) : Int) + (t : Int) - (r : Int))).toNat * pa + j % pa) 0) < _ ∧ _ ≤ srung32 ((tabB (pa * pb) _).getD ((borV k pb (((j / pa : Nat) : Int) + (t : Int) - (r : Int))).toNat * pa + j % pa) 0) ∧ srung32 ((tabB (pa * pb) _).getD ((borV k pb (((j / pa : Nat) : Int) + (t : Int) - (r : Int))).toNat * pa + j % pa) 0) ≤ _
  rw [tabB_at h1]
  unfold rowB alV
  have := mix_between (S := fun u => S.getD ((((borV k pb (((j / pa : Nat) : Int) + (t : Int) - (r : Int))).toNat * pa + j % pa) / pa) * pa + (borV k pa ((((((borV k pb (((j / pa : Nat) : Int) + (t : Int) - (r : Int))).toNat * pa + j % pa) % pa : Nat)) : Int) + (u : Int) - (r : Int))).toNat) 0) hr hw hlo hhi (fun u _ => hS _ (row_in hpa h1))
  exact ⟨this.2.2, this.1, this.2.1⟩
end Go.Proofs.Ytpobgkcobgecoab
/- The laws' own helpers. -/
namespace Go.Proofs.Ytpobgkcobgecoab
open Go.RowKit
set_option linter.unusedVariables false
set_option linter.unusedSimpArgs false

set_option maxHeartbeats 2000000 in
set_option maxRecDepth 100000 in
theorem hsize_b (W H : Int) (w : World) : Calls Try.prog 33 #[.int .i64 W, .int .i64 H] w fun e w' => e = .returned (.bool (sizeB W H)) ∧ w' = w := by
  have E : Hid (sizeB W H = true ↔ SizeB W H) := sizeB_true
  have EF : Hid (¬ SizeB W H → sizeB W H = false) := fun h => by
    cases g : sizeB W H
    · rfl
    · exact absurd (sizeB_true.1 g) h
  generalize sizeB W H = b at *
  rcases Int.lt_or_le W 1 with h0 | h0
  · obtain rfl : b = false := EF.out (fun c => by unfold SizeB at c; omega)
    clear E EF
    go_enter Try.func33, Try.ntmps33
    go_wp2_with fail
    exact bodyPost_ret (v := .bool false) (by simp [results, Try.results33, go_sem] <;> omega) rfl ⟨rfl, rfl⟩
  rcases Int.lt_or_le H 1 with h1 | h1
  · obtain rfl : b = false := EF.out (fun c => by unfold SizeB at c; omega)
    clear E EF
    go_enter Try.func33, Try.ntmps33
    go_wp2_with fail
    exact bodyPost_ret (v := .bool false) (by simp [results, Try.results33, go_sem] <;> omega) rfl ⟨rfl, rfl⟩
  rcases Int.lt_or_le 1024 W with h2 | h2
  · obtain rfl : b = false := EF.out (fun c => by unfold SizeB at c; omega)
    clear E EF
    go_enter Try.func33, Try.ntmps33
    go_wp2_with fail
    exact bodyPost_ret (v := .bool false) (by simp [results, Try.results33, go_sem] <;> omega) rfl ⟨rfl, rfl⟩
  rcases Int.lt_or_le 1024 H with h3 | h3
  · obtain rfl : b = false := EF.out (fun c => by unfold SizeB at c; omega)
    clear E EF
    go_enter Try.func33, Try.ntmps33
    go_wp2_with fail
    exact bodyPost_ret (v := .bool false) (by simp [results, Try.results33, go_sem] <;> omega) rfl ⟨rfl, rfl⟩
  have hb1 : 0 ≤ W * H := Int.mul_nonneg (by omega) (by omega)
  have hb2 : W * H ≤ 1048576 := Int.le_trans (Int.mul_le_mul h2 h3 (by omega) (by omega)) (by decide)
  rcases Int.lt_or_le 65536 (W * H) with h4 | h4
  · obtain rfl : b = false := EF.out (fun c => by unfold SizeB at c; omega)
    clear E EF
    go_enter Try.func33, Try.ntmps33
    go_wp2_with fail
    exact bodyPost_ret (v := .bool false) (by simp [results, Try.results33, go_sem] <;> omega) rfl ⟨rfl, rfl⟩
  · obtain rfl : b = true := E.out.2 (by unfold SizeB; omega)
    clear E EF
    go_enter Try.func33, Try.ntmps33
    go_wp2_with fail
    exact bodyPost_ret (v := .bool true) (by simp [results, Try.results33, go_sem] <;> omega) rfl ⟨rfl, rfl⟩
set_option maxHeartbeats 2000000 in
set_option maxRecDepth 100000 in
theorem may_any (W H : Int) (ad : Option Addr) (n c : Nat) (w : World) : Calls Try.prog 17 #[.agg #[.int .i64 W, .int .i64 H, .slice ad n c]] w fun e w' => e = .returned (.int .i64 (chk W H n)) ∧ Q w w' := by
  obtain ⟨w1, hw1⟩ : ∃ w1, w.alloc (.cells #[.int .i64 W, .int .i64 H, .slice ad n c] 24) = w1 := ⟨_, rfl⟩
  have HQ : Hid (Q w w1) := by show Q w w1; rw [← hw1]; exact (Q.refl w).cells _ _
  have k0 : w1.cell? ⟨w.heap.size, 0, none⟩ = some (.int .i64 W) := by rw [← hw1]; simp [go_sem]
  have k1 : w1.cell? ⟨w.heap.size, 1, none⟩ = some (.int .i64 H) := by rw [← hw1]; simp [go_sem]
  have k2 : w1.cell? ⟨w.heap.size, 2, none⟩ = some (.slice ad n c) := by rw [← hw1]; simp [go_sem]
  have C := hsize_b W H w1
  cases hs : sizeB W H
  · rw [hs] at C
    rw [chk_bad hs]
    go_enter Try.func17, Try.ntmps17
    go_wp2_with fail
    refine C.mono ?_
    rintro e w2 ⟨rfl, hw2⟩
    obtain rfl := hw2.symm
    clear hw2 C
    go_wp2_with fail
    go_ret
    exact ⟨rfl, HQ.out⟩
  · rw [hs] at C
    have hb := sizeB_true.1 hs
    have hb1 : 0 ≤ W * H := Int.mul_nonneg (by unfold SizeB at hb; omega) (by unfold SizeB at hb; omega)
    have hb2 : W * H ≤ 65536 := by unfold SizeB at hb; omega
    by_cases hn : (n : Int) = W * H
    · rw [chk_ok hs hn]
      have e1 : ((n : Int) != W * H) = false := by simpa using hn
      clear hn hb hs
      go_enter Try.func17, Try.ntmps17
      go_wp2_with fail
      refine C.mono ?_
      rintro e w2 ⟨rfl, hw2⟩
      obtain rfl := hw2.symm
      clear hw2 C
      go_wp2_with fail
      go_ret
      exact ⟨rfl, HQ.out⟩
    · rw [chk_count hs hn]
      have e1 : ((n : Int) != W * H) = true := by simpa using hn
      clear hn hb hs
      go_enter Try.func17, Try.ntmps17
      go_wp2_with fail
      refine C.mono ?_
      rintro e w2 ⟨rfl, hw2⟩
      obtain rfl := hw2.symm
      clear hw2 C
      go_wp2_with fail
      go_ret
      exact ⟨rfl, HQ.out⟩
/-- May a blur be asked? -/
def rgtB (W H : Int) (n : Nat) (kind r bd : Int) : Bool := decide (chk W H n = 0 ∧ (kind = 1 ∨ kind = 2) ∧ 0 ≤ r ∧ r ≤ 7 ∧ 1 ≤ bd ∧ bd ≤ 3)
set_option maxHeartbeats 2000000 in
set_option maxRecDepth 100000 in
theorem right_any (W H : Int) (ad : Option Addr) (n c : Nat) (kind r bd : Int) (w : World) : Calls Try.prog 6 #[.agg #[.int .i64 W, .int .i64 H, .slice ad n c], .int .i64 kind, .int .i64 r, .int .i64 bd] w fun e w' => e = .returned (.bool (rgtB W H n kind r bd)) ∧ Q w w' := by
  obtain ⟨w1, hw1⟩ : ∃ w1, w.alloc (.cells #[.int .i64 W, .int .i64 H, .slice ad n c] 24) = w1 := ⟨_, rfl⟩
  have HQ : Hid (Q w w1) := by show Q w w1; rw [← hw1]; exact (Q.refl w).cells _ _
  have k0 : w1.cell? ⟨w.heap.size, 0, none⟩ = some (.int .i64 W) := by rw [← hw1]; simp [go_sem]
  have k1 : w1.cell? ⟨w.heap.size, 1, none⟩ = some (.int .i64 H) := by rw [← hw1]; simp [go_sem]
  have k2 : w1.cell? ⟨w.heap.size, 2, none⟩ = some (.slice ad n c) := by rw [← hw1]; simp [go_sem]
  have C := may_any W H ad n c w1
  have E : Hid (rgtB W H n kind r bd = decide (chk W H n = 0 ∧ (kind = 1 ∨ kind = 2) ∧ 0 ≤ r ∧ r ≤ 7 ∧ 1 ≤ bd ∧ bd ≤ 3)) := rfl
  generalize rgtB W H n kind r bd = B at *
  generalize chk W H n = Z at *
  by_cases hz : Z = 0
  rotate_left
  · obtain rfl : B = false := by rw [E.out]; exact decide_eq_false (fun c => hz c.1)
    have z0 : (Z == 0) = false := by simpa using hz
    clear hz
    clear E
    go_enter Try.func6, Try.ntmps6
    go_wp2_with fail
    refine C.mono ?_
    rintro e w2 ⟨rfl, q2⟩
    have HQ2 : Hid (Q w w2) := HQ.out.trans q2
    clear C q2
    go_wp2_with fail
    exact bodyPost_ret (v := .bool false) (by simp [results, Try.results6, go_sem] <;> omega) rfl ⟨rfl, HQ2.out⟩
  subst hz
  have z0 : ((0 : Int) == 0) = true := by decide
  by_cases hk : kind = 1
  · subst hk
    have kk1 : ((1 : Int) == 1) = true := by decide
    rcases Int.lt_or_le r 0 with r1 | r1
    · obtain rfl : B = false := by rw [E.out]; exact decide_eq_false (fun c => by omega)
      clear E
      go_enter Try.func6, Try.ntmps6
      go_wp2_with fail
      refine C.mono ?_
      rintro e w2 ⟨rfl, q2⟩
      have HQ2 : Hid (Q w w2) := HQ.out.trans q2
      clear C q2
      go_wp2_with fail
      exact bodyPost_ret (v := .bool false) (by simp [results, Try.results6, go_sem] <;> omega) rfl ⟨rfl, HQ2.out⟩
    rcases Int.lt_or_le 7 r with r2 | r2
    · obtain rfl : B = false := by rw [E.out]; exact decide_eq_false (fun c => by omega)
      clear E
      go_enter Try.func6, Try.ntmps6
      go_wp2_with fail
      refine C.mono ?_
      rintro e w2 ⟨rfl, q2⟩
      have HQ2 : Hid (Q w w2) := HQ.out.trans q2
      clear C q2
      go_wp2_with fail
      exact bodyPost_ret (v := .bool false) (by simp [results, Try.results6, go_sem] <;> omega) rfl ⟨rfl, HQ2.out⟩
    rcases Int.lt_or_le bd 1 with b1 | b1
    · obtain rfl : B = false := by rw [E.out]; exact decide_eq_false (fun c => by omega)
      clear E
      go_enter Try.func6, Try.ntmps6
      go_wp2_with fail
      refine C.mono ?_
      rintro e w2 ⟨rfl, q2⟩
      have HQ2 : Hid (Q w w2) := HQ.out.trans q2
      clear C q2
      go_wp2_with fail
      exact bodyPost_ret (v := .bool false) (by simp [results, Try.results6, go_sem] <;> omega) rfl ⟨rfl, HQ2.out⟩
    rcases Int.lt_or_le 3 bd with b2 | b2
    · obtain rfl : B = false := by rw [E.out]; exact decide_eq_false (fun c => by omega)
      clear E
      go_enter Try.func6, Try.ntmps6
      go_wp2_with fail
      refine C.mono ?_
      rintro e w2 ⟨rfl, q2⟩
      have HQ2 : Hid (Q w w2) := HQ.out.trans q2
      clear C q2
      go_wp2_with fail
      exact bodyPost_ret (v := .bool false) (by simp [results, Try.results6, go_sem] <;> omega) rfl ⟨rfl, HQ2.out⟩
    obtain rfl : B = true := by rw [E.out]; exact decide_eq_true ⟨rfl, Or.inl rfl, r1, r2, b1, b2⟩
    clear E
    go_enter Try.func6, Try.ntmps6
    go_wp2_with fail
    refine C.mono ?_
    rintro e w2 ⟨rfl, q2⟩
    have HQ2 : Hid (Q w w2) := HQ.out.trans q2
    clear C q2
    go_wp2_with fail
    exact bodyPost_ret (v := .bool true) (by simp [results, Try.results6, go_sem] <;> omega) rfl ⟨rfl, HQ2.out⟩
  have kk1 : (kind == 1) = false := by simpa using hk
  by_cases hk2 : kind = 2
  · subst hk2
    have kk2 : ((2 : Int) == 2) = true := by decide
    rcases Int.lt_or_le r 0 with r1 | r1
    · obtain rfl : B = false := by rw [E.out]; exact decide_eq_false (fun c => by omega)
      clear E
      go_enter Try.func6, Try.ntmps6
      go_wp2_with fail
      refine C.mono ?_
      rintro e w2 ⟨rfl, q2⟩
      have HQ2 : Hid (Q w w2) := HQ.out.trans q2
      clear C q2
      go_wp2_with fail
      exact bodyPost_ret (v := .bool false) (by simp [results, Try.results6, go_sem] <;> omega) rfl ⟨rfl, HQ2.out⟩
    rcases Int.lt_or_le 7 r with r2 | r2
    · obtain rfl : B = false := by rw [E.out]; exact decide_eq_false (fun c => by omega)
      clear E
      go_enter Try.func6, Try.ntmps6
      go_wp2_with fail
      refine C.mono ?_
      rintro e w2 ⟨rfl, q2⟩
      have HQ2 : Hid (Q w w2) := HQ.out.trans q2
      clear C q2
      go_wp2_with fail
      exact bodyPost_ret (v := .bool false) (by simp [results, Try.results6, go_sem] <;> omega) rfl ⟨rfl, HQ2.out⟩
    rcases Int.lt_or_le bd 1 with b1 | b1
    · obtain rfl : B = false := by rw [E.out]; exact decide_eq_false (fun c => by omega)
      clear E
      go_enter Try.func6, Try.ntmps6
      go_wp2_with fail
      refine C.mono ?_
      rintro e w2 ⟨rfl, q2⟩
      have HQ2 : Hid (Q w w2) := HQ.out.trans q2
      clear C q2
      go_wp2_with fail
      exact bodyPost_ret (v := .bool false) (by simp [results, Try.results6, go_sem] <;> omega) rfl ⟨rfl, HQ2.out⟩
    rcases Int.lt_or_le 3 bd with b2 | b2
    · obtain rfl : B = false := by rw [E.out]; exact decide_eq_false (fun c => by omega)
      clear E
      go_enter Try.func6, Try.ntmps6
      go_wp2_with fail
      refine C.mono ?_
      rintro e w2 ⟨rfl, q2⟩
      have HQ2 : Hid (Q w w2) := HQ.out.trans q2
      clear C q2
      go_wp2_with fail
      exact bodyPost_ret (v := .bool false) (by simp [results, Try.results6, go_sem] <;> omega) rfl ⟨rfl, HQ2.out⟩
    obtain rfl : B = true := by rw [E.out]; exact decide_eq_true ⟨rfl, Or.inr rfl, r1, r2, b1, b2⟩
    clear E
    go_enter Try.func6, Try.ntmps6
    go_wp2_with fail
    refine C.mono ?_
    rintro e w2 ⟨rfl, q2⟩
    have HQ2 : Hid (Q w w2) := HQ.out.trans q2
    clear C q2
    go_wp2_with fail
    exact bodyPost_ret (v := .bool true) (by simp [results, Try.results6, go_sem] <;> omega) rfl ⟨rfl, HQ2.out⟩
  · have kk2 : (kind == 2) = false := by simpa using hk2
    obtain rfl : B = false := by rw [E.out]; exact decide_eq_false (fun c => by omega)
    clear E
    go_enter Try.func6, Try.ntmps6
    go_wp2_with fail
    refine C.mono ?_
    rintro e w2 ⟨rfl, q2⟩
    have HQ2 : Hid (Q w w2) := HQ.out.trans q2
    clear C q2
    go_wp2_with fail
    exact bodyPost_ret (v := .bool false) (by simp [results, Try.results6, go_sem] <;> omega) rfl ⟨rfl, HQ2.out⟩
end Go.Proofs.Ytpobgkcobgecoab
/- The document's Size, Check and Border. -/
namespace Go.Proofs.Ytpobgkcobgecoab
open Go.RowKit
theorem tmod_twice (i n : Int) (hn : 0 < n) : Int.tmod (Int.tmod i n + n) n = i % n := by
  obtain ⟨h1, h2, h3, h4⟩ := tmod_mod i n hn
  rw [Int.tmod_eq_emod_of_nonneg (by omega), Int.add_emod_right]
  by_cases h : Int.tmod i n < 0
  · have := h2 h
    have l := Int.emod_nonneg i (show n ≠ 0 by omega)
    rw [← Int.add_emod_right, this, Int.emod_emod]
  · rw [h1 (by omega), Int.emod_emod]
end Go.Proofs.Ytpobgkcobgecoab

/- Plain facts: what is lost of a sum in binary64 is told exactly by five steps; the sum made odd, made narrow, is the exact sum rounded once. -/
import Derived.Test.YtdempklpmggdoaaG5796a546
namespace Go.Proofs.Ytdempklpmggdoaa
open Go.RowKit

/-- A size that no sum here comes to. -/
def capJ : Nat := 1990
theorem cap_log {n : Nat} (h : n < 1024 * 2 ^ capJ) : n.log2 ≤ 2000 := by
  by_cases h0 : n = 0
  · subst h0; decide
  · have e : 1024 * 2 ^ capJ = 2 ^ (10 + capJ) := by rw [Nat.pow_add]
    rw [e] at h
    have := (Nat.log2_lt h0).2 h
    unfold capJ at this
    omega
/-- The size. -/
def ab (z : Int) : Nat := z.natAbs
theorem ab_add (a b : Int) : ab (a + b) ≤ ab a + ab b := by unfold ab; omega
theorem ab_sub (a b : Int) : ab (a - b) ≤ ab a + ab b := by unfold ab; omega
theorem ab_neg {a b : Int} (h : a = -b) : ab a = ab b := by unfold ab; omega
theorem sub_step {B x y : Nat} (hB : ∀ n, n < 1024 * B → n.log2 ≤ 2000) (hx : rung64 x < 9218868437227405312) (hy : rung64 y < 9218868437227405312) (hs : ab (sval64 x - sval64 y) < 1024 * B) :
    ∃ r, floatBits .sub .f64 x y = some r ∧ sval64 r = RN (sval64 x - sval64 y) ∧ rung64 r < 9218868437227405312 ∧ ab (sval64 r) ≤ 2 * ab (sval64 x - sval64 y) := by
  obtain ⟨a, b, c, d⟩ := wordOf_facts (σ := sg (sgn64 x) (!sgn64 y) (sval64 x - sval64 y)) (hB _ hs) sg_of
  exact ⟨_, sub_fin hx hy, d, c, by rw [d]; exact RN_le (hB _ hs)⟩
theorem add_step {B x y : Nat} (hB : ∀ n, n < 1024 * B → n.log2 ≤ 2000) (hx : rung64 x < 9218868437227405312) (hy : rung64 y < 9218868437227405312) (hs : ab (sval64 x + sval64 y) < 1024 * B) :
    ∃ r, floatBits .add .f64 x y = some r ∧ sval64 r = RN (sval64 x + sval64 y) ∧ rung64 r < 9218868437227405312 ∧ ab (sval64 r) ≤ 2 * ab (sval64 x + sval64 y) := by
  obtain ⟨a, b, c, d⟩ := wordOf_facts (σ := sg (sgn64 x) (sgn64 y) (sval64 x + sval64 y)) (hB _ hs) sg_of
  exact ⟨_, add_fin hx hy, d, c, by rw [d]; exact RN_le (hB _ hs)⟩

/-- The five steps. -/
theorem lost_words {B x y s g : Nat} (hB : ∀ n, n < 1024 * B → n.log2 ≤ 2000) (hx : rung64 x < 9218868437227405312) (hy : rung64 y < 9218868437227405312) (hs : rung64 s < 9218868437227405312)
    (bx : ab (sval64 x) < B) (by' : ab (sval64 y) < B) (dx : ((2 ^ g : Nat) : Int) ∣ sval64 x) (dy : ((2 ^ g : Nat) : Int) ∣ sval64 y)
    (hg : ab (sval64 x) < 2 ^ (48 + g) ∨ ab (sval64 y) < 2 ^ (48 + g)) (hS : sval64 s = RN (sval64 x + sval64 y)) :
    ∃ p q t u l, floatBits .sub .f64 s x = some p ∧ floatBits .sub .f64 s p = some q ∧ floatBits .sub .f64 x q = some t ∧ floatBits .sub .f64 y p = some u ∧ floatBits .add .f64 t u = some l ∧
      sval64 l = sval64 x + sval64 y - sval64 s ∧ rung64 l < 9218868437227405312 := by
  have z1 := ab_add (sval64 x) (sval64 y)
  have hZ : (sval64 x + sval64 y).natAbs.log2 ≤ 2000 := hB _ (show ab (sval64 x + sval64 y) < 1024 * B by omega)
  have b1 : ab (sval64 s - (sval64 x + sval64 y)) ≤ ab (sval64 y) := by
    have h : ab (RN (sval64 x + sval64 y) - (sval64 x + sval64 y)) ≤ ab (sval64 x - (sval64 x + sval64 y)) := RN_best hZ x
    rw [← hS, ab_neg (show sval64 x - (sval64 x + sval64 y) = -sval64 y by omega)] at h
    exact h
  have b2 : ab (sval64 s - (sval64 x + sval64 y)) ≤ ab (sval64 x) := by
    have h : ab (RN (sval64 x + sval64 y) - (sval64 x + sval64 y)) ≤ ab (sval64 y - (sval64 x + sval64 y)) := RN_best hZ y
    rw [← hS, ab_neg (show sval64 y - (sval64 x + sval64 y) = -sval64 x by omega)] at h
    exact h
  have b3 : ab (sval64 s) ≤ 2 * ab (sval64 x + sval64 y) := by rw [hS]; exact RN_le hZ
  have ds : ((2 ^ g : Nat) : Int) ∣ sval64 s := by rw [hS]; exact RN_dvd hZ (Int.dvd_add dx dy)
  have e53 : 2 ^ (53 + g) = 32 * 2 ^ (48 + g) := by rw [show 53 + g = 5 + (48 + g) by omega, Nat.pow_add]
  have z2 := ab_sub (sval64 s) (sval64 x)
  obtain ⟨p, fp, vp, rp, bp⟩ := sub_step hB hs hx (by omega)
  have hP : (sval64 s - sval64 x).natAbs.log2 ≤ 2000 := hB _ (show ab (sval64 s - sval64 x) < 1024 * B by omega)
  have dP := Int.dvd_sub ds dx
  have dp : ((2 ^ g : Nat) : Int) ∣ sval64 p := by rw [vp]; exact RN_dvd hP dP
  have z3 := ab_sub (sval64 s) (sval64 p)
  obtain ⟨q, fq, vq, rq, bq⟩ := sub_step hB hs rp (by omega)
  have hQ : (sval64 s - sval64 p).natAbs.log2 ≤ 2000 := hB _ (show ab (sval64 s - sval64 p) < 1024 * B by omega)
  have z4 := ab_sub (sval64 x) (sval64 q)
  have z5 := ab_sub (sval64 y) (sval64 p)
  obtain ⟨t, ft, vt, rt, bt⟩ := sub_step hB hx rq (by omega)
  obtain ⟨u, fu, vu, ru, bu⟩ := sub_step hB hy rp (by omega)
  have hT : (sval64 x - sval64 q).natAbs.log2 ≤ 2000 := hB _ (show ab (sval64 x - sval64 q) < 1024 * B by omega)
  have hU : (sval64 y - sval64 p).natAbs.log2 ≤ 2000 := hB _ (show ab (sval64 y - sval64 p) < 1024 * B by omega)
  have z6 := ab_add (sval64 t) (sval64 u)
  obtain ⟨l, fl, vl, rl, bl⟩ := add_step hB rt ru (by omega)
  have hL : (sval64 t + sval64 u).natAbs.log2 ≤ 2000 := hB _ (show ab (sval64 t + sval64 u) < 1024 * B by omega)
  refine ⟨p, q, t, u, l, fp, fq, ft, fu, fl, ?_, rl⟩
  rcases hg with hg | hg
  · -- the first one is small
    have b4 : ab (sval64 p - (sval64 s - sval64 x)) ≤ ab (sval64 x) := by
      have h : ab (RN (sval64 s - sval64 x) - (sval64 s - sval64 x)) ≤ ab (sval64 y - (sval64 s - sval64 x)) := RN_best hP y
      rw [← vp, ab_neg (show sval64 y - (sval64 s - sval64 x) = -(sval64 s - (sval64 x + sval64 y)) by omega)] at h
      exact Nat.le_trans h b2
    have eq : sval64 q = sval64 s - sval64 p := by
      have k1 := ab_sub (sval64 x) (sval64 p - (sval64 s - sval64 x))
      rw [show sval64 x - (sval64 p - (sval64 s - sval64 x)) = sval64 s - sval64 p by omega] at k1
      rw [vq]; exact RN_exact hQ (Int.dvd_sub ds dp) (show ab (sval64 s - sval64 p) < 2 ^ (53 + g) by omega)
    have et : sval64 t = sval64 x - sval64 q := by
      have k1 : sval64 x - sval64 q = sval64 p - (sval64 s - sval64 x) := by rw [eq]; omega
      rw [vt]
      refine RN_exact hT (g := g) ?_ (show ab (sval64 x - sval64 q) < 2 ^ (53 + g) by rw [k1]; omega)
      rw [k1]; exact Int.dvd_sub dp dP
    have eu : sval64 u = sval64 y - sval64 p := by
      have k1 := ab_sub (sval64 y - (sval64 s - sval64 x)) (sval64 p - (sval64 s - sval64 x))
      rw [show sval64 y - (sval64 s - sval64 x) - (sval64 p - (sval64 s - sval64 x)) = sval64 y - sval64 p by omega, ab_neg (show sval64 y - (sval64 s - sval64 x) = -(sval64 s - (sval64 x + sval64 y)) by omega)] at k1
      rw [vu]; exact RN_exact hU (Int.dvd_sub dy dp) (show ab (sval64 y - sval64 p) < 2 ^ (53 + g) by omega)
    have esum : sval64 t + sval64 u = sval64 x + sval64 y - sval64 s := by rw [et, eu, eq]; omega
    have k2 : ab (sval64 t + sval64 u) = ab (sval64 s - (sval64 x + sval64 y)) := ab_neg (by rw [esum]; omega)
    rw [vl]
    have k3 : RN (sval64 t + sval64 u) = sval64 t + sval64 u := by
      refine RN_exact hL (g := g) ?_ (show ab (sval64 t + sval64 u) < 2 ^ (53 + g) by omega)
      rw [esum]; exact Int.dvd_sub (Int.dvd_add dx dy) ds
    rw [k3, esum]
  · have ep : sval64 p = sval64 s - sval64 x := by
      have k1 := ab_add (sval64 s - (sval64 x + sval64 y)) (sval64 y)
      rw [show sval64 s - (sval64 x + sval64 y) + sval64 y = sval64 s - sval64 x by omega] at k1
      rw [vp]; exact RN_exact hP dP (show ab (sval64 s - sval64 x) < 2 ^ (53 + g) by omega)
    have eq : sval64 q = sval64 x := by
      rw [vq, ep, show sval64 s - (sval64 s - sval64 x) = sval64 x by omega]
      exact RN_self (hB _ (show ab (sval64 x) < 1024 * B by omega))
    have et : sval64 t = 0 := by
      rw [vt, eq, Int.sub_self]; exact RN_zero
    have k1 : ab (sval64 y - sval64 p) = ab (sval64 s - (sval64 x + sval64 y)) := ab_neg (by rw [ep]; omega)
    have eu : sval64 u = sval64 y - sval64 p := by
      rw [vu]; exact RN_exact hU (Int.dvd_sub dy dp) (show ab (sval64 y - sval64 p) < 2 ^ (53 + g) by omega)
    have esum : sval64 t + sval64 u = sval64 x + sval64 y - sval64 s := by rw [et, eu, ep]; omega
    have k2 : ab (sval64 t + sval64 u) = ab (sval64 s - (sval64 x + sval64 y)) := ab_neg (by rw [esum]; omega)
    rw [vl]
    have k3 : RN (sval64 t + sval64 u) = sval64 t + sval64 u := by
      refine RN_exact hL (g := g) ?_ (show ab (sval64 t + sval64 u) < 2 ^ (53 + g) by omega)
      rw [esum]; exact Int.dvd_sub (Int.dvd_add dx dy) ds
    rw [k3, esum]

theorem sval_zero {l : Nat} : sval64 l = 0 ↔ rung64 l = 0 := by
  have h1 : rung64 l = 0 → val64 (rung64 l) = 0 := fun h => by rw [h]; exact val_zero64
  have h2 : 0 < rung64 l → 0 < val64 (rung64 l) := val_pos64
  unfold sval64
  constructor
  · intro h
    rcases Nat.eq_zero_or_pos (rung64 l) with g | g
    · exact g
    · have := h2 g; split at h <;> omega
  · intro h
    rw [h1 h]; split <;> rfl
theorem order_neg {l : Nat} (h : rung64 l < 9218868437227405312) : (Ieee.double.order l 0 == some Ordering.lt) = decide (sval64 l < 0) := by
  rw [order_fin64 h (by decide), ← sval_srung64, cmp_lt, show sval64 0 = 0 from by decide]

/-- The odd one of the two about a number. -/
theorem odd_stick (M : Nat) :
    (if rne M (lostK M) % 2 = 1 ∨ rne M (lostK M) * 2 ^ lostK M = M then rne M (lostK M) else if rne M (lostK M) * 2 ^ lostK M < M then rne M (lostK M) + 1 else rne M (lostK M) - 1) = stick M (lostK M + 1) := by
  obtain ⟨K, hKe⟩ : ∃ K, K = lostK M := ⟨_, rfl⟩
  rw [← hKe]
  have hp := Nat.two_pow_pos K
  have d1 := Nat.div_add_mod M (2 ^ K)
  have r1 := Nat.mod_lt M hp
  have ep : 2 ^ (K + 1) = 2 * 2 ^ K := by rw [Nat.pow_succ]; omega
  have c1 : M / 2 ^ (K + 1) = M / 2 ^ K / 2 := by rw [Nat.pow_succ, Nat.div_div_eq_div_mul]
  have c2 := Nat.div_add_mod M (2 ^ (K + 1))
  have hc : (rne M K = M / 2 ^ K ∧ ¬ (2 ^ K < 2 * (M % 2 ^ K) ∨ (2 ^ K = 2 * (M % 2 ^ K) ∧ M / 2 ^ K % 2 = 1))) ∨ (rne M K = M / 2 ^ K + 1 ∧ (2 ^ K < 2 * (M % 2 ^ K) ∨ (2 ^ K = 2 * (M % 2 ^ K) ∧ M / 2 ^ K % 2 = 1))) := by
    unfold rne
    by_cases h : goesUp M K
    · rw [if_pos h]; exact Or.inr ⟨rfl, h⟩
    · rw [if_neg h]; exact Or.inl ⟨rfl, h⟩
  unfold stick
  rw [c1] at c2 ⊢
  generalize rne M K = c at hc
  generalize hT : M / 2 ^ K = T at c2 d1 hc
  generalize hr : M % 2 ^ K = r at d1 r1 hc
  generalize hR : M % 2 ^ (K + 1) = R at c2
  rw [ep] at c2
  generalize hE : 2 ^ K = E at c2 d1 r1 hp hc
  clear hT hr hR hE hKe ep c1
  have hRr : R = T % 2 * E + r := by
    have a1 : E * T = 2 * E * (T / 2) + T % 2 * E := by
      have h2 : E * T = E * (2 * (T / 2) + T % 2) := by rw [Nat.div_add_mod T 2]
      rw [h2, Nat.mul_add, ← Nat.mul_assoc, Nat.mul_comm E 2, Nat.mul_comm E (T % 2)]
    omega
  have e0 : E * T = T * E := Nat.mul_comm _ _
  have e2 : (T + 1) * E = T * E + E := by rw [Nat.add_mul, Nat.one_mul]
  have hT2 := Nat.div_add_mod T 2
  rcases Nat.mod_two_eq_zero_or_one T with ht | ht
  · rw [ht, Nat.zero_mul, Nat.zero_add] at hRr
    rw [hRr]
    rcases hc with ⟨rfl, up⟩ | ⟨rfl, up⟩
    · by_cases hr0 : r = 0
      · rw [if_pos (Or.inr (by omega)), if_pos hr0]; omega
      · rw [if_neg hr0, if_neg (by omega), if_pos (by omega)]; omega
    · rw [if_pos (Or.inl (by omega)), if_neg (by omega)]; omega
  · rw [ht, Nat.one_mul] at hRr
    rw [if_neg (show ¬ R = 0 by omega)]
    rcases hc with ⟨rfl, up⟩ | ⟨rfl, up⟩
    · rw [if_pos (Or.inl ht)]; omega
    · rw [if_neg (by omega), if_neg (by omega)]; omega
/-- A number rounded to odd in binary64, then to a sample, is the number rounded once. -/
theorem stick_rung {M : Nat} (hM : M.log2 ≤ 2000) (hK : 0 < lostK M) : rungOf Ieee.single (stick M (lostK M + 1) * 2 ^ lostK M) (-1074) = rungOf Ieee.single M (-1074) := by
  have h0 : M ≠ 0 := by intro h0; subst h0; exact absurd hK (by decide)
  rw [rung_scale]
  have := rung_stick Ieee.single (M := M) (k := lostK M + 1) (-1074) (by unfold lostK at *; omega) h0 (by
    unfold lastOf
    rw [show (Ieee.single.fractionBits : Int) = 23 from rfl]
    unfold lostK at *
    omega)
  rw [← this]
  congr 1; omega
end Go.Proofs.Ytdempklpmggdoaa
/- Plain facts: the program's product and sum in binary64, the sum made odd, made narrow: the exact number rounded once. -/
namespace Go.Proofs.Ytdempklpmggdoaa
open Go.RowKit

/-- A finite sample in least units of binary64. -/
def sampleZ (a : Nat) : Int := Ieee.signed (sgn32 a) (mag32 (rung32 a)) (plc32 (rung32 a) + 925)
theorem signed_abs (s : Bool) (m k : Nat) : (Ieee.signed s m k).natAbs = m * 2 ^ k := by
  unfold Ieee.signed; rw [Nat.shiftLeft_eq]; split <;> omega
theorem signed_sign {s : Bool} {m k : Nat} (h : Ieee.signed s m k ≠ 0) : s = decide (Ieee.signed s m k < 0) := by
  unfold Ieee.signed at *; rw [Nat.shiftLeft_eq] at *
  cases s
  · simp only [Bool.false_eq_true, if_false]; rw [decide_eq_false (by omega)]
  · simp only [if_true] at *; rw [decide_eq_true (by omega)]
theorem signed_dvd (s : Bool) (m : Nat) {k g : Nat} (h : g ≤ k) : ((2 ^ g : Nat) : Int) ∣ Ieee.signed s m k := by
  rw [Int.ofNat_dvd_left, signed_abs]
  exact Nat.dvd_trans (Nat.pow_dvd_pow 2 h) (Nat.dvd_mul_left _ _)
theorem cap_units {m k e : Nat} (hm : m < 2 ^ e) (h : k + e ≤ 1990) : m * 2 ^ k < 2 ^ capJ := by
  have h1 : m * 2 ^ k < 2 ^ e * 2 ^ k := Nat.mul_lt_mul_of_pos_right hm (Nat.two_pow_pos _)
  rw [← Nat.pow_add] at h1
  exact Nat.lt_of_lt_of_le h1 (Nat.pow_le_pow_right (by decide) (by unfold capJ; omega))
theorem units_log {n : Nat} (h : n < 2 ^ capJ) : n.log2 ≤ 2000 := cap_log (by omega)
/-- A whole number of few digits, in least units, is a word as it is. -/
theorem units_word {s : Bool} {m k : Nat} (hm : m < 2 ^ 53) (hk : k ≤ 1900) :
    rung64 (wordOf s (Ieee.signed s m k)) < 9218868437227405312 ∧ sgn64 (wordOf s (Ieee.signed s m k)) = s ∧ sval64 (wordOf s (Ieee.signed s m k)) = Ieee.signed s m k := by
  have hl : (Ieee.signed s m k).natAbs.log2 ≤ 2000 := by rw [signed_abs]; exact units_log (cap_units hm (by omega))
  obtain ⟨a, b, c, d⟩ := wordOf_facts (σ := s) hl signed_sign
  refine ⟨c, b, ?_⟩
  rw [d]
  refine RN_exact hl (signed_dvd s m (Nat.le_refl k)) ?_
  rw [signed_abs, Nat.pow_add]
  exact Nat.mul_lt_mul_of_pos_right hm (Nat.two_pow_pos _)
theorem plc_le32 {a : Nat} (h : rung32 a < 2139095040) : plc32 (rung32 a) ≤ 253 := by unfold plc32; omega
theorem wide_units {a : Nat} (h : rung32 a < 2139095040) : wideN a = wordOf (sgn32 a) (sampleZ a) := by
  unfold wideN wordOf sampleZ
  rw [read_fin32 h]
  show Ieee.double.nearest _ _ _ = _
  rw [nearest_rung, signed_abs, rung_scale, show (-1074 : Int) + ((plc32 (rung32 a) + 925 : Nat) : Int) = -149 + (plc32 (rung32 a) : Int) by omega]
theorem wide_fin {a : Nat} (h : rung32 a < 2139095040) : rung64 (wideN a) < 9218868437227405312 ∧ sgn64 (wideN a) = sgn32 a ∧ sval64 (wideN a) = sampleZ a := by
  rw [wide_units h]
  have hp := plc_le32 h
  have hm := mag_lt32 (rung32 a)
  exact units_word (by omega) (by omega)
theorem val_abs (x : Nat) : (sval64 x).natAbs = val64 (rung64 x) := by unfold sval64; split <;> omega

/-- A product of two samples in least units. -/
def prodZ (a b : Nat) : Int := Ieee.signed (sgn32 a ^^ sgn32 b) (mag32 (rung32 a) * mag32 (rung32 b)) (plc32 (rung32 a) + plc32 (rung32 b) + 776)
theorem prod_lt (a b : Nat) : mag32 (rung32 a) * mag32 (rung32 b) < 2 ^ 48 := by
  have h1 := mag_lt32 (rung32 a)
  have h2 := mag_lt32 (rung32 b)
  have a1 : mag32 (rung32 a) * mag32 (rung32 b) ≤ 16777215 * mag32 (rung32 b) := Nat.mul_le_mul_right _ (by omega)
  omega
theorem prod_units {a b : Nat} (ha : rung32 a < 2139095040) (hb : rung32 b < 2139095040) : floatBits .mul .f64 (wideN a) (wideN b) = some (wordOf (sgn32 a ^^ sgn32 b) (prodZ a b)) := by
  obtain ⟨r1, s1, v1⟩ := wide_fin ha
  obtain ⟨r2, s2, v2⟩ := wide_fin hb
  show ((Ieee.double.read (wideN a)).product (Ieee.double.read (wideN b))).map Ieee.double.write = _
  rw [read_fin64 r1, read_fin64 r2, s1, s2]
  show some (Ieee.double.nearest _ _ _) = _
  rw [nearest_rung]
  unfold wordOf prodZ
  rw [signed_abs]
  have w1 : mag64 (rung64 (wideN a)) * 2 ^ plc64 (rung64 (wideN a)) = mag32 (rung32 a) * 2 ^ (plc32 (rung32 a) + 925) := by
    have := val_abs (wideN a)
    rw [v1] at this
    unfold sampleZ at this
    rw [signed_abs] at this
    exact this.symm
  have w2 : mag64 (rung64 (wideN b)) * 2 ^ plc64 (rung64 (wideN b)) = mag32 (rung32 b) * 2 ^ (plc32 (rung32 b) + 925) := by
    have := val_abs (wideN b)
    rw [v2] at this
    unfold sampleZ at this
    rw [signed_abs] at this
    exact this.symm
  obtain ⟨E, hE⟩ : ∃ E : Nat, E = 1074 := ⟨_, rfl⟩
  have e : mag64 (rung64 (wideN a)) * mag64 (rung64 (wideN b)) * 2 ^ (plc64 (rung64 (wideN a)) + plc64 (rung64 (wideN b))) = mag32 (rung32 a) * mag32 (rung32 b) * 2 ^ (plc32 (rung32 a) + plc32 (rung32 b) + 776) * 2 ^ E := by
    have a1 : mag64 (rung64 (wideN a)) * mag64 (rung64 (wideN b)) * 2 ^ (plc64 (rung64 (wideN a)) + plc64 (rung64 (wideN b))) = (mag64 (rung64 (wideN a)) * 2 ^ plc64 (rung64 (wideN a))) * (mag64 (rung64 (wideN b)) * 2 ^ plc64 (rung64 (wideN b))) := by
      rw [Nat.pow_add, Nat.mul_mul_mul_comm]
    rw [a1, w1, w2, Nat.mul_mul_mul_comm, ← Nat.pow_add, Nat.mul_assoc (mag32 (rung32 a) * mag32 (rung32 b)), ← Nat.pow_add]
    congr 2; omega
  have k1 := rung_scale Ieee.double (mag64 (rung64 (wideN a)) * mag64 (rung64 (wideN b))) (plc64 (rung64 (wideN a)) + plc64 (rung64 (wideN b))) (-2148)
  rw [e, rung_scale, show (-2148 : Int) + (E : Int) = -1074 by omega] at k1
  have e4 : (-1074 : Int) + (plc64 (rung64 (wideN a)) : Int) + (-1074 + (plc64 (rung64 (wideN b)) : Int)) = -2148 + ((plc64 (rung64 (wideN a)) + plc64 (rung64 (wideN b)) : Nat) : Int) := by omega
  rw [e4, ← k1]

theorem rung_pos {M : Nat} (h : M ≠ 0) : 0 < rne M (lostK M) := by
  rcases Nat.eq_zero_or_pos (lostK M) with g | g
  · rw [g, rne_zero]; omega
  · have := (kept_bd (M := M)).2 g; omega
theorem stick_bd {M : Nat} (hK : 0 < lostK M) : 4503599627370496 ≤ stick M (lostK M + 1) ∧ stick M (lostK M + 1) ≤ 9007199254740992 := by
  have h0 : M ≠ 0 := by intro h0; subst h0; exact absurd hK (by decide)
  have h1 := Nat.log2_self_le h0
  have h2 : M < 2 ^ (M.log2 + 1) := Nat.lt_log2_self
  have e : M.log2 = 52 + lostK M := by unfold lostK at *; omega
  rw [e] at h1 h2
  have a1 : 2 ^ 51 ≤ M / 2 ^ (lostK M + 1) := by
    rw [Nat.le_div_iff_mul_le (Nat.two_pow_pos _), ← Nat.pow_add, show 51 + (lostK M + 1) = 52 + lostK M by omega]; exact h1
  have a2 : M / 2 ^ (lostK M + 1) < 2 ^ 52 := by
    rw [Nat.div_lt_iff_lt_mul (Nat.two_pow_pos _), ← Nat.pow_add, show 52 + (lostK M + 1) = 52 + lostK M + 1 by omega]; exact h2
  unfold stick
  split <;> omega
/-- The sum made odd, as a word. -/
theorem odd_word {σ : Bool} {Z : Int} {l : Nat} (hZ : Z.natAbs.log2 ≤ 2000) (h0 : Z ≠ 0) (hσ : σ = decide (Z < 0)) (hl : rung64 l < 9218868437227405312) (vl : sval64 l = Z - RN Z) :
    ∃ R, oddV (wordOf σ Z) l = Ieee.double.word σ R ∧ R < 9218868437227405312 ∧ rungOf Ieee.single (val64 R) (-1074) = rungOf Ieee.single Z.natAbs (-1074) := by
  obtain ⟨f1, f2, f3, f4⟩ := wordOf_facts (σ := σ) hZ (fun _ => hσ)
  obtain ⟨M, hM⟩ : ∃ M, M = Z.natAbs := ⟨_, rfl⟩
  have hM0 : M ≠ 0 := by omega
  have hR := RN_abs Z
  rw [← hM] at hZ hR
  rw [vN_eq hZ] at hR
  have hsg : RN Z < 0 ↔ Z < 0 := by
    unfold RN
    rw [← hM, vN_eq hZ]
    have := Nat.mul_pos (rung_pos hM0) (Nat.two_pow_pos (lostK M))
    generalize rne M (lostK M) * 2 ^ lostK M = V at this
    split <;> omega
  have hc := kept_bd (M := M)
  have hc0 := rung_pos hM0
  have es : wordOf σ Z = σ.toNat * 9223372036854775808 + (lostK M * 4503599627370496 + rne M (lostK M)) := by
    unfold wordOf
    rw [← hM, word64, rung64_eq hZ]
  have hst := odd_stick M
  have eo : oddV (wordOf σ Z) l = σ.toNat * 9223372036854775808 + (lostK M * 4503599627370496 + (if rne M (lostK M) % 2 = 1 ∨ rne M (lostK M) * 2 ^ lostK M = M then rne M (lostK M) else if rne M (lostK M) * 2 ^ lostK M < M then rne M (lostK M) + 1 else rne M (lostK M) - 1)) := by
    unfold oddV
    have c1 : (wordOf σ Z % 2 = 1 ∨ rung64 l = 0) ↔ (rne M (lostK M) % 2 = 1 ∨ rne M (lostK M) * 2 ^ lostK M = M) := by
      have d1 : wordOf σ Z % 2 = 1 ↔ rne M (lostK M) % 2 = 1 := by rw [es]; omega
      have d2 : rung64 l = 0 ↔ rne M (lostK M) * 2 ^ lostK M = M := by
        rw [← sval_zero, vl]
        generalize rne M (lostK M) * 2 ^ lostK M = V at hR
        omega
      rw [d1, d2]
    by_cases h1 : rne M (lostK M) % 2 = 1 ∨ rne M (lostK M) * 2 ^ lostK M = M
    · rw [if_pos (c1.2 h1), if_pos h1, es]
    · rw [if_neg (fun h => h1 (c1.1 h)), if_neg h1]
      have c2 : ((Ieee.double.order l 0 == some Ordering.lt) = (Ieee.double.order (wordOf σ Z) 0 == some Ordering.lt)) ↔ rne M (lostK M) * 2 ^ lostK M < M := by
        rw [order_neg hl, order_neg f3, vl, f4, decide_eq_decide]
        have h2 : ¬ rne M (lostK M) * 2 ^ lostK M = M := fun h => h1 (Or.inr h)
        generalize rne M (lostK M) * 2 ^ lostK M = V at hR h2
        omega
      by_cases h3 : rne M (lostK M) * 2 ^ lostK M < M
      · rw [if_pos (c2.2 h3), if_pos h3, es]; omega
      · rw [if_neg (fun h => h3 (c2.1 h)), if_neg h3, es]; omega
  rw [hst] at eo
  have hk : lostK M ≤ 1948 := by unfold lostK; omega
  rcases Nat.eq_zero_or_pos (lostK M) with g | g
  · have e1 : stick M (lostK M + 1) = M := by
      rw [g]; unfold stick
      rw [show 0 + 1 = 1 from rfl, Nat.pow_one]
      split <;> omega
    have hb : M ≤ 9007199254740992 := by
      have h2 : M < 2 ^ (M.log2 + 1) := Nat.lt_log2_self
      have : 2 ^ (M.log2 + 1) ≤ 2 ^ 53 := Nat.pow_le_pow_right (by decide) (by unfold lostK at g; omega)
      omega
    refine ⟨lostK M * 4503599627370496 + stick M (lostK M + 1), ?_, ?_, ?_⟩
    · rw [eo, word64]
    · rw [e1]; omega
    · rw [e1, val_of hb (by omega), g, Nat.pow_zero, Nat.mul_one, hM]
  · obtain ⟨s1, s2⟩ := stick_bd g
    refine ⟨lostK M * 4503599627370496 + stick M (lostK M + 1), ?_, ?_, ?_⟩
    · rw [eo, word64]
    · omega
    · rw [val_of s2 (fun _ => s1), stick_rung hZ g, hM]
end Go.Proofs.Ytdempklpmggdoaa
/- What package arith's Fma returns: of numbers without an answer, and of others by its steps in binary64; what was in memory stays as it was. -/
namespace Go.Proofs.Ytdempklpmggdoaa
open Go.RowKit

theorem go_mul1 (a : Nat) (u : World) (y : Nat) (w : World) : (binOp .mul 104 (.float .f64 (nanc .f64 a u)) (.float .f64 y)).run Try.prog w = .ok (.float .f64 (nanw .f64 (nanc .f64 a u) y w)) w.drew :=
  run_arith_none .mul (by simp) 104 .f64 _ y (mul_nan1 (nanc64 a u).1 y) Try.prog w
theorem go_mul2 (a : Nat) (u : World) (x : Nat) (w : World) : (binOp .mul 104 (.float .f64 x) (.float .f64 (nanc .f64 a u))).run Try.prog w = .ok (.float .f64 (nanw .f64 x (nanc .f64 a u) w)) w.drew :=
  run_arith_none .mul (by simp) 104 .f64 x _ (mul_nan2 (nanc64 a u).1 x) Try.prog w
theorem wide_nan {a : Nat} (h : nanN a = true) (w : World) : (convert 105 104 (.float .f32 a)).run Try.prog w = .ok (.float .f64 (nanc .f64 a w)) w.drew :=
  run_conv_nan (P := Try.prog) 105 104 .f32 .f64 a (by decide) (by kernel_rfl) Try.underlying104 (read32_nan h) w
theorem wide_num {a : Nat} (h : nanN a = false) (w : World) : (convert 105 104 (.float .f32 a)).run Try.prog w = .ok (.float .f64 (wideN a)) w :=
  run_convert_float_float (P := Try.prog) w 105 104 .f32 .f64 a _ (by kernel_rfl) Try.underlying104 (wide_conv h)

set_option maxHeartbeats 800000 in
theorem fma_nnn (a b c : Nat) (ha : nanN a = true) (hb : nanN b = true) (hc : nanN c = true) (w : World) :
    Calls Try.prog 46 #[.int .u32 (a : Int), .int .u32 (b : Int), .int .u32 (c : Int)] w fun e w' => e = .returned (.int .u32 (2143289344 : Nat)) ∧ Q w w' := by
  have l0 := same64
  have la := fun w => wide_nan ha w
  have lb := fun w => wide_nan hb w
  have lc := fun w => wide_nan hc w
  have lm := go_mul1
  clear ha hb hc
  go_enter Try.func46, Try.ntmps46
  go_wp2_with fail
  refine (number_any a _).mono ?_
  rintro e w1 ⟨rfl, rfl⟩
  go_wp2_with fail
  refine (number_any b _).mono ?_
  rintro e w1 ⟨rfl, rfl⟩
  go_wp2_with fail
  refine (number_any c _).mono ?_
  rintro e w1 ⟨rfl, rfl⟩
  go_wp2_with fail
  refine (odd_nan _ _ (add_nan1 (nanw64 _ _ _).1 _) _).mono ?_
  rintro e w2 ⟨z, rfl, hz, q2⟩
  go_wp2_with fail
  refine (narrowed_any z _).mono ?_
  rintro e w3 ⟨rfl, q3⟩
  go_wp2_with fail
  go_ret
  exact ⟨ret_int (by rw [nar_nan hz]), ((Q.refl _).drew.drew.drew.drew.trans q2).trans q3⟩

set_option maxHeartbeats 800000 in
theorem fma_nnf (a b c : Nat) (ha : nanN a = true) (hb : nanN b = true) (hc : nanN c = false) (w : World) :
    Calls Try.prog 46 #[.int .u32 (a : Int), .int .u32 (b : Int), .int .u32 (c : Int)] w fun e w' => e = .returned (.int .u32 (2143289344 : Nat)) ∧ Q w w' := by
  have l0 := same64
  have la := fun w => wide_nan ha w
  have lb := fun w => wide_nan hb w
  have lc := fun w => wide_num hc w
  have lm := go_mul1
  clear ha hb hc
  go_enter Try.func46, Try.ntmps46
  go_wp2_with fail
  refine (number_any a _).mono ?_
  rintro e w1 ⟨rfl, rfl⟩
  go_wp2_with fail
  refine (number_any b _).mono ?_
  rintro e w1 ⟨rfl, rfl⟩
  go_wp2_with fail
  refine (number_any c _).mono ?_
  rintro e w1 ⟨rfl, rfl⟩
  go_wp2_with fail
  refine (odd_nan _ _ (add_nan1 (nanw64 _ _ _).1 _) _).mono ?_
  rintro e w2 ⟨z, rfl, hz, q2⟩
  go_wp2_with fail
  refine (narrowed_any z _).mono ?_
  rintro e w3 ⟨rfl, q3⟩
  go_wp2_with fail
  go_ret
  exact ⟨ret_int (by rw [nar_nan hz]), ((Q.refl _).drew.drew.drew.trans q2).trans q3⟩

set_option maxHeartbeats 800000 in
theorem fma_nfn (a b c : Nat) (ha : nanN a = true) (hb : nanN b = false) (hc : nanN c = true) (w : World) :
    Calls Try.prog 46 #[.int .u32 (a : Int), .int .u32 (b : Int), .int .u32 (c : Int)] w fun e w' => e = .returned (.int .u32 (2143289344 : Nat)) ∧ Q w w' := by
  have l0 := same64
  have la := fun w => wide_nan ha w
  have lb := fun w => wide_num hb w
  have lc := fun w => wide_nan hc w
  have lm := go_mul1
  clear ha hb hc
  go_enter Try.func46, Try.ntmps46
  go_wp2_with fail
  refine (number_any a _).mono ?_
  rintro e w1 ⟨rfl, rfl⟩
  go_wp2_with fail
  refine (number_any b _).mono ?_
  rintro e w1 ⟨rfl, rfl⟩
  go_wp2_with fail
  refine (number_any c _).mono ?_
  rintro e w1 ⟨rfl, rfl⟩
  go_wp2_with fail
  refine (odd_nan _ _ (add_nan1 (nanw64 _ _ _).1 _) _).mono ?_
  rintro e w2 ⟨z, rfl, hz, q2⟩
  go_wp2_with fail
  refine (narrowed_any z _).mono ?_
  rintro e w3 ⟨rfl, q3⟩
  go_wp2_with fail
  go_ret
  exact ⟨ret_int (by rw [nar_nan hz]), ((Q.refl _).drew.drew.drew.trans q2).trans q3⟩

set_option maxHeartbeats 800000 in
theorem fma_nff (a b c : Nat) (ha : nanN a = true) (hb : nanN b = false) (hc : nanN c = false) (w : World) :
    Calls Try.prog 46 #[.int .u32 (a : Int), .int .u32 (b : Int), .int .u32 (c : Int)] w fun e w' => e = .returned (.int .u32 (2143289344 : Nat)) ∧ Q w w' := by
  have l0 := same64
  have la := fun w => wide_nan ha w
  have lb := fun w => wide_num hb w
  have lc := fun w => wide_num hc w
  have lm := go_mul1
  clear ha hb hc
  go_enter Try.func46, Try.ntmps46
  go_wp2_with fail
  refine (number_any a _).mono ?_
  rintro e w1 ⟨rfl, rfl⟩
  go_wp2_with fail
  refine (number_any b _).mono ?_
  rintro e w1 ⟨rfl, rfl⟩
  go_wp2_with fail
  refine (number_any c _).mono ?_
  rintro e w1 ⟨rfl, rfl⟩
  go_wp2_with fail
  refine (odd_nan _ _ (add_nan1 (nanw64 _ _ _).1 _) _).mono ?_
  rintro e w2 ⟨z, rfl, hz, q2⟩
  go_wp2_with fail
  refine (narrowed_any z _).mono ?_
  rintro e w3 ⟨rfl, q3⟩
  go_wp2_with fail
  go_ret
  exact ⟨ret_int (by rw [nar_nan hz]), ((Q.refl _).drew.drew.trans q2).trans q3⟩

set_option maxHeartbeats 800000 in
theorem fma_fnn (a b c : Nat) (ha : nanN a = false) (hb : nanN b = true) (hc : nanN c = true) (w : World) :
    Calls Try.prog 46 #[.int .u32 (a : Int), .int .u32 (b : Int), .int .u32 (c : Int)] w fun e w' => e = .returned (.int .u32 (2143289344 : Nat)) ∧ Q w w' := by
  have l0 := same64
  have la := fun w => wide_num ha w
  have lb := fun w => wide_nan hb w
  have lc := fun w => wide_nan hc w
  have lm := go_mul2
  clear ha hb hc
  go_enter Try.func46, Try.ntmps46
  go_wp2_with fail
  refine (number_any a _).mono ?_
  rintro e w1 ⟨rfl, rfl⟩
  go_wp2_with fail
  refine (number_any b _).mono ?_
  rintro e w1 ⟨rfl, rfl⟩
  go_wp2_with fail
  refine (number_any c _).mono ?_
  rintro e w1 ⟨rfl, rfl⟩
  go_wp2_with fail
  refine (odd_nan _ _ (add_nan1 (nanw64 _ _ _).1 _) _).mono ?_
  rintro e w2 ⟨z, rfl, hz, q2⟩
  go_wp2_with fail
  refine (narrowed_any z _).mono ?_
  rintro e w3 ⟨rfl, q3⟩
  go_wp2_with fail
  go_ret
  exact ⟨ret_int (by rw [nar_nan hz]), ((Q.refl _).drew.drew.drew.trans q2).trans q3⟩

set_option maxHeartbeats 800000 in
theorem fma_fnf (a b c : Nat) (ha : nanN a = false) (hb : nanN b = true) (hc : nanN c = false) (w : World) :
    Calls Try.prog 46 #[.int .u32 (a : Int), .int .u32 (b : Int), .int .u32 (c : Int)] w fun e w' => e = .returned (.int .u32 (2143289344 : Nat)) ∧ Q w w' := by
  have l0 := same64
  have la := fun w => wide_num ha w
  have lb := fun w => wide_nan hb w
  have lc := fun w => wide_num hc w
  have lm := go_mul2
  clear ha hb hc
  go_enter Try.func46, Try.ntmps46
  go_wp2_with fail
  refine (number_any a _).mono ?_
  rintro e w1 ⟨rfl, rfl⟩
  go_wp2_with fail
  refine (number_any b _).mono ?_
  rintro e w1 ⟨rfl, rfl⟩
  go_wp2_with fail
  refine (number_any c _).mono ?_
  rintro e w1 ⟨rfl, rfl⟩
  go_wp2_with fail
  refine (odd_nan _ _ (add_nan1 (nanw64 _ _ _).1 _) _).mono ?_
  rintro e w2 ⟨z, rfl, hz, q2⟩
  go_wp2_with fail
  refine (narrowed_any z _).mono ?_
  rintro e w3 ⟨rfl, q3⟩
  go_wp2_with fail
  go_ret
  exact ⟨ret_int (by rw [nar_nan hz]), ((Q.refl _).drew.drew.trans q2).trans q3⟩

set_option maxHeartbeats 800000 in
theorem fma_pn (a b c : Nat) (ha : nanN a = false) (hb : nanN b = false) (hc : nanN c = true) (hm : floatBits .mul .f64 (wideN a) (wideN b) = none) (w : World) :
    Calls Try.prog 46 #[.int .u32 (a : Int), .int .u32 (b : Int), .int .u32 (c : Int)] w fun e w' => e = .returned (.int .u32 (2143289344 : Nat)) ∧ Q w w' := by
  have l0 := same64
  have la := fun w => wide_num ha w
  have lb := fun w => wide_num hb w
  have lc := fun w => wide_nan hc w
  have lm := fun w => run_arith_none .mul (by simp) 104 .f64 _ _ hm Try.prog w
  clear ha hb hc hm
  go_enter Try.func46, Try.ntmps46
  go_wp2_with fail
  refine (number_any a _).mono ?_
  rintro e w1 ⟨rfl, rfl⟩
  go_wp2_with fail
  refine (number_any b _).mono ?_
  rintro e w1 ⟨rfl, rfl⟩
  go_wp2_with fail
  refine (number_any c _).mono ?_
  rintro e w1 ⟨rfl, rfl⟩
  go_wp2_with fail
  refine (odd_nan _ _ (add_nan1 (nanw64 _ _ _).1 _) _).mono ?_
  rintro e w2 ⟨z, rfl, hz, q2⟩
  go_wp2_with fail
  refine (narrowed_any z _).mono ?_
  rintro e w3 ⟨rfl, q3⟩
  go_wp2_with fail
  go_ret
  exact ⟨ret_int (by rw [nar_nan hz]), ((Q.refl _).drew.drew.trans q2).trans q3⟩

set_option maxHeartbeats 800000 in
theorem fma_pf (a b c : Nat) (ha : nanN a = false) (hb : nanN b = false) (hc : nanN c = false) (hm : floatBits .mul .f64 (wideN a) (wideN b) = none) (w : World) :
    Calls Try.prog 46 #[.int .u32 (a : Int), .int .u32 (b : Int), .int .u32 (c : Int)] w fun e w' => e = .returned (.int .u32 (2143289344 : Nat)) ∧ Q w w' := by
  have l0 := same64
  have la := fun w => wide_num ha w
  have lb := fun w => wide_num hb w
  have lc := fun w => wide_num hc w
  have lm := fun w => run_arith_none .mul (by simp) 104 .f64 _ _ hm Try.prog w
  clear ha hb hc hm
  go_enter Try.func46, Try.ntmps46
  go_wp2_with fail
  refine (number_any a _).mono ?_
  rintro e w1 ⟨rfl, rfl⟩
  go_wp2_with fail
  refine (number_any b _).mono ?_
  rintro e w1 ⟨rfl, rfl⟩
  go_wp2_with fail
  refine (number_any c _).mono ?_
  rintro e w1 ⟨rfl, rfl⟩
  go_wp2_with fail
  refine (odd_nan _ _ (add_nan1 (nanw64 _ _ _).1 _) _).mono ?_
  rintro e w2 ⟨z, rfl, hz, q2⟩
  go_wp2_with fail
  refine (narrowed_any z _).mono ?_
  rintro e w3 ⟨rfl, q3⟩
  go_wp2_with fail
  go_ret
  exact ⟨ret_int (by rw [nar_nan hz]), ((Q.refl _).drew.trans q2).trans q3⟩

set_option maxHeartbeats 800000 in
theorem fma_sn (a b c : Nat) (p : Nat) (ha : nanN a = false) (hb : nanN b = false) (hc : nanN c = true) (hm : floatBits .mul .f64 (wideN a) (wideN b) = some p) (w : World) :
    Calls Try.prog 46 #[.int .u32 (a : Int), .int .u32 (b : Int), .int .u32 (c : Int)] w fun e w' => e = .returned (.int .u32 (2143289344 : Nat)) ∧ Q w w' := by
  have l0 := same64
  have la := fun w => wide_num ha w
  have lb := fun w => wide_num hb w
  have lc := fun w => wide_nan hc w
  have lm := fun w => run_float_arith (P := Try.prog) w .mul 104 .f64 _ _ _ hm
  clear ha hb hc hm
  go_enter Try.func46, Try.ntmps46
  go_wp2_with fail
  refine (number_any a _).mono ?_
  rintro e w1 ⟨rfl, rfl⟩
  go_wp2_with fail
  refine (number_any b _).mono ?_
  rintro e w1 ⟨rfl, rfl⟩
  go_wp2_with fail
  refine (number_any c _).mono ?_
  rintro e w1 ⟨rfl, rfl⟩
  go_wp2_with fail
  refine (odd_nan _ _ (add_nan2 (nanc64 c _).1 _) _).mono ?_
  rintro e w2 ⟨z, rfl, hz, q2⟩
  go_wp2_with fail
  refine (narrowed_any z _).mono ?_
  rintro e w3 ⟨rfl, q3⟩
  go_wp2_with fail
  go_ret
  exact ⟨ret_int (by rw [nar_nan hz]), ((Q.refl _).drew.trans q2).trans q3⟩

set_option maxHeartbeats 800000 in
theorem fma_sf (a b c : Nat) (p : Nat) (ha : nanN a = false) (hb : nanN b = false) (hc : nanN c = false) (hm : floatBits .mul .f64 (wideN a) (wideN b) = some p) (hs : floatBits .add .f64 p (wideN c) = none) (w : World) :
    Calls Try.prog 46 #[.int .u32 (a : Int), .int .u32 (b : Int), .int .u32 (c : Int)] w fun e w' => e = .returned (.int .u32 (2143289344 : Nat)) ∧ Q w w' := by
  have l0 := same64
  have la := fun w => wide_num ha w
  have lb := fun w => wide_num hb w
  have lc := fun w => wide_num hc w
  have lm := fun w => run_float_arith (P := Try.prog) w .mul 104 .f64 _ _ _ hm
  clear ha hb hc hm
  go_enter Try.func46, Try.ntmps46
  go_wp2_with fail
  refine (number_any a _).mono ?_
  rintro e w1 ⟨rfl, rfl⟩
  go_wp2_with fail
  refine (number_any b _).mono ?_
  rintro e w1 ⟨rfl, rfl⟩
  go_wp2_with fail
  refine (number_any c _).mono ?_
  rintro e w1 ⟨rfl, rfl⟩
  go_wp2_with fail
  refine (odd_nan _ _ hs _).mono ?_
  rintro e w2 ⟨z, rfl, hz, q2⟩
  go_wp2_with fail
  refine (narrowed_any z _).mono ?_
  rintro e w3 ⟨rfl, q3⟩
  go_wp2_with fail
  go_ret
  exact ⟨ret_int (by rw [nar_nan hz]), ((Q.refl _).trans q2).trans q3⟩

/-- One that is a NaN, or a product or a sum without an answer. -/
theorem cfma_nan (a b c : Nat) (h : nanN a = true ∨ nanN b = true ∨ nanN c = true ∨ floatBits .mul .f64 (wideN a) (wideN b) = none ∨ ∃ p, floatBits .mul .f64 (wideN a) (wideN b) = some p ∧ floatBits .add .f64 p (wideN c) = none) (w : World) :
    Calls Try.prog 46 #[.int .u32 (a : Int), .int .u32 (b : Int), .int .u32 (c : Int)] w fun e w' => e = .returned (.int .u32 (2143289344 : Nat)) ∧ Q w w' := by
  cases ha : nanN a <;> cases hb : nanN b <;> cases hc : nanN c
  · rcases h with h | h | h | h | ⟨p, h, g⟩
    · rw [ha] at h; cases h
    · rw [hb] at h; cases h
    · rw [hc] at h; cases h
    · exact fma_pf a b c ha hb hc h w
    · exact fma_sf a b c p ha hb hc h g w
  · cases hm : floatBits .mul .f64 (wideN a) (wideN b) with
    | none => exact fma_pn a b c ha hb hc hm w
    | some p => exact fma_sn a b c p ha hb hc hm w
  · exact fma_fnf a b c ha hb hc w
  · exact fma_fnn a b c ha hb hc w
  · exact fma_nff a b c ha hb hc w
  · exact fma_nfn a b c ha hb hc w
  · exact fma_nnf a b c ha hb hc w
  · exact fma_nnn a b c ha hb hc w

set_option maxHeartbeats 800000 in
theorem cfma_odd (a b c p z : Nat) (ha : nanN a = false) (hb : nanN b = false) (hc : nanN c = false) (hm : floatBits .mul .f64 (wideN a) (wideN b) = some p)
    (hO : ∀ w, Calls Try.prog 62 #[.float .f64 p, .float .f64 (wideN c)] w fun e w' => e = .returned (.float .f64 z) ∧ Q w w') (w : World) :
    Calls Try.prog 46 #[.int .u32 (a : Int), .int .u32 (b : Int), .int .u32 (c : Int)] w fun e w' => e = .returned (.int .u32 (toldD (some (Ieee.double.read z)) : Nat)) ∧ Q w w' := by
  have l0 := same64
  have la := fun w => wide_num ha w
  have lb := fun w => wide_num hb w
  have lc := fun w => wide_num hc w
  have lm := fun w => run_float_arith (P := Try.prog) w .mul 104 .f64 _ _ _ hm
  clear ha hb hc hm
  go_enter Try.func46, Try.ntmps46
  go_wp2_with fail
  refine (number_any a _).mono ?_
  rintro e w1 ⟨rfl, rfl⟩
  go_wp2_with fail
  refine (number_any b _).mono ?_
  rintro e w1 ⟨rfl, rfl⟩
  go_wp2_with fail
  refine (number_any c _).mono ?_
  rintro e w1 ⟨rfl, rfl⟩
  go_wp2_with fail
  refine (hO _).mono ?_
  rintro e w2 ⟨rfl, q2⟩
  go_wp2_with fail
  refine (narrowed_any z _).mono ?_
  rintro e w3 ⟨rfl, q3⟩
  go_wp2_with fail
  go_ret
  exact ⟨rfl, q2.trans q3⟩
end Go.Proofs.Ytdempklpmggdoaa
/- What package arith's Fma returns of whatever samples: the exact product and sum, rounded once. -/
namespace Go.Proofs.Ytdempklpmggdoaa
open Go.RowKit

/-- The exact number of a product and a sum. -/
def fmaD (a b c : Nat) : Option Ieee.Datum := ((Ieee.single.read a).product (Ieee.single.read b)).bind fun d => d.sum (Ieee.single.read c)

theorem wide_read_inf {a : Nat} (h : rung32 a = 2139095040) : Ieee.double.read (wideN a) = .infinity (sgn32 a) := by rw [wide_inf h, read_winf64]
theorem fin_num {a : Nat} (h : rung32 a < 2139095040) : nanN a = false := by rw [nanN_rung]; exact decide_eq_false (by omega)
theorem inf_num {a : Nat} (h : rung32 a = 2139095040) : nanN a = false := by rw [nanN_rung]; exact decide_eq_false (by omega)
theorem wide_mag_zero {a : Nat} (h : rung32 a < 2139095040) : mag64 (rung64 (wideN a)) = 0 ↔ mag32 (rung32 a) = 0 := by
  obtain ⟨r, s, v⟩ := wide_fin h
  have e := val_abs (wideN a)
  rw [v] at e
  unfold sampleZ val64 at e
  rw [signed_abs] at e
  have p1 := Nat.two_pow_pos (plc32 (rung32 a) + 925)
  have p2 := Nat.two_pow_pos (plc64 (rung64 (wideN a)))
  constructor
  · intro h0
    rw [h0, Nat.zero_mul] at e
    rcases Nat.mul_eq_zero.1 e with k | k
    · exact k
    · omega
  · intro h0
    rw [h0, Nat.zero_mul] at e
    rcases Nat.mul_eq_zero.1 e.symm with k | k
    · exact k
    · omega

/-- All three finite. -/
theorem fma_fin {a b c : Nat} (ha : rung32 a < 2139095040) (hb : rung32 b < 2139095040) (hc : rung32 c < 2139095040) (w : World) :
    Calls Try.prog 46 #[.int .u32 (a : Int), .int .u32 (b : Int), .int .u32 (c : Int)] w fun e w' => e = .returned (.int .u32 (toldD (fmaD a b c) : Nat)) ∧ Q w w' := by
  have pa := plc_le32 ha
  have pb := plc_le32 hb
  have pc := plc_le32 hc
  have hm := prod_lt a b
  have hmc := mag_lt32 (rung32 c)
  obtain ⟨rp, sp, vp⟩ := units_word (s := sgn32 a ^^ sgn32 b) (m := mag32 (rung32 a) * mag32 (rung32 b)) (k := plc32 (rung32 a) + plc32 (rung32 b) + 776) (by omega) (by omega)
  obtain ⟨rc, sc, vc⟩ := wide_fin hc
  have hmul := prod_units ha hb
  obtain ⟨P, hP⟩ : ∃ P, P = wordOf (sgn32 a ^^ sgn32 b) (prodZ a b) := ⟨_, rfl⟩
  have vP : sval64 P = prodZ a b := by rw [hP]; exact vp
  have rP : rung64 P < 9218868437227405312 := by rw [hP]; exact rp
  have sP : sgn64 P = (sgn32 a ^^ sgn32 b) := by rw [hP]; exact sp
  rw [← hP] at hmul
  obtain ⟨Z, hZ⟩ : ∃ Z, Z = prodZ a b + sampleZ c := ⟨_, rfl⟩
  have bX : (prodZ a b).natAbs < 2 ^ capJ := by unfold prodZ; rw [signed_abs]; exact cap_units hm (by omega)
  have bY : (sampleZ c).natAbs < 2 ^ capJ := by unfold sampleZ; rw [signed_abs]; exact cap_units (e := 24) (by omega) (by omega)
  have lZ : Z.natAbs.log2 ≤ 2000 := cap_log (by rw [hZ]; omega)
  have hadd := add_fin rP rc
  rw [sP, sc, vP, vc, ← hZ] at hadd
  obtain ⟨σ, hσ⟩ : ∃ σ, σ = sg (sgn32 a ^^ sgn32 b) (sgn32 c) Z := ⟨_, rfl⟩
  rw [← hσ] at hadd
  have hσ' : Z ≠ 0 → σ = decide (Z < 0) := fun h => by rw [hσ]; exact sg_of h
  obtain ⟨f1, f2, f3, f4⟩ := wordOf_facts (σ := σ) lZ hσ'
  -- the units of both
  obtain ⟨g, hg⟩ : ∃ g, g = min (plc32 (rung32 a) + plc32 (rung32 b) + 776) (plc32 (rung32 c) + 925) := ⟨_, rfl⟩
  have dX : ((2 ^ g : Nat) : Int) ∣ sval64 P := by rw [vP]; exact signed_dvd _ _ (by omega)
  have dY : ((2 ^ g : Nat) : Int) ∣ sval64 (wideN c) := by rw [vc]; exact signed_dvd _ _ (by omega)
  have hsmall : ab (sval64 P) < 2 ^ (48 + g) ∨ ab (sval64 (wideN c)) < 2 ^ (48 + g) := by
    rcases Nat.le_total (plc32 (rung32 a) + plc32 (rung32 b) + 776) (plc32 (rung32 c) + 925) with k | k
    · left
      rw [vP]
      show (prodZ a b).natAbs < _
      unfold prodZ
      rw [signed_abs, show plc32 (rung32 a) + plc32 (rung32 b) + 776 = g by omega]
      have h := Nat.mul_lt_mul_of_pos_right hm (Nat.two_pow_pos g)
      rw [← Nat.pow_add] at h
      exact h
    · right
      rw [vc]
      show (sampleZ c).natAbs < _
      unfold sampleZ
      rw [signed_abs, show plc32 (rung32 c) + 925 = g by omega]
      have h := Nat.mul_lt_mul_of_pos_right (show mag32 (rung32 c) < 2 ^ 48 by omega) (Nat.two_pow_pos g)
      rw [← Nat.pow_add] at h
      exact h
  have hS : sval64 (wordOf σ Z) = RN (sval64 P + sval64 (wideN c)) := by rw [f4, vP, vc, hZ]
  obtain ⟨p, q, t, u, l, k1, k2, k3, k4, k5, vl, rl⟩ := lost_words (B := 2 ^ capJ) (fun n h => cap_log h) rP rc f3 (by rw [vP]; exact bX) (by rw [vc]; exact bY) dX dY hsmall hS
  rw [vP, vc, ← hZ, f4] at vl
  have hln : nan64 l = false := by rw [nan64_rung]; exact decide_eq_false (by omega)
  have hs0 : rung64 l = 0 ∨ 0 < wordOf σ Z := by
    by_cases h : Z = 0
    · left; rw [← sval_zero, vl, h, RN_zero]; rfl
    · right
      unfold wordOf
      rw [word64, rung64_eq lZ]
      have := rung_pos (M := Z.natAbs) (by omega)
      omega
  have hlt : wordOf σ Z < 18446744073709551615 := by
    unfold wordOf at f1 f3 ⊢
    rw [f1] at f3
    rw [word64]
    have := Bool.toNat_lt σ
    omega
  have hO := fun w => odd_fin P (wideN c) (wordOf σ Z) l hlt hs0 hln hadd (fun w => lost_fin P (wideN c) (wordOf σ Z) p q t u l k1 k2 k3 k4 k5 w) w
  have hF := cfma_odd a b c P (oddV (wordOf σ Z) l) (fin_num ha) (fin_num hb) (fin_num hc) hmul hO w
  have hval : toldD (some (Ieee.double.read (oddV (wordOf σ Z) l))) = Ieee.single.word σ (rungOf Ieee.single Z.natAbs (-1074)) := by
    by_cases h : Z = 0
    · have e1 : oddV (wordOf σ Z) l = Ieee.double.word σ 0 := by
        have hl0 : rung64 l = 0 := by rw [← sval_zero, vl, h, RN_zero]; rfl
        unfold oddV
        rw [if_pos (Or.inr hl0)]
        unfold wordOf
        rw [h, show (0 : Int).natAbs = 0 from rfl, rungOf_zero]
      rw [e1, read_word64, toldD_num, rungOf_zero, h, show (0 : Int).natAbs = 0 from rfl, rungOf_zero]
    · obtain ⟨R, e1, e2, e3⟩ := odd_word lZ h (hσ' h) rl vl
      rw [e1]
      obtain ⟨a1, a2⟩ := sgn_word64 σ (r := R) (by omega)
      rw [read_fin64 (by rw [a2]; exact e2), a1, a2, toldD_num, rung_word64, e3]
  have htold : toldD (fmaD a b c) = Ieee.single.word σ (rungOf Ieee.single Z.natAbs (-1074)) := by
    unfold fmaD
    rw [read_fin32 ha, read_fin32 hb, read_fin32 hc]
    obtain ⟨N, bb, e1, e2⟩ := sum_units (sgn32 a ^^ sgn32 b) (sgn32 c) (mag32 (rung32 a) * mag32 (rung32 b)) (mag32 (rung32 c)) (-149 + (plc32 (rung32 a) : Int) + (-149 + (plc32 (rung32 b) : Int))) (-149 + (plc32 (rung32 c) : Int)) (by omega) (by omega)
    have e3 : Ieee.signed (sgn32 a ^^ sgn32 b) (mag32 (rung32 a) * mag32 (rung32 b)) (-149 + (plc32 (rung32 a) : Int) + (-149 + (plc32 (rung32 b) : Int)) + 1074).toNat + Ieee.signed (sgn32 c) (mag32 (rung32 c)) (-149 + (plc32 (rung32 c) : Int) + 1074).toNat = Z := by
      rw [hZ]; unfold prodZ sampleZ
      rw [show (-149 + (plc32 (rung32 a) : Int) + (-149 + (plc32 (rung32 b) : Int)) + 1074).toNat = plc32 (rung32 a) + plc32 (rung32 b) + 776 by omega, show (-149 + (plc32 (rung32 c) : Int) + 1074).toNat = plc32 (rung32 c) + 925 by omega]
    rw [e3] at e1 e2
    show toldD ((Ieee.Datum.number (sgn32 a ^^ sgn32 b) (mag32 (rung32 a) * mag32 (rung32 b)) (-149 + (plc32 (rung32 a) : Int) + (-149 + (plc32 (rung32 b) : Int)))).sum (.number (sgn32 c) (mag32 (rung32 c)) (-149 + (plc32 (rung32 c) : Int)))) = _
    rw [e1, toldD_num, e2, hσ]
  rw [htold, ← hval]
  exact hF

theorem told_inf (σ : Bool) : toldD (some (Ieee.double.read (Ieee.double.word σ 9218868437227405312))) = Ieee.single.word σ 2139095040 := by
  rw [read_winf64]
  show Ieee.single.word σ Ieee.single.infRung = _
  rw [inf32]
theorem inf_even (σ : Bool) : Ieee.double.word σ 9218868437227405312 % 2 = 0 ∧ Ieee.double.word σ 9218868437227405312 < 18446744073709551616 := by
  rw [word64]; have := Bool.toNat_lt σ; omega
theorem sub_inf_inf (σ : Bool) : floatBits .sub .f64 (Ieee.double.word σ 9218868437227405312) (Ieee.double.word σ 9218868437227405312) = none := by
  show ((Ieee.double.read _).sum (Ieee.double.read _).opposite).map _ = none
  rw [read_winf64]
  cases σ <;> rfl
theorem write_inf (σ : Bool) : Ieee.double.write (.infinity σ) = Ieee.double.word σ 9218868437227405312 := by
  show Ieee.double.word σ Ieee.double.infRung = _
  rw [inf64]

/-- An infinite product. -/
theorem fma_pinf {a b c : Nat} {σ : Bool} (ha : nanN a = false) (hb : nanN b = false) (hc : nanN c = false) (hm : floatBits .mul .f64 (wideN a) (wideN b) = some (Ieee.double.word σ 9218868437227405312))
    (hp : (Ieee.single.read a).product (Ieee.single.read b) = some (.infinity σ)) (w : World) :
    Calls Try.prog 46 #[.int .u32 (a : Int), .int .u32 (b : Int), .int .u32 (c : Int)] w fun e w' => e = .returned (.int .u32 (toldD (fmaD a b c) : Nat)) ∧ Q w w' := by
  have hc' := hc
  rw [nanN_rung] at hc'
  have hc' := of_decide_eq_false hc'
  have key : ∀ (hs : floatBits .add .f64 (Ieee.double.word σ 9218868437227405312) (wideN c) = some (Ieee.double.word σ 9218868437227405312)) (ht : (Ieee.Datum.infinity σ).sum (Ieee.single.read c) = some (.infinity σ)),
      Calls Try.prog 46 #[.int .u32 (a : Int), .int .u32 (b : Int), .int .u32 (c : Int)] w fun e w' => e = .returned (.int .u32 (toldD (fmaD a b c) : Nat)) ∧ Q w w' := by
    intro hs ht
    have e : toldD (fmaD a b c) = toldD (some (Ieee.double.read (Ieee.double.word σ 9218868437227405312))) := by
      unfold fmaD; rw [hp, told_inf]
      show toldD ((Ieee.Datum.infinity σ).sum (Ieee.single.read c)) = _
      rw [ht]
      show Ieee.single.word σ Ieee.single.infRung = _
      rw [inf32]
    rw [e]
    exact cfma_odd a b c _ _ ha hb hc hm (fun w => odd_inf _ _ _ (inf_even σ).2 (inf_even σ).1 hs (fun w => lost_inf1 _ _ _ (sub_inf_inf σ) w) w) w
  rcases Nat.lt_or_ge (rung32 c) 2139095040 with g | g
  · refine key ?_ ?_
    · show ((Ieee.double.read _).sum (Ieee.double.read _)).map _ = _
      rw [read_winf64, read_fin64 (wide_fin g).1]
      show some (Ieee.double.write (.infinity σ)) = _
      rw [write_inf]
    · rw [read_fin32 g]; rfl
  · by_cases h : σ = sgn32 c
    · refine key ?_ ?_
      · show ((Ieee.double.read _).sum (Ieee.double.read _)).map _ = _
        rw [read_winf64, wide_read_inf (by omega), ← h]
        show (if σ = σ then some (Ieee.Datum.infinity σ) else none).map Ieee.double.write = _
        rw [if_pos rfl]
        show some (Ieee.double.write (.infinity σ)) = _
        rw [write_inf]
      · rw [read_inf32 (by omega), ← h]
        show (if σ = σ then some (Ieee.Datum.infinity σ) else none) = _
        rw [if_pos rfl]
    · have hn : floatBits .add .f64 (Ieee.double.word σ 9218868437227405312) (wideN c) = none := by
        show ((Ieee.double.read _).sum (Ieee.double.read _)).map _ = _
        rw [read_winf64, wide_read_inf (by omega)]
        show (if σ = sgn32 c then some (Ieee.Datum.infinity σ) else none).map Ieee.double.write = _
        rw [if_neg h]; rfl
      have e : toldD (fmaD a b c) = 2143289344 := by
        unfold fmaD; rw [hp]
        show toldD ((Ieee.Datum.infinity σ).sum (Ieee.single.read c)) = _
        rw [read_inf32 (by omega)]
        show toldD (if σ = sgn32 c then some (Ieee.Datum.infinity σ) else none) = _
        rw [if_neg h]; rfl
      rw [e]
      exact cfma_nan a b c (Or.inr (Or.inr (Or.inr (Or.inr ⟨_, hm, hn⟩)))) w

/-- A product without an answer. -/
theorem fma_pnone {a b c : Nat} (hm : floatBits .mul .f64 (wideN a) (wideN b) = none) (hp : (Ieee.single.read a).product (Ieee.single.read b) = none) (w : World) :
    Calls Try.prog 46 #[.int .u32 (a : Int), .int .u32 (b : Int), .int .u32 (c : Int)] w fun e w' => e = .returned (.int .u32 (toldD (fmaD a b c) : Nat)) ∧ Q w w' := by
  have e : toldD (fmaD a b c) = 2143289344 := by unfold fmaD; rw [hp]; rfl
  rw [e]
  exact cfma_nan a b c (Or.inr (Or.inr (Or.inr (Or.inl hm)))) w

/-- A finite product and an infinity. -/
theorem fma_cinf {a b c : Nat} (ha : rung32 a < 2139095040) (hb : rung32 b < 2139095040) (hc : rung32 c = 2139095040) (w : World) :
    Calls Try.prog 46 #[.int .u32 (a : Int), .int .u32 (b : Int), .int .u32 (c : Int)] w fun e w' => e = .returned (.int .u32 (toldD (fmaD a b c) : Nat)) ∧ Q w w' := by
  have pa := plc_le32 ha
  have pb := plc_le32 hb
  have hm := prod_lt a b
  obtain ⟨rp, sp, vp⟩ := units_word (s := sgn32 a ^^ sgn32 b) (m := mag32 (rung32 a) * mag32 (rung32 b)) (k := plc32 (rung32 a) + plc32 (rung32 b) + 776) (by omega) (by omega)
  have hmul := prod_units ha hb
  obtain ⟨P, hP⟩ : ∃ P, P = wordOf (sgn32 a ^^ sgn32 b) (prodZ a b) := ⟨_, rfl⟩
  have rP : rung64 P < 9218868437227405312 := by rw [hP]; exact rp
  rw [← hP] at hmul
  have hadd : floatBits .add .f64 P (wideN c) = some (Ieee.double.word (sgn32 c) 9218868437227405312) := by
    show ((Ieee.double.read _).sum (Ieee.double.read _)).map _ = _
    rw [wide_read_inf hc, read_fin64 rP]
    show some (Ieee.double.write (.infinity (sgn32 c))) = _
    rw [write_inf]
  have e1 : floatBits .sub .f64 (Ieee.double.word (sgn32 c) 9218868437227405312) P = some (Ieee.double.word (sgn32 c) 9218868437227405312) := by
    show ((Ieee.double.read _).sum (Ieee.double.read _).opposite).map _ = _
    rw [read_winf64, read_fin64 rP]
    show some (Ieee.double.write (.infinity (sgn32 c))) = _
    rw [write_inf]
  have e2 : floatBits .sub .f64 (wideN c) (Ieee.double.word (sgn32 c) 9218868437227405312) = none := by
    rw [wide_inf hc]; exact sub_inf_inf _
  have e : toldD (fmaD a b c) = toldD (some (Ieee.double.read (Ieee.double.word (sgn32 c) 9218868437227405312))) := by
    unfold fmaD
    rw [read_fin32 ha, read_fin32 hb, read_inf32 hc, told_inf]
    show Ieee.single.word _ Ieee.single.infRung = _
    rw [inf32]
  rw [e]
  exact cfma_odd a b c P _ (fin_num ha) (fin_num hb) (inf_num hc) hmul (fun w => odd_inf _ _ _ (inf_even _).2 (inf_even _).1 hadd (fun w => lost_inf2 _ _ _ e1 (sub_inf_inf _) e2 w) w) w

theorem cfma_any (a b c : Nat) (w : World) :
    Calls Try.prog 46 #[.int .u32 (a : Int), .int .u32 (b : Int), .int .u32 (c : Int)] w fun e w' => e = .returned (.int .u32 (toldD (fmaD a b c) : Nat)) ∧ Q w w' := by
  cases hna : nanN a
  case true =>
    have e : toldD (fmaD a b c) = 2143289344 := by unfold fmaD; rw [product_nan1 (read32_nan hna)]; rfl
    rw [e]; exact cfma_nan a b c (Or.inl hna) w
  cases hnb : nanN b
  case true =>
    have e : toldD (fmaD a b c) = 2143289344 := by unfold fmaD; rw [product_nan2 (read32_nan hnb)]; rfl
    rw [e]; exact cfma_nan a b c (Or.inr (Or.inl hnb)) w
  cases hnc : nanN c
  case true =>
    have e : toldD (fmaD a b c) = 2143289344 := by
      unfold fmaD
      cases (Ieee.single.read a).product (Ieee.single.read b) with
      | none => rfl
      | some d =>
        show toldD (d.sum (Ieee.single.read c)) = _
        rw [sum_nan2 (read32_nan hnc)]; rfl
    rw [e]; exact cfma_nan a b c (Or.inr (Or.inr (Or.inl hnc))) w
  have ra := hna
  have rb := hnb
  have rc := hnc
  rw [nanN_rung] at ra rb rc
  have ra := of_decide_eq_false ra
  have rb := of_decide_eq_false rb
  have rc := of_decide_eq_false rc
  rcases Nat.lt_or_ge (rung32 a) 2139095040 with ga | ga
  · rcases Nat.lt_or_ge (rung32 b) 2139095040 with gb | gb
    · rcases Nat.lt_or_ge (rung32 c) 2139095040 with gc | gc
      · exact fma_fin ga gb gc w
      · exact fma_cinf ga gb (by omega) w
    · by_cases z : mag32 (rung32 a) = 0
      · refine fma_pnone ?_ ?_ w
        · show ((Ieee.double.read _).product (Ieee.double.read _)).map _ = _
          rw [wide_read_inf (a := b) (by omega), read_fin64 (wide_fin ga).1]
          show (if mag64 (rung64 (wideN a)) = 0 then none else some (Ieee.Datum.infinity (sgn32 b ^^ sgn64 (wideN a)))).map Ieee.double.write = _
          rw [if_pos ((wide_mag_zero ga).2 z)]; rfl
        · rw [read_fin32 ga, read_inf32 (by omega)]
          show (if mag32 (rung32 a) = 0 then none else some (Ieee.Datum.infinity (sgn32 b ^^ sgn32 a))) = _
          rw [if_pos z]
      · refine fma_pinf (σ := sgn32 b ^^ sgn32 a) hna hnb hnc ?_ ?_ w
        · show ((Ieee.double.read _).product (Ieee.double.read _)).map _ = _
          rw [wide_read_inf (a := b) (by omega), read_fin64 (wide_fin ga).1]
          show (if mag64 (rung64 (wideN a)) = 0 then none else some (Ieee.Datum.infinity (sgn32 b ^^ sgn64 (wideN a)))).map Ieee.double.write = _
          rw [if_neg (fun h => z ((wide_mag_zero ga).1 h)), (wide_fin ga).2.1]
          show some (Ieee.double.write (.infinity _)) = _
          rw [write_inf]
        · rw [read_fin32 ga, read_inf32 (by omega)]
          show (if mag32 (rung32 a) = 0 then none else some (Ieee.Datum.infinity (sgn32 b ^^ sgn32 a))) = _
          rw [if_neg z]
  · rcases Nat.lt_or_ge (rung32 b) 2139095040 with gb | gb
    · by_cases z : mag32 (rung32 b) = 0
      · refine fma_pnone ?_ ?_ w
        · show ((Ieee.double.read _).product (Ieee.double.read _)).map _ = _
          rw [wide_read_inf (by omega), read_fin64 (wide_fin gb).1]
          show (if mag64 (rung64 (wideN b)) = 0 then none else some (Ieee.Datum.infinity (sgn32 a ^^ sgn64 (wideN b)))).map Ieee.double.write = _
          rw [if_pos ((wide_mag_zero gb).2 z)]; rfl
        · rw [read_fin32 gb, read_inf32 (by omega)]
          show (if mag32 (rung32 b) = 0 then none else some (Ieee.Datum.infinity (sgn32 a ^^ sgn32 b))) = _
          rw [if_pos z]
      · refine fma_pinf (σ := sgn32 a ^^ sgn32 b) hna hnb hnc ?_ ?_ w
        · show ((Ieee.double.read _).product (Ieee.double.read _)).map _ = _
          rw [wide_read_inf (by omega), read_fin64 (wide_fin gb).1]
          show (if mag64 (rung64 (wideN b)) = 0 then none else some (Ieee.Datum.infinity (sgn32 a ^^ sgn64 (wideN b)))).map Ieee.double.write = _
          rw [if_neg (fun h => z ((wide_mag_zero gb).1 h)), (wide_fin gb).2.1]
          show some (Ieee.double.write (.infinity _)) = _
          rw [write_inf]
        · rw [read_fin32 gb, read_inf32 (by omega)]
          show (if mag32 (rung32 b) = 0 then none else some (Ieee.Datum.infinity (sgn32 a ^^ sgn32 b))) = _
          rw [if_neg z]
    · refine fma_pinf (σ := sgn32 a ^^ sgn32 b) hna hnb hnc ?_ ?_ w
      · show ((Ieee.double.read _).product (Ieee.double.read _)).map _ = _
        rw [wide_read_inf (by omega), wide_read_inf (by omega)]
        show some (Ieee.double.write (.infinity _)) = _
        rw [write_inf]
      · rw [read_inf32 (by omega), read_inf32 (by omega)]; rfl
end Go.Proofs.Ytdempklpmggdoaa

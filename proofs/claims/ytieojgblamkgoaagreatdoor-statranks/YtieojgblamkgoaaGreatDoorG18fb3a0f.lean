/- Plain facts: what is lost of a sum in binary64 is told exactly by five steps; the sum made odd, made narrow, is the exact sum rounded once. -/
import Derived.Test.YtieojgblamkgoaaGreatDoorGfe1f3128
import Derived.Test.YtieojgblamkgoaaGreatDoorG93041aaa
namespace Go.Proofs.YtieojgblamkgoaaGreatDoor
open Go.RowKit

/-- A size that no sum here comes to. -/
def capJ : Nat := 1990
theorem cap_log {n : Nat} (h : n < 1024 * 2 ^ capJ) : n.log2 ≤ 2000 := by
  by_cases h0 : n = 0
  · subst h0; decide
  · have e : 1024 * 2 ^ capJ = 2 ^ (10 + capJ) := by rw [Nat.pow_add]
    rw [e] at h
    have := (Nat.log2_lt h0).2 h
    unfold capJ at this
    omega
/-- The size. -/
def ab (z : Int) : Nat := z.natAbs
theorem ab_add (a b : Int) : ab (a + b) ≤ ab a + ab b := by unfold ab; omega
theorem ab_sub (a b : Int) : ab (a - b) ≤ ab a + ab b := by unfold ab; omega
theorem ab_neg {a b : Int} (h : a = -b) : ab a = ab b := by unfold ab; omega
theorem sub_step {B x y : Nat} (hB : ∀ n, n < 1024 * B → n.log2 ≤ 2000) (hx : rung64 x < 9218868437227405312) (hy : rung64 y < 9218868437227405312) (hs : ab (sval64 x - sval64 y) < 1024 * B) :
    ∃ r, floatBits .sub .f64 x y = some r ∧ sval64 r = RN (sval64 x - sval64 y) ∧ rung64 r < 9218868437227405312 ∧ ab (sval64 r) ≤ 2 * ab (sval64 x - sval64 y) := by
  obtain ⟨a, b, c, d⟩ := wordOf_facts (σ := sg (sgn64 x) (!sgn64 y) (sval64 x - sval64 y)) (hB _ hs) sg_of
  exact ⟨_, sub_fin hx hy, d, c, by rw [d]; exact RN_le (hB _ hs)⟩
theorem add_step {B x y : Nat} (hB : ∀ n, n < 1024 * B → n.log2 ≤ 2000) (hx : rung64 x < 9218868437227405312) (hy : rung64 y < 9218868437227405312) (hs : ab (sval64 x + sval64 y) < 1024 * B) :
    ∃ r, floatBits .add .f64 x y = some r ∧ sval64 r = RN (sval64 x + sval64 y) ∧ rung64 r < 9218868437227405312 ∧ ab (sval64 r) ≤ 2 * ab (sval64 x + sval64 y) := by
  obtain ⟨a, b, c, d⟩ := wordOf_facts (σ := sg (sgn64 x) (sgn64 y) (sval64 x + sval64 y)) (hB _ hs) sg_of
  exact ⟨_, add_fin hx hy, d, c, by rw [d]; exact RN_le (hB _ hs)⟩

/-- The five steps. -/
theorem lost_words {B x y s g : Nat} (hB : ∀ n, n < 1024 * B → n.log2 ≤ 2000) (hx : rung64 x < 9218868437227405312) (hy : rung64 y < 9218868437227405312) (hs : rung64 s < 9218868437227405312)
    (bx : ab (sval64 x) < B) (by' : ab (sval64 y) < B) (dx : ((2 ^ g : Nat) : Int) ∣ sval64 x) (dy : ((2 ^ g : Nat) : Int) ∣ sval64 y)
    (hg : ab (sval64 x) < 2 ^ (48 + g) ∨ ab (sval64 y) < 2 ^ (48 + g)) (hS : sval64 s = RN (sval64 x + sval64 y)) :
    ∃ p q t u l, floatBits .sub .f64 s x = some p ∧ floatBits .sub .f64 s p = some q ∧ floatBits .sub .f64 x q = some t ∧ floatBits .sub .f64 y p = some u ∧ floatBits .add .f64 t u = some l ∧
      sval64 l = sval64 x + sval64 y - sval64 s ∧ rung64 l < 9218868437227405312 := by
  have z1 := ab_add (sval64 x) (sval64 y)
  have hZ : (sval64 x + sval64 y).natAbs.log2 ≤ 2000 := hB _ (show ab (sval64 x + sval64 y) < 1024 * B by omega)
  have b1 : ab (sval64 s - (sval64 x + sval64 y)) ≤ ab (sval64 y) := by
    have h : ab (RN (sval64 x + sval64 y) - (sval64 x + sval64 y)) ≤ ab (sval64 x - (sval64 x + sval64 y)) := RN_best hZ x
    rw [← hS, ab_neg (show sval64 x - (sval64 x + sval64 y) = -sval64 y by omega)] at h
    exact h
  have b2 : ab (sval64 s - (sval64 x + sval64 y)) ≤ ab (sval64 x) := by
    have h : ab (RN (sval64 x + sval64 y) - (sval64 x + sval64 y)) ≤ ab (sval64 y - (sval64 x + sval64 y)) := RN_best hZ y
    rw [← hS, ab_neg (show sval64 y - (sval64 x + sval64 y) = -sval64 x by omega)] at h
    exact h
  have b3 : ab (sval64 s) ≤ 2 * ab (sval64 x + sval64 y) := by rw [hS]; exact RN_le hZ
  have ds : ((2 ^ g : Nat) : Int) ∣ sval64 s := by rw [hS]; exact RN_dvd hZ (Int.dvd_add dx dy)
  have e53 : 2 ^ (53 + g) = 32 * 2 ^ (48 + g) := by rw [show 53 + g = 5 + (48 + g) by omega, Nat.pow_add]
  have z2 := ab_sub (sval64 s) (sval64 x)
  obtain ⟨p, fp, vp, rp, bp⟩ := sub_step hB hs hx (by omega)
  have hP : (sval64 s - sval64 x).natAbs.log2 ≤ 2000 := hB _ (show ab (sval64 s - sval64 x) < 1024 * B by omega)
  have dP := Int.dvd_sub ds dx
  have dp : ((2 ^ g : Nat) : Int) ∣ sval64 p := by rw [vp]; exact RN_dvd hP dP
  have z3 := ab_sub (sval64 s) (sval64 p)
  obtain ⟨q, fq, vq, rq, bq⟩ := sub_step hB hs rp (by omega)
  have hQ : (sval64 s - sval64 p).natAbs.log2 ≤ 2000 := hB _ (show ab (sval64 s - sval64 p) < 1024 * B by omega)
  have z4 := ab_sub (sval64 x) (sval64 q)
  have z5 := ab_sub (sval64 y) (sval64 p)
  obtain ⟨t, ft, vt, rt, bt⟩ := sub_step hB hx rq (by omega)
  obtain ⟨u, fu, vu, ru, bu⟩ := sub_step hB hy rp (by omega)
  have hT : (sval64 x - sval64 q).natAbs.log2 ≤ 2000 := hB _ (show ab (sval64 x - sval64 q) < 1024 * B by omega)
  have hU : (sval64 y - sval64 p).natAbs.log2 ≤ 2000 := hB _ (show ab (sval64 y - sval64 p) < 1024 * B by omega)
  have z6 := ab_add (sval64 t) (sval64 u)
  obtain ⟨l, fl, vl, rl, bl⟩ := add_step hB rt ru (by omega)
  have hL : (sval64 t + sval64 u).natAbs.log2 ≤ 2000 := hB _ (show ab (sval64 t + sval64 u) < 1024 * B by omega)
  refine ⟨p, q, t, u, l, fp, fq, ft, fu, fl, ?_, rl⟩
  rcases hg with hg | hg
  · -- the first one is small
    have b4 : ab (sval64 p - (sval64 s - sval64 x)) ≤ ab (sval64 x) := by
      have h : ab (RN (sval64 s - sval64 x) - (sval64 s - sval64 x)) ≤ ab (sval64 y - (sval64 s - sval64 x)) := RN_best hP y
      rw [← vp, ab_neg (show sval64 y - (sval64 s - sval64 x) = -(sval64 s - (sval64 x + sval64 y)) by omega)] at h
      exact Nat.le_trans h b2
    have eq : sval64 q = sval64 s - sval64 p := by
      have k1 := ab_sub (sval64 x) (sval64 p - (sval64 s - sval64 x))
      rw [show sval64 x - (sval64 p - (sval64 s - sval64 x)) = sval64 s - sval64 p by omega] at k1
      rw [vq]; exact RN_exact hQ (Int.dvd_sub ds dp) (show ab (sval64 s - sval64 p) < 2 ^ (53 + g) by omega)
    have et : sval64 t = sval64 x - sval64 q := by
      have k1 : sval64 x - sval64 q = sval64 p - (sval64 s - sval64 x) := by rw [eq]; omega
      rw [vt]
      refine RN_exact hT (g := g) ?_ (show ab (sval64 x - sval64 q) < 2 ^ (53 + g) by rw [k1]; omega)
      rw [k1]; exact Int.dvd_sub dp dP
    have eu : sval64 u = sval64 y - sval64 p := by
      have k1 := ab_sub (sval64 y - (sval64 s - sval64 x)) (sval64 p - (sval64 s - sval64 x))
      rw [show sval64 y - (sval64 s - sval64 x) - (sval64 p - (sval64 s - sval64 x)) = sval64 y - sval64 p by omega, ab_neg (show sval64 y - (sval64 s - sval64 x) = -(sval64 s - (sval64 x + sval64 y)) by omega)] at k1
      rw [vu]; exact RN_exact hU (Int.dvd_sub dy dp) (show ab (sval64 y - sval64 p) < 2 ^ (53 + g) by omega)
    have esum : sval64 t + sval64 u = sval64 x + sval64 y - sval64 s := by rw [et, eu, eq]; omega
    have k2 : ab (sval64 t + sval64 u) = ab (sval64 s - (sval64 x + sval64 y)) := ab_neg (by rw [esum]; omega)
    rw [vl]
    have k3 : RN (sval64 t + sval64 u) = sval64 t + sval64 u := by
      refine RN_exact hL (g := g) ?_ (show ab (sval64 t + sval64 u) < 2 ^ (53 + g) by omega)
      rw [esum]; exact Int.dvd_sub (Int.dvd_add dx dy) ds
    rw [k3, esum]
  · have ep : sval64 p = sval64 s - sval64 x := by
      have k1 := ab_add (sval64 s - (sval64 x + sval64 y)) (sval64 y)
      rw [show sval64 s - (sval64 x + sval64 y) + sval64 y = sval64 s - sval64 x by omega] at k1
      rw [vp]; exact RN_exact hP dP (show ab (sval64 s - sval64 x) < 2 ^ (53 + g) by omega)
    have eq : sval64 q = sval64 x := by
      rw [vq, ep, show sval64 s - (sval64 s - sval64 x) = sval64 x by omega]
      exact RN_self (hB _ (show ab (sval64 x) < 1024 * B by omega))
    have et : sval64 t = 0 := by
      rw [vt, eq, Int.sub_self]; exact RN_zero
    have k1 : ab (sval64 y - sval64 p) = ab (sval64 s - (sval64 x + sval64 y)) := ab_neg (by rw [ep]; omega)
    have eu : sval64 u = sval64 y - sval64 p := by
      rw [vu]; exact RN_exact hU (Int.dvd_sub dy dp) (show ab (sval64 y - sval64 p) < 2 ^ (53 + g) by omega)
    have esum : sval64 t + sval64 u = sval64 x + sval64 y - sval64 s := by rw [et, eu, ep]; omega
    have k2 : ab (sval64 t + sval64 u) = ab (sval64 s - (sval64 x + sval64 y)) := ab_neg (by rw [esum]; omega)
    rw [vl]
    have k3 : RN (sval64 t + sval64 u) = sval64 t + sval64 u := by
      refine RN_exact hL (g := g) ?_ (show ab (sval64 t + sval64 u) < 2 ^ (53 + g) by omega)
      rw [esum]; exact Int.dvd_sub (Int.dvd_add dx dy) ds
    rw [k3, esum]

theorem sval_zero {l : Nat} : sval64 l = 0 ↔ rung64 l = 0 := by
  have h1 : rung64 l = 0 → val64 (rung64 l) = 0 := fun h => by rw [h]; exact val_zero64
  have h2 : 0 < rung64 l → 0 < val64 (rung64 l) := val_pos64
  unfold sval64
  constructor
  · intro h
    rcases Nat.eq_zero_or_pos (rung64 l) with g | g
    · exact g
    · have := h2 g; split at h <;> omega
  · intro h
    rw [h1 h]; split <;> rfl
theorem order_neg {l : Nat} (h : rung64 l < 9218868437227405312) : (Ieee.double.order l 0 == some Ordering.lt) = decide (sval64 l < 0) := by
  rw [order_fin64 h (by decide), ← sval_srung64, cmp_lt, show sval64 0 = 0 from by decide]

/-- The odd one of the two about a number. -/
theorem odd_stick (M : Nat) :
    (if rne M (lostK M) % 2 = 1 ∨ rne M (lostK M) * 2 ^ lostK M = M then rne M (lostK M) else if rne M (lostK M) * 2 ^ lostK M < M then rne M (lostK M) + 1 else rne M (lostK M) - 1) = stick M (lostK M + 1) := by
  obtain ⟨K, hKe⟩ : ∃ K, K = lostK M := ⟨_, rfl⟩
  rw [← hKe]
  have hp := Nat.two_pow_pos K
  have d1 := Nat.div_add_mod M (2 ^ K)
  have r1 := Nat.mod_lt M hp
  have ep : 2 ^ (K + 1) = 2 * 2 ^ K := by rw [Nat.pow_succ]; omega
  have c1 : M / 2 ^ (K + 1) = M / 2 ^ K / 2 := by rw [Nat.pow_succ, Nat.div_div_eq_div_mul]
  have c2 := Nat.div_add_mod M (2 ^ (K + 1))
  have hc : (rne M K = M / 2 ^ K ∧ ¬ (2 ^ K < 2 * (M % 2 ^ K) ∨ (2 ^ K = 2 * (M % 2 ^ K) ∧ M / 2 ^ K % 2 = 1))) ∨ (rne M K = M / 2 ^ K + 1 ∧ (2 ^ K < 2 * (M % 2 ^ K) ∨ (2 ^ K = 2 * (M % 2 ^ K) ∧ M / 2 ^ K % 2 = 1))) := by
    unfold rne
    by_cases h : goesUp M K
    · rw [if_pos h]; exact Or.inr ⟨rfl, h⟩
    · rw [if_neg h]; exact Or.inl ⟨rfl, h⟩
  unfold stick
  rw [c1] at c2 ⊢
  generalize rne M K = c at hc
  generalize hT : M / 2 ^ K = T at c2 d1 hc
  generalize hr : M % 2 ^ K = r at d1 r1 hc
  generalize hR : M % 2 ^ (K + 1) = R at c2
  rw [ep] at c2
  generalize hE : 2 ^ K = E at c2 d1 r1 hp hc
  clear hT hr hR hE hKe ep c1
  have hRr : R = T % 2 * E + r := by
    have a1 : E * T = 2 * E * (T / 2) + T % 2 * E := by
      have h2 : E * T = E * (2 * (T / 2) + T % 2) := by rw [Nat.div_add_mod T 2]
      rw [h2, Nat.mul_add, ← Nat.mul_assoc, Nat.mul_comm E 2, Nat.mul_comm E (T % 2)]
    omega
  have e0 : E * T = T * E := Nat.mul_comm _ _
  have e2 : (T + 1) * E = T * E + E := by rw [Nat.add_mul, Nat.one_mul]
  have hT2 := Nat.div_add_mod T 2
  rcases Nat.mod_two_eq_zero_or_one T with ht | ht
  · rw [ht, Nat.zero_mul, Nat.zero_add] at hRr
    rw [hRr]
    rcases hc with ⟨rfl, up⟩ | ⟨rfl, up⟩
    · by_cases hr0 : r = 0
      · rw [if_pos (Or.inr (by omega)), if_pos hr0]; omega
      · rw [if_neg hr0, if_neg (by omega), if_pos (by omega)]; omega
    · rw [if_pos (Or.inl (by omega)), if_neg (by omega)]; omega
  · rw [ht, Nat.one_mul] at hRr
    rw [if_neg (show ¬ R = 0 by omega)]
    rcases hc with ⟨rfl, up⟩ | ⟨rfl, up⟩
    · rw [if_pos (Or.inl ht)]; omega
    · rw [if_neg (by omega), if_neg (by omega)]; omega
/-- A number rounded to odd in binary64, then to a sample, is the number rounded once. -/
theorem stick_rung {M : Nat} (hM : M.log2 ≤ 2000) (hK : 0 < lostK M) : rungOf Ieee.single (stick M (lostK M + 1) * 2 ^ lostK M) (-1074) = rungOf Ieee.single M (-1074) := by
  have h0 : M ≠ 0 := by intro h0; subst h0; exact absurd hK (by decide)
  rw [rung_scale]
  have := rung_stick Ieee.single (M := M) (k := lostK M + 1) (-1074) (by unfold lostK at *; omega) h0 (by
    unfold lastOf
    rw [show (Ieee.single.fractionBits : Int) = 23 from rfl]
    unfold lostK at *
    omega)
  rw [← this]
  congr 1; omega
end Go.Proofs.YtieojgblamkgoaaGreatDoor
/- Plain facts: the program's product and sum in binary64, the sum made odd, made narrow: the exact number rounded once. -/
namespace Go.Proofs.YtieojgblamkgoaaGreatDoor
open Go.RowKit

/-- A finite sample in least units of binary64. -/
def sampleZ (a : Nat) : Int := Ieee.signed (sgn32 a) (mag32 (rung32 a)) (plc32 (rung32 a) + 925)
theorem signed_abs (s : Bool) (m k : Nat) : (Ieee.signed s m k).natAbs = m * 2 ^ k := by
  unfold Ieee.signed; rw [Nat.shiftLeft_eq]; split <;> omega
theorem signed_sign {s : Bool} {m k : Nat} (h : Ieee.signed s m k ≠ 0) : s = decide (Ieee.signed s m k < 0) := by
  unfold Ieee.signed at *; rw [Nat.shiftLeft_eq] at *
  cases s
  · simp only [Bool.false_eq_true, if_false]; rw [decide_eq_false (by omega)]
  · simp only [if_true] at *; rw [decide_eq_true (by omega)]
theorem signed_dvd (s : Bool) (m : Nat) {k g : Nat} (h : g ≤ k) : ((2 ^ g : Nat) : Int) ∣ Ieee.signed s m k := by
  rw [Int.ofNat_dvd_left, signed_abs]
  exact Nat.dvd_trans (Nat.pow_dvd_pow 2 h) (Nat.dvd_mul_left _ _)
theorem cap_units {m k e : Nat} (hm : m < 2 ^ e) (h : k + e ≤ 1990) : m * 2 ^ k < 2 ^ capJ := by
  have h1 : m * 2 ^ k < 2 ^ e * 2 ^ k := Nat.mul_lt_mul_of_pos_right hm (Nat.two_pow_pos _)
  rw [← Nat.pow_add] at h1
  exact Nat.lt_of_lt_of_le h1 (Nat.pow_le_pow_right (by decide) (by unfold capJ; omega))
theorem units_log {n : Nat} (h : n < 2 ^ capJ) : n.log2 ≤ 2000 := cap_log (by omega)
/-- A whole number of few digits, in least units, is a word as it is. -/
theorem units_word {s : Bool} {m k : Nat} (hm : m < 2 ^ 53) (hk : k ≤ 1900) :
    rung64 (wordOf s (Ieee.signed s m k)) < 9218868437227405312 ∧ sgn64 (wordOf s (Ieee.signed s m k)) = s ∧ sval64 (wordOf s (Ieee.signed s m k)) = Ieee.signed s m k := by
  have hl : (Ieee.signed s m k).natAbs.log2 ≤ 2000 := by rw [signed_abs]; exact units_log (cap_units hm (by omega))
  obtain ⟨a, b, c, d⟩ := wordOf_facts (σ := s) hl signed_sign
  refine ⟨c, b, ?_⟩
  rw [d]
  refine RN_exact hl (signed_dvd s m (Nat.le_refl k)) ?_
  rw [signed_abs, Nat.pow_add]
  exact Nat.mul_lt_mul_of_pos_right hm (Nat.two_pow_pos _)
theorem plc_le32 {a : Nat} (h : rung32 a < 2139095040) : plc32 (rung32 a) ≤ 253 := by unfold plc32; omega
theorem wide_units {a : Nat} (h : rung32 a < 2139095040) : wideN a = wordOf (sgn32 a) (sampleZ a) := by
  unfold wideN wordOf sampleZ
  rw [read_fin32 h]
  show Ieee.double.nearest _ _ _ = _
  rw [nearest_rung, signed_abs, rung_scale, show (-1074 : Int) + ((plc32 (rung32 a) + 925 : Nat) : Int) = -149 + (plc32 (rung32 a) : Int) by omega]
theorem wide_fin {a : Nat} (h : rung32 a < 2139095040) : rung64 (wideN a) < 9218868437227405312 ∧ sgn64 (wideN a) = sgn32 a ∧ sval64 (wideN a) = sampleZ a := by
  rw [wide_units h]
  have hp := plc_le32 h
  have hm := mag_lt32 (rung32 a)
  exact units_word (by omega) (by omega)
theorem val_abs (x : Nat) : (sval64 x).natAbs = val64 (rung64 x) := by unfold sval64; split <;> omega

/-- A product of two samples in least units. -/
def prodZ (a b : Nat) : Int := Ieee.signed (sgn32 a ^^ sgn32 b) (mag32 (rung32 a) * mag32 (rung32 b)) (plc32 (rung32 a) + plc32 (rung32 b) + 776)
theorem prod_lt (a b : Nat) : mag32 (rung32 a) * mag32 (rung32 b) < 2 ^ 48 := by
  have h1 := mag_lt32 (rung32 a)
  have h2 := mag_lt32 (rung32 b)
  have a1 : mag32 (rung32 a) * mag32 (rung32 b) ≤ 16777215 * mag32 (rung32 b) := Nat.mul_le_mul_right _ (by omega)
  omega
theorem prod_units {a b : Nat} (ha : rung32 a < 2139095040) (hb : rung32 b < 2139095040) : floatBits .mul .f64 (wideN a) (wideN b) = some (wordOf (sgn32 a ^^ sgn32 b) (prodZ a b)) := by
  obtain ⟨r1, s1, v1⟩ := wide_fin ha
  obtain ⟨r2, s2, v2⟩ := wide_fin hb
  show ((Ieee.double.read (wideN a)).product (Ieee.double.read (wideN b))).map Ieee.double.write = _
  rw [read_fin64 r1, read_fin64 r2, s1, s2]
  show some (Ieee.double.nearest _ _ _) = _
  rw [nearest_rung]
  unfold wordOf prodZ
  rw [signed_abs]
  have w1 : mag64 (rung64 (wideN a)) * 2 ^ plc64 (rung64 (wideN a)) = mag32 (rung32 a) * 2 ^ (plc32 (rung32 a) + 925) := by
    have := val_abs (wideN a)
    rw [v1] at this
    unfold sampleZ at this
    rw [signed_abs] at this
    exact this.symm
  have w2 : mag64 (rung64 (wideN b)) * 2 ^ plc64 (rung64 (wideN b)) = mag32 (rung32 b) * 2 ^ (plc32 (rung32 b) + 925) := by
    have := val_abs (wideN b)
    rw [v2] at this
    unfold sampleZ at this
    rw [signed_abs] at this
    exact this.symm
  obtain ⟨E, hE⟩ : ∃ E : Nat, E = 1074 := ⟨_, rfl⟩
  have e : mag64 (rung64 (wideN a)) * mag64 (rung64 (wideN b)) * 2 ^ (plc64 (rung64 (wideN a)) + plc64 (rung64 (wideN b))) = mag32 (rung32 a) * mag32 (rung32 b) * 2 ^ (plc32 (rung32 a) + plc32 (rung32 b) + 776) * 2 ^ E := by
    have a1 : mag64 (rung64 (wideN a)) * mag64 (rung64 (wideN b)) * 2 ^ (plc64 (rung64 (wideN a)) + plc64 (rung64 (wideN b))) = (mag64 (rung64 (wideN a)) * 2 ^ plc64 (rung64 (wideN a))) * (mag64 (rung64 (wideN b)) * 2 ^ plc64 (rung64 (wideN b))) := by
      rw [Nat.pow_add, Nat.mul_mul_mul_comm]
    rw [a1, w1, w2, Nat.mul_mul_mul_comm, ← Nat.pow_add, Nat.mul_assoc (mag32 (rung32 a) * mag32 (rung32 b)), ← Nat.pow_add]
    congr 2; omega
  have k1 := rung_scale Ieee.double (mag64 (rung64 (wideN a)) * mag64 (rung64 (wideN b))) (plc64 (rung64 (wideN a)) + plc64 (rung64 (wideN b))) (-2148)
  rw [e, rung_scale, show (-2148 : Int) + (E : Int) = -1074 by omega] at k1
  have e4 : (-1074 : Int) + (plc64 (rung64 (wideN a)) : Int) + (-1074 + (plc64 (rung64 (wideN b)) : Int)) = -2148 + ((plc64 (rung64 (wideN a)) + plc64 (rung64 (wideN b)) : Nat) : Int) := by omega
  rw [e4, ← k1]

theorem rung_pos {M : Nat} (h : M ≠ 0) : 0 < rne M (lostK M) := by
  rcases Nat.eq_zero_or_pos (lostK M) with g | g
  · rw [g, rne_zero]; omega
  · have := (kept_bd (M := M)).2 g; omega
theorem stick_bd {M : Nat} (hK : 0 < lostK M) : 4503599627370496 ≤ stick M (lostK M + 1) ∧ stick M (lostK M + 1) ≤ 9007199254740992 := by
  have h0 : M ≠ 0 := by intro h0; subst h0; exact absurd hK (by decide)
  have h1 := Nat.log2_self_le h0
  have h2 : M < 2 ^ (M.log2 + 1) := Nat.lt_log2_self
  have e : M.log2 = 52 + lostK M := by unfold lostK at *; omega
  rw [e] at h1 h2
  have a1 : 2 ^ 51 ≤ M / 2 ^ (lostK M + 1) := by
    rw [Nat.le_div_iff_mul_le (Nat.two_pow_pos _), ← Nat.pow_add, show 51 + (lostK M + 1) = 52 + lostK M by omega]; exact h1
  have a2 : M / 2 ^ (lostK M + 1) < 2 ^ 52 := by
    rw [Nat.div_lt_iff_lt_mul (Nat.two_pow_pos _), ← Nat.pow_add, show 52 + (lostK M + 1) = 52 + lostK M + 1 by omega]; exact h2
  unfold stick
  split <;> omega
/-- The sum made odd, as a word. -/
theorem odd_word {σ : Bool} {Z : Int} {l : Nat} (hZ : Z.natAbs.log2 ≤ 2000) (h0 : Z ≠ 0) (hσ : σ = decide (Z < 0)) (hl : rung64 l < 9218868437227405312) (vl : sval64 l = Z - RN Z) :
    ∃ R, oddV (wordOf σ Z) l = Ieee.double.word σ R ∧ R < 9218868437227405312 ∧ rungOf Ieee.single (val64 R) (-1074) = rungOf Ieee.single Z.natAbs (-1074) := by
  obtain ⟨f1, f2, f3, f4⟩ := wordOf_facts (σ := σ) hZ (fun _ => hσ)
  obtain ⟨M, hM⟩ : ∃ M, M = Z.natAbs := ⟨_, rfl⟩
  have hM0 : M ≠ 0 := by omega
  have hR := RN_abs Z
  rw [← hM] at hZ hR
  rw [vN_eq hZ] at hR
  have hsg : RN Z < 0 ↔ Z < 0 := by
    unfold RN
    rw [← hM, vN_eq hZ]
    have := Nat.mul_pos (rung_pos hM0) (Nat.two_pow_pos (lostK M))
    generalize rne M (lostK M) * 2 ^ lostK M = V at this
    split <;> omega
  have hc := kept_bd (M := M)
  have hc0 := rung_pos hM0
  have es : wordOf σ Z = σ.toNat * 9223372036854775808 + (lostK M * 4503599627370496 + rne M (lostK M)) := by
    unfold wordOf
    rw [← hM, word64, rung64_eq hZ]
  have hst := odd_stick M
  have eo : oddV (wordOf σ Z) l = σ.toNat * 9223372036854775808 + (lostK M * 4503599627370496 + (if rne M (lostK M) % 2 = 1 ∨ rne M (lostK M) * 2 ^ lostK M = M then rne M (lostK M) else if rne M (lostK M) * 2 ^ lostK M < M then rne M (lostK M) + 1 else rne M (lostK M) - 1)) := by
    unfold oddV
    have c1 : (wordOf σ Z % 2 = 1 ∨ rung64 l = 0) ↔ (rne M (lostK M) % 2 = 1 ∨ rne M (lostK M) * 2 ^ lostK M = M) := by
      have d1 : wordOf σ Z % 2 = 1 ↔ rne M (lostK M) % 2 = 1 := by rw [es]; omega
      have d2 : rung64 l = 0 ↔ rne M (lostK M) * 2 ^ lostK M = M := by
        rw [← sval_zero, vl]
        generalize rne M (lostK M) * 2 ^ lostK M = V at hR
        omega
      rw [d1, d2]
    by_cases h1 : rne M (lostK M) % 2 = 1 ∨ rne M (lostK M) * 2 ^ lostK M = M
    · rw [if_pos (c1.2 h1), if_pos h1, es]
    · rw [if_neg (fun h => h1 (c1.1 h)), if_neg h1]
      have c2 : ((Ieee.double.order l 0 == some Ordering.lt) = (Ieee.double.order (wordOf σ Z) 0 == some Ordering.lt)) ↔ rne M (lostK M) * 2 ^ lostK M < M := by
        rw [order_neg hl, order_neg f3, vl, f4, decide_eq_decide]
        have h2 : ¬ rne M (lostK M) * 2 ^ lostK M = M := fun h => h1 (Or.inr h)
        generalize rne M (lostK M) * 2 ^ lostK M = V at hR h2
        omega
      by_cases h3 : rne M (lostK M) * 2 ^ lostK M < M
      · rw [if_pos (c2.2 h3), if_pos h3, es]; omega
      · rw [if_neg (fun h => h3 (c2.1 h)), if_neg h3, es]; omega
  rw [hst] at eo
  have hk : lostK M ≤ 1948 := by unfold lostK; omega
  rcases Nat.eq_zero_or_pos (lostK M) with g | g
  · have e1 : stick M (lostK M + 1) = M := by
      rw [g]; unfold stick
      rw [show 0 + 1 = 1 from rfl, Nat.pow_one]
      split <;> omega
    have hb : M ≤ 9007199254740992 := by
      have h2 : M < 2 ^ (M.log2 + 1) := Nat.lt_log2_self
      have : 2 ^ (M.log2 + 1) ≤ 2 ^ 53 := Nat.pow_le_pow_right (by decide) (by unfold lostK at g; omega)
      omega
    refine ⟨lostK M * 4503599627370496 + stick M (lostK M + 1), ?_, ?_, ?_⟩
    · rw [eo, word64]
    · rw [e1]; omega
    · rw [e1, val_of hb (by omega), g, Nat.pow_zero, Nat.mul_one, hM]
  · obtain ⟨s1, s2⟩ := stick_bd g
    refine ⟨lostK M * 4503599627370496 + stick M (lostK M + 1), ?_, ?_, ?_⟩
    · rw [eo, word64]
    · omega
    · rw [val_of s2 (fun _ => s1), stick_rung hZ g, hM]
end Go.Proofs.YtieojgblamkgoaaGreatDoor
/- What package arith's Fma returns: of numbers without an answer, and of others by its steps in binary64; what was in memory stays as it was. -/
namespace Go.Proofs.YtieojgblamkgoaaGreatDoor
open Go.RowKit

theorem go_mul1 (a : Nat) (u : World) (y : Nat) (w : World) : (binOp .mul 108 (.float .f64 (nanc .f64 a u)) (.float .f64 y)).run Tryz.prog w = .ok (.float .f64 (nanw .f64 (nanc .f64 a u) y w)) w.drew :=
  run_arith_none .mul (by simp) 108 .f64 _ y (mul_nan1 (nanc64 a u).1 y) Tryz.prog w
theorem go_mul2 (a : Nat) (u : World) (x : Nat) (w : World) : (binOp .mul 108 (.float .f64 x) (.float .f64 (nanc .f64 a u))).run Tryz.prog w = .ok (.float .f64 (nanw .f64 x (nanc .f64 a u) w)) w.drew :=
  run_arith_none .mul (by simp) 108 .f64 x _ (mul_nan2 (nanc64 a u).1 x) Tryz.prog w
theorem wide_nan {a : Nat} (h : nanN a = true) (w : World) : (convert 64 108 (.float .f32 a)).run Tryz.prog w = .ok (.float .f64 (nanc .f64 a w)) w.drew :=
  run_conv_nan (P := Tryz.prog) 64 108 .f32 .f64 a (by decide) (by kernel_rfl) Tryz.underlying108 (read32_nan h) w
theorem wide_num {a : Nat} (h : nanN a = false) (w : World) : (convert 64 108 (.float .f32 a)).run Tryz.prog w = .ok (.float .f64 (wideN a)) w :=
  run_convert_float_float (P := Tryz.prog) w 64 108 .f32 .f64 a _ (by kernel_rfl) Tryz.underlying108 (wide_conv h)

end Go.Proofs.YtieojgblamkgoaaGreatDoor
/- What package arith's Fma returns of whatever samples: the exact product and sum, rounded once. -/
namespace Go.Proofs.YtieojgblamkgoaaGreatDoor
open Go.RowKit

/-- The exact number of a product and a sum. -/
def fmaD (a b c : Nat) : Option Ieee.Datum := ((Ieee.single.read a).product (Ieee.single.read b)).bind fun d => d.sum (Ieee.single.read c)

theorem wide_read_inf {a : Nat} (h : rung32 a = 2139095040) : Ieee.double.read (wideN a) = .infinity (sgn32 a) := by rw [wide_inf h, read_winf64]
theorem fin_num {a : Nat} (h : rung32 a < 2139095040) : nanN a = false := by rw [nanN_rung]; exact decide_eq_false (by omega)
theorem inf_num {a : Nat} (h : rung32 a = 2139095040) : nanN a = false := by rw [nanN_rung]; exact decide_eq_false (by omega)
theorem wide_mag_zero {a : Nat} (h : rung32 a < 2139095040) : mag64 (rung64 (wideN a)) = 0 ↔ mag32 (rung32 a) = 0 := by
  obtain ⟨r, s, v⟩ := wide_fin h
  have e := val_abs (wideN a)
  rw [v] at e
  unfold sampleZ val64 at e
  rw [signed_abs] at e
  have p1 := Nat.two_pow_pos (plc32 (rung32 a) + 925)
  have p2 := Nat.two_pow_pos (plc64 (rung64 (wideN a)))
  constructor
  · intro h0
    rw [h0, Nat.zero_mul] at e
    rcases Nat.mul_eq_zero.1 e with k | k
    · exact k
    · omega
  · intro h0
    rw [h0, Nat.zero_mul] at e
    rcases Nat.mul_eq_zero.1 e.symm with k | k
    · exact k
    · omega

theorem told_inf (σ : Bool) : toldD (some (Ieee.double.read (Ieee.double.word σ 9218868437227405312))) = Ieee.single.word σ 2139095040 := by
  rw [read_winf64]
  show Ieee.single.word σ Ieee.single.infRung = _
  rw [inf32]
theorem inf_even (σ : Bool) : Ieee.double.word σ 9218868437227405312 % 2 = 0 ∧ Ieee.double.word σ 9218868437227405312 < 18446744073709551616 := by
  rw [word64]; have := Bool.toNat_lt σ; omega
theorem sub_inf_inf (σ : Bool) : floatBits .sub .f64 (Ieee.double.word σ 9218868437227405312) (Ieee.double.word σ 9218868437227405312) = none := by
  show ((Ieee.double.read _).sum (Ieee.double.read _).opposite).map _ = none
  rw [read_winf64]
  cases σ <;> rfl
theorem write_inf (σ : Bool) : Ieee.double.write (.infinity σ) = Ieee.double.word σ 9218868437227405312 := by
  show Ieee.double.word σ Ieee.double.infRung = _
  rw [inf64]

end Go.Proofs.YtieojgblamkgoaaGreatDoor
/- Plain facts: rounding to binary64 and then to binary32 does not show where no half-way number lies near. -/
namespace Go.Proofs.YtieojgblamkgoaaGreatDoor
open Go.RowKit

theorem up_not {M D : Nat} (h : 2 * (M % 2 ^ D) < 2 ^ D) : rne M D = M / 2 ^ D := by
  unfold rne
  have : ¬ goesUp M D := by unfold goesUp; omega
  rw [if_neg this, Nat.add_zero]
theorem up_yes {M D : Nat} (h : 2 ^ D < 2 * (M % 2 ^ D)) : rne M D = M / 2 ^ D + 1 := by
  unfold rne
  rw [if_pos (show goesUp M D from Or.inl h)]
/-- Rounded twice. -/
theorem twice_gen {M K D : Nat} (hKD : K + 1 ≤ D) (hmid : rne M K * 2 ^ K % 2 ^ D = 2 ^ (D - 1) → rne M K * 2 ^ K = M) : rne (rne M K * 2 ^ K) D = rne M D := by
  obtain ⟨n1, n2⟩ := rne_near M K
  obtain ⟨c, hc⟩ : ∃ c, c = rne M K := ⟨_, rfl⟩
  rw [← hc] at n1 n2 hmid ⊢
  by_cases hCM : c * 2 ^ K = M
  · rw [hCM]
  have hno : c * 2 ^ K % 2 ^ D ≠ 2 ^ (D - 1) := fun h => hCM (hmid h)
  obtain ⟨i, hi⟩ : ∃ i, D = K + 1 + i := ⟨D - K - 1, by omega⟩
  have eU : 2 ^ D = 2 * 2 ^ i * 2 ^ K := by
    rw [hi, show K + 1 + i = 1 + i + K by omega, Nat.pow_add, Nat.pow_add, Nat.pow_one]
  have eH : 2 ^ (D - 1) = 2 ^ i * 2 ^ K := by rw [hi, show K + 1 + i - 1 = i + K by omega, Nat.pow_add]
  have hE := Nat.two_pow_pos K
  have hh := Nat.two_pow_pos i
  have et : c * 2 ^ K % 2 ^ D = c % (2 * 2 ^ i) * 2 ^ K := by rw [eU, Nat.mul_mod_mul_right]
  have hτ : c % (2 * 2 ^ i) < 2 * 2 ^ i := Nat.mod_lt _ (by omega)
  rw [et, eH] at hno
  have hτn : c % (2 * 2 ^ i) ≠ 2 ^ i := fun h => hno (by rw [h])
  have dC := Nat.div_add_mod (c * 2 ^ K) (2 ^ D)
  have dM := Nat.div_add_mod M (2 ^ D)
  have bM := Nat.mod_lt M (show 0 < 2 ^ D by rw [eU]; exact Nat.mul_pos (by omega) hE)
  -- how the rest lies
  have ht : 2 * (c * 2 ^ K % 2 ^ D) + 2 * 2 ^ K ≤ 2 ^ D ∨ (2 ^ D + 2 * 2 ^ K ≤ 2 * (c * 2 ^ K % 2 ^ D) ∧ c * 2 ^ K % 2 ^ D + 2 ^ K ≤ 2 ^ D) := by
    rw [et, eU]
    rcases Nat.lt_or_ge (c % (2 * 2 ^ i)) (2 ^ i) with g | g
    · left
      have := Nat.mul_le_mul_right (2 ^ K) (show c % (2 * 2 ^ i) + 1 ≤ 2 ^ i from g)
      rw [Nat.add_mul, Nat.one_mul] at this
      rw [Nat.mul_assoc 2]
      omega
    · right
      have h1 := Nat.mul_le_mul_right (2 ^ K) (show 2 ^ i + 1 ≤ c % (2 * 2 ^ i) by omega)
      have h2 := Nat.mul_le_mul_right (2 ^ K) (show c % (2 * 2 ^ i) + 1 ≤ 2 * 2 ^ i from hτ)
      rw [Nat.add_mul, Nat.one_mul] at h1 h2
      rw [Nat.mul_assoc 2] at h2 ⊢
      omega
  obtain ⟨U, hU⟩ : ∃ U, U = 2 ^ D := ⟨_, rfl⟩
  obtain ⟨E, hEe⟩ : ∃ E, E = 2 ^ K := ⟨_, rfl⟩
  obtain ⟨C, hC⟩ : ∃ C, C = c * 2 ^ K := ⟨_, rfl⟩
  have r1 := up_not (M := C) (D := D)
  have r2 := up_yes (M := C) (D := D)
  have r3 := up_not (M := M) (D := D)
  have r4 := up_yes (M := M) (D := D)
  rw [← hC] at n1 n2 dC ht ⊢
  rw [← hEe] at n1 n2 ht hE
  rw [← hU] at dC dM bM ht r1 r2 r3 r4
  obtain ⟨q, hq⟩ : ∃ q, q = C / U := ⟨_, rfl⟩
  obtain ⟨t, htt⟩ : ∃ t, t = C % U := ⟨_, rfl⟩
  obtain ⟨a, haa⟩ : ∃ a, a = M / U := ⟨_, rfl⟩
  obtain ⟨b, hbb⟩ : ∃ b, b = M % U := ⟨_, rfl⟩
  rw [← hq, ← htt] at dC
  rw [← haa, ← hbb] at dM
  rw [← htt] at ht
  rw [← hq, ← htt] at r1 r2
  rw [← haa, ← hbb] at r3 r4
  rw [← hbb] at bM
  rcases Nat.lt_trichotomy a q with g | g | g
  · -- one below
    obtain ⟨z, hz⟩ : ∃ z, q = a + 1 + z := ⟨q - a - 1, by omega⟩
    have e1 : U * q = U * a + U + U * z := by rw [hz, Nat.mul_add, Nat.mul_add, Nat.mul_one]
    have hz0 : z = 0 := by
      rcases Nat.eq_zero_or_pos z with k | k
      · exact k
      · have : U * 1 ≤ U * z := Nat.mul_le_mul_left _ k
        omega
    rw [hz0, Nat.mul_zero] at e1
    rcases ht with ht | ⟨ht, ht2⟩
    · rw [r1 (by omega), r4 (by omega)]; omega
    · omega
  · rw [g] at dM
    rcases ht with ht | ⟨ht, ht2⟩
    · rw [r1 (by omega), r3 (by omega), g]
    · rw [r2 (by omega), r4 (by omega), g]
  · obtain ⟨z, hz⟩ : ∃ z, a = q + 1 + z := ⟨a - q - 1, by omega⟩
    have e1 : U * a = U * q + U + U * z := by rw [hz, Nat.mul_add, Nat.mul_add, Nat.mul_one]
    rcases ht with ht | ⟨ht, ht2⟩ <;> omega

/-- To binary64, then to binary32. -/
theorem narrow_twice {Z : Nat} (hZ : Z.log2 ≤ 2000) (hmid : 0 < lostK Z → rne Z (lostK Z) * 2 ^ lostK Z % 2 ^ max (Z.log2 - 23) 925 = 2 ^ (max (Z.log2 - 23) 925 - 1) → rne Z (lostK Z) * 2 ^ lostK Z = Z) :
    rungOf Ieee.single (val64 (rungOf Ieee.double Z (-1074))) (-1074) = rungOf Ieee.single Z (-1074) := by
  rcases Nat.eq_zero_or_pos (lostK Z) with g | g
  · rw [vN_div hZ (by rw [g]; exact Nat.one_dvd _)]
  · rw [vN_eq hZ]
    have hL : Z.log2 = 52 + lostK Z := by unfold lostK at *; omega
    have h0 : Z ≠ 0 := by intro h0; rw [h0] at g; exact absurd g (by decide)
    obtain ⟨D, hD⟩ : ∃ D, D = max (Z.log2 - 23) 925 := ⟨_, rfl⟩
    have htw := twice_gen (M := Z) (K := lostK Z) (D := D) (by omega) (by rw [hD]; exact hmid g)
    obtain ⟨b1, b2⟩ := kept_bd (M := Z)
    have b2 := b2 g
    obtain ⟨c, hc⟩ : ∃ c, c = rne Z (lostK Z) := ⟨_, rfl⟩
    rw [← hc] at htw b1 b2 ⊢
    have hr : rungOf Ieee.single Z (-1074) = min ((D - 925) * 8388608 + rne Z D) 2139095040 := by
      unfold rungOf
      have hl : lastOf Ieee.single Z (-1074) = -1074 + (D : Int) := by unfold lastOf; rw [least32, show (Ieee.single.fractionBits : Int) = 23 from rfl]; omega
      rw [if_neg h0, hl, least32, binade32, inf32, show (-1074 : Int) - (-1074 + (D : Int)) = -(D : Int) by omega, rz_neg, show (-1074 + (D : Int) - -149).toNat = D - 925 by omega]
    rw [hr, ← htw]
    have hC0 : c * 2 ^ lostK Z ≠ 0 := Nat.mul_ne_zero (by omega) (by have := Nat.two_pow_pos (lostK Z); omega)
    rcases Nat.lt_or_ge c 9007199254740992 with k | k
    · have hlc : (c * 2 ^ lostK Z).log2 = Z.log2 := by
        rw [log2_mul_pow (by omega), hL, (Nat.log2_eq_iff (by omega)).2 ⟨show 2 ^ 52 ≤ c by omega, show c < 2 ^ 53 by omega⟩]
      unfold rungOf
      have hl : lastOf Ieee.single (c * 2 ^ lostK Z) (-1074) = -1074 + (D : Int) := by unfold lastOf; rw [least32, show (Ieee.single.fractionBits : Int) = 23 from rfl, hlc]; omega
      rw [if_neg hC0, hl, least32, binade32, inf32, show (-1074 : Int) - (-1074 + (D : Int)) = -(D : Int) by omega, rz_neg, show (-1074 + (D : Int) - -149).toNat = D - 925 by omega]
    · have hc1 : c = 2 ^ 53 := by omega
      have eC : c * 2 ^ lostK Z = 2 ^ (53 + lostK Z) := by rw [hc1, Nat.pow_add]
      have hlc : (c * 2 ^ lostK Z).log2 = Z.log2 + 1 := by rw [eC, Nat.log2_two_pow]; omega
      unfold rungOf
      rw [if_neg hC0]
      rcases Nat.lt_or_ge (Z.log2 - 23) 925 with j | j
      · have hl : lastOf Ieee.single (c * 2 ^ lostK Z) (-1074) = -1074 + (D : Int) := by unfold lastOf; rw [least32, show (Ieee.single.fractionBits : Int) = 23 from rfl, hlc]; omega
        rw [hl, least32, binade32, inf32, show (-1074 : Int) - (-1074 + (D : Int)) = -(D : Int) by omega, rz_neg, show (-1074 + (D : Int) - -149).toNat = D - 925 by omega]
      · have hl : lastOf Ieee.single (c * 2 ^ lostK Z) (-1074) = -1074 + ((D + 1 : Nat) : Int) := by unfold lastOf; rw [least32, show (Ieee.single.fractionBits : Int) = 23 from rfl, hlc]; omega
        rw [hl, least32, binade32, inf32, show (-1074 : Int) - (-1074 + ((D + 1 : Nat) : Int)) = -((D + 1 : Nat) : Int) by omega, rz_neg, show (-1074 + ((D + 1 : Nat) : Int) - -149).toNat = D + 1 - 925 by omega]
        have k1 : rne (c * 2 ^ lostK Z) (D + 1) = 8388608 := by
          rw [eC, show 53 + lostK Z = 23 + (D + 1) by omega, Nat.pow_add, rne_exact]
        have k2 : rne (c * 2 ^ lostK Z) D = 16777216 := by
          rw [eC, show 53 + lostK Z = 24 + D by omega, Nat.pow_add, rne_exact]
        rw [k1, k2, show (D + 1 - 925) * 8388608 + 8388608 = (D - 925) * 8388608 + 16777216 by omega]
/-- A word of binary64 made of a number, made narrow. -/
theorem told_twice {s : Bool} {Z : Nat} (hZ : Z.log2 ≤ 2000) (hmid : 0 < lostK Z → rne Z (lostK Z) * 2 ^ lostK Z % 2 ^ max (Z.log2 - 23) 925 = 2 ^ (max (Z.log2 - 23) 925 - 1) → rne Z (lostK Z) * 2 ^ lostK Z = Z) :
    toldD (some (Ieee.double.read (Ieee.double.word s (rungOf Ieee.double Z (-1074))))) = Ieee.single.word s (rungOf Ieee.single Z (-1074)) := by
  have hr : rungOf Ieee.double Z (-1074) < 9218868437227405312 := by
    rw [rung64_eq hZ]
    have := (kept_bd (M := Z)).1
    have : lostK Z ≤ 1948 := by unfold lostK; omega
    omega
  obtain ⟨a1, a2⟩ := sgn_word64 s (r := rungOf Ieee.double Z (-1074)) (by omega)
  rw [read_fin64 (by rw [a2]; exact hr), a1, a2, toldD_num, rung_word64, narrow_twice hZ hmid]
end Go.Proofs.YtieojgblamkgoaaGreatDoor
/- What the reference's Plus and Minus return of whole numbers in memory. -/
namespace Go.Proofs.YtieojgblamkgoaaGreatDoor
open Go.RowKit

/-- A new row of L digits, the first k of them those of v, the others 0. -/
structure Part (w wr : World) (L v k : Nat) : Prop where
  q : Q w wr
  row : wr.rowIs w.heap.size 43 L (fun j => .int .u32 (if j < k then (dig v j : Int) else 0))
theorem part_start (w : World) (L v : Nat) : Part w (w.alloc (.cells (madeCells #[.int .u32 0] L) 43)) L v 0 :=
  ⟨(Q.refl w).cells _ _, (World.rowIs_made w _ L 43).congr (fun j _ => by rw [if_neg (Nat.not_lt_zero _)])⟩
theorem part_step {w wr : World} {L v k : Nat} (h : Part w wr L v k) : Part w (wr.setCell ⟨w.heap.size, k, none⟩ (.int .u32 (dig v k))) L v (k + 1) := by
  refine ⟨h.q.set (Nat.le_refl _) _, (h.row.set k _).congr (fun j _ => ?_)⟩
  by_cases e : j = k
  · subst e; rw [if_pos rfl, if_pos (by omega)]
  · rw [if_neg e]
    by_cases g : j < k
    · rw [if_pos g, if_pos (by omega)]
    · rw [if_neg g, if_neg (by omega)]
theorem part_step' {w wr : World} {L v k : Nat} (h : Part w wr L v k) {x : Int} (e : x = dig v k) : Part w (wr.setCell ⟨w.heap.size, k, none⟩ (.int .u32 x)) L v (k + 1) := by
  rw [e]; exact part_step h
theorem part_done {w wr : World} {L v : Nat} (h : Part w wr L v L) (i : Nat) (hi : i < L) : wr.cell? ⟨w.heap.size, i, none⟩ = some (.int .u32 (dig v i)) := by
  rw [h.row.cell hi, if_pos hi]
theorem part_open {w wr : World} {L v k : Nat} (h : Part w wr L v k) (hk : k < L) : wr.cell? ⟨w.heap.size, k, none⟩ = some (.int .u32 0) := by
  rw [h.row.cell hk, if_neg (by omega)]

theorem and_mask (s : Int) (h0 : 0 ≤ s) (h1 : s ≤ 18446744073709551615) : bits .and .u64 s 4294967295 = s % 4294967296 := by go_bits2

theorem lt_pow_max {a b La Lb : Nat} (ha : a < 4294967296 ^ La) (hb : b < 4294967296 ^ Lb) : a + b < 4294967296 ^ (max La Lb + 1) := by
  have h1 : 4294967296 ^ La ≤ 4294967296 ^ (max La Lb) := Nat.pow_le_pow_right (by decide) (by omega)
  have h2 : 4294967296 ^ Lb ≤ 4294967296 ^ (max La Lb) := Nat.pow_le_pow_right (by decide) (by omega)
  rw [Nat.pow_succ]; omega

/-- One digit of a sum. -/
theorem sum_dig {a b k c : Nat} (h : (a + b) / 4294967296 ^ k = a / 4294967296 ^ k + b / 4294967296 ^ k + c) :
    (c + dig a k + dig b k) % 4294967296 = dig (a + b) k ∧
    (a + b) / 4294967296 ^ (k + 1) = a / 4294967296 ^ (k + 1) + b / 4294967296 ^ (k + 1) + (c + dig a k + dig b k) / 4294967296 := by
  rw [quo_succ, quo_succ, quo_succ]
  unfold dig
  generalize a / 4294967296 ^ k = x at *
  generalize b / 4294967296 ^ k = y at *
  generalize (a + b) / 4294967296 ^ k = z at *
  omega

theorem plus_rel {w wr : World} {M a b k c : Nat} (X : Int) (hX : X = ((c + dig a k + dig b k : Nat) : Int)) (hP : Part w wr M (a + b) k)
    (hQ : (c + dig a k + dig b k) % 4294967296 = dig (a + b) k ∧ (a + b) / 4294967296 ^ (k + 1) = a / 4294967296 ^ (k + 1) + b / 4294967296 ^ (k + 1) + (c + dig a k + dig b k) / 4294967296)
    (hk : k < M) (hc : c ≤ 1) :
    ∃ k' c' : Nat, k' ≤ M ∧ M - (k + 1) = M - k' ∧ Value.int .u64 (X / 4294967296) = .int .u64 c' ∧ Value.int .i64 ((k : Int) + 1) = .int .i64 k' ∧
      Part w (wr.setCell { block := w.heap.size, off := k } (.int .u32 (X % 4294967296))) M (a + b) k' ∧ (a + b) / 4294967296 ^ k' = a / 4294967296 ^ k' + b / 4294967296 ^ k' + c' ∧ c' ≤ 1 := by
  have h1 := dig_lt a k
  have h2 := dig_lt b k
  refine ⟨k + 1, (c + dig a k + dig b k) / 4294967296, by omega, rfl, by rw [hX]; rfl, by simp, part_step' hP (by rw [hX, ← hQ.1]; rfl), hQ.2, by omega⟩

set_option maxHeartbeats 4000000 in
theorem plus_any (va vb : Value) (a b : Nat) (w : World) (ha : NatAt w va a) (hb : NatAt w vb b) (hs : a + b < cap) :
    Calls Tryz.prog 122 #[va, vb] w fun e w' => ∃ v, e = .returned v ∧ NatAt w' v (a + b) ∧ Q w w' := by
  obtain ⟨pa, ba, La, Ca, rfl, ha⟩ := ha
  obtain ⟨pb, bb, Lb, Cb, rfl, hb⟩ := hb
  have hla := ha.len_cap (by omega)
  have hlb := hb.len_cap (by omega)
  obtain ⟨M, hM⟩ : ∃ M, M = max La Lb + 1 := ⟨_, rfl⟩
  have HM : Hid (M = max La Lb + 1) := hM
  have hM4 : M ≤ 400 := by omega
  have hmk := run_make_row' (P := Tryz.prog) 136 43 (.int .u32 0) 4 Tryz.underlying136 info_u32 rfl .i64 .i64 M (by omega) (by omega)
  have hcase : (La < Lb ∧ (Lb : Int) + 1 = (M : Int)) ∨ (¬ La < Lb ∧ (La : Int) + 1 = (M : Int)) := by omega
  have q0 : (a + b) / 4294967296 ^ 0 = a / 4294967296 ^ 0 + b / 4294967296 ^ 0 + 0 := by rw [quo_zero, quo_zero, quo_zero]; rfl
  have HL : Hid (a + b < 4294967296 ^ M) := by have := lt_pow_max ha.hi hb.hi; rw [← hM] at this; exact this
  clear hM
  rcases hcase with ⟨hc1, hc2⟩ | ⟨hc1, hc2⟩
  all_goals
    go_enter Tryz.func122, Tryz.ntmps122
    go_wp2
    clear hmk hc1 hc2
    go_loopg [7, 8] M (fun g s7 s8 wr => ∃ k c : Nat, k ≤ M ∧ g = M - k ∧ s7 = .int .u64 c ∧ s8 = .int .i64 k ∧ Part w wr M (a + b) k ∧ (a + b) / 4294967296 ^ k = a / 4294967296 ^ k + b / 4294967296 ^ k + c ∧ c ≤ 1)
    case atStart => exact ⟨0, 0, Nat.zero_le _, rfl, rfl, rfl, part_start w M _, q0, by decide⟩
    case round =>
      obtain ⟨k, c, hk, rfl, rfl, rfl, hP, hq, hc⟩ := hrel
      have HQ : Hid _ := sum_dig hq
      have hda := dig_lt a k
      have hdb := dig_lt b k
      clear hq q0
      by_cases hkM : k < M
      · have hkz : (k : Int) < (M : Int) := by omega
        have f1 := part_open hP hkM
        have f2 := hP.row.frozen k
        have m1 := and_mask ((c : Int) + dig a k + dig b k) (by omega) (by omega)
        have m2 := and_mask ((c : Int) + dig a k) (by omega) (by omega)
        have m3 := and_mask ((c : Int) + dig b k) (by omega) (by omega)
        have m4 := and_mask (c : Int) (by omega) (by omega)
        by_cases h1 : k < La
        · obtain rfl := ha.ptr (by omega)
          have h1z : (k : Int) < (La : Int) := by omega
          have ca := hP.q.cell (ha.cell k h1)
          by_cases h2 : k < Lb
          · obtain rfl := hb.ptr (by omega)
            have h2z : (k : Int) < (Lb : Int) := by omega
            have cb := hP.q.cell (hb.cell k h2)
            go_wp2
            go_roundg (M - (k + 1))
            case measure => go_light; omega
            case rel => go_light; exact plus_rel _ (by omega) hP HQ.out hkM hc
          · have h2z : ¬ (k : Int) < (Lb : Int) := by omega
            have e2 := dig_end hb.hi (i := k) (by omega)
            have E2 : Hid _ := e2
            clear e2
            go_wp2
            go_roundg (M - (k + 1))
            case measure => go_light; omega
            case rel => go_light; exact plus_rel _ (by have := E2.out; omega) hP HQ.out hkM hc
        · have h1z : ¬ (k : Int) < (La : Int) := by omega
          have e1 := dig_end ha.hi (i := k) (by omega)
          have E1 : Hid _ := e1
          clear e1
          by_cases h2 : k < Lb
          · obtain rfl := hb.ptr (by omega)
            have h2z : (k : Int) < (Lb : Int) := by omega
            have cb := hP.q.cell (hb.cell k h2)
            go_wp2
            go_roundg (M - (k + 1))
            case measure => go_light; omega
            case rel => go_light; exact plus_rel _ (by have := E1.out; omega) hP HQ.out hkM hc
          · have h2z : ¬ (k : Int) < (Lb : Int) := by omega
            have e2 := dig_end hb.hi (i := k) (by omega)
            have E2 : Hid _ := e2
            clear e2
            go_wp2
            go_roundg (M - (k + 1))
            case measure => go_light; omega
            case rel => go_light; exact plus_rel _ (by have := E1.out; have := E2.out; omega) hP HQ.out hkM hc
      · have hkz : ¬ (k : Int) < (M : Int) := by omega
        obtain rfl : k = M := by omega
        go_wp2_with fail
        refine (trimmed_any _ k k (a + b) wr (part_done hP) HL.out hM4 (Nat.le_refl _)).mono ?_
        rintro e w' ⟨L', C', rfl, hN, rfl⟩
        go_wp2_with fail
        go_ret
        exact ⟨_, rfl, ⟨_, _, _, _, rfl, hN⟩, hP.q⟩
end Go.Proofs.YtieojgblamkgoaaGreatDoor

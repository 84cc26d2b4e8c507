/- Plain facts: orders of two, ones, noughts and halves, in the model's own words of floats. -/
import Derived.Test.YtgaolakfgjmeiabGfd7c9d07
import Derived.Test.YtgaolakfgjmeiabGf962aba9
namespace Go.Proofs.Ytgaolakfgjmeiab
open Go.RowKit

theorem sum_comm (d d' : Ieee.Datum) : d.sum d' = d'.sum d := by
  cases d with
  | nan s t => cases d' <;> rfl
  | infinity s =>
    cases d' with
    | nan t f => rfl
    | infinity t =>
      show (if s = t then some (Ieee.Datum.infinity s) else none) = (if t = s then some (Ieee.Datum.infinity t) else none)
      by_cases h : s = t
      · subst h; rfl
      · rw [if_neg h, if_neg (fun e => h e.symm)]
    | number t n j => rfl
  | number s m i =>
    cases d' with
    | nan t f => rfl
    | infinity t => rfl
    | number t n j =>
      simp only [Ieee.Datum.sum]
      rw [Int.min_comm j i, Int.add_comm (Ieee.signed t n _), Bool.and_comm t s]
theorem product_comm (d d' : Ieee.Datum) : d.product d' = d'.product d := by
  cases d with
  | nan s t => cases d' <;> rfl
  | infinity s =>
    cases d' with
    | nan t f => rfl
    | infinity t => simp only [Ieee.Datum.product]; rw [Bool.xor_comm]
    | number t n j => rfl
  | number s m i =>
    cases d' with
    | nan t f => rfl
    | infinity t => rfl
    | number t n j =>
      simp only [Ieee.Datum.product]
      rw [Bool.xor_comm, Nat.mul_comm, Int.add_comm]
theorem leastV_comm {a b : Nat} : leastV (a : Int) (b : Int) = leastV b a := by
  unfold leastV befB keyV
  simp only [decide_eq_true_eq]
  repeat' split
  all_goals omega
theorem greatestV_comm {a b : Nat} : greatestV (a : Int) (b : Int) = greatestV b a := by
  unfold greatestV befB keyV
  simp only [decide_eq_true_eq]
  repeat' split
  all_goals omega

/-- A sample's own rung. -/
theorem self32 {r : Nat} (h : r < 2139095040) : rungOf Ieee.single (mag32 r) (-149 + (plc32 r : Int)) = r := by
  by_cases h0 : r = 0
  · subst h0; rw [show mag32 0 = 0 from by decide, rungOf_zero]
  · have hm := mag_ne32 h0
    have hm1 := mag_lt32 r
    have hp : plc32 r ≤ 253 := by unfold plc32; omega
    have hr : mag32 r + plc32 r * 8388608 = r := by unfold mag32 plc32; omega
    unfold rungOf
    rw [if_neg hm]
    have hl : (mag32 r).log2 ≤ 23 := by
      have := (Nat.log2_lt hm).2 (show mag32 r < 2 ^ 24 from hm1)
      omega
    have e : lastOf Ieee.single (mag32 r) (-149 + (plc32 r : Int)) = -149 + (plc32 r : Int) := by
      unfold lastOf
      rw [least32, show (Ieee.single.fractionBits : Int) = 23 from rfl]
      rcases Nat.eq_zero_or_pos (plc32 r) with g | g
      · rw [g]; omega
      · have h2 : 23 ≤ (mag32 r).log2 := (Nat.le_log2 hm).2 (mag_ge32 g)
        omega
    rw [e, least32, binade32, inf32, Int.sub_self]
    have e2 : rz (mag32 r) 0 = mag32 r := by
      have := rz_nat (mag32 r) 0
      rw [Nat.pow_zero, Nat.mul_one] at this
      exact this
    rw [e2, show (-149 + (plc32 r : Int) - -149).toNat = plc32 r by omega, Nat.min_eq_left (by omega)]
    omega
theorem told_self {a : Nat} (ha : a < 4294967296) (h : rung32 a < 2139095040) : Ieee.single.word (sgn32 a) (rungOf Ieee.single (mag32 (rung32 a)) (-149 + (plc32 (rung32 a) : Int))) = a := by
  rw [self32 h, ← word_of32 ha]
theorem told_sinf {a : Nat} (ha : a < 4294967296) (h : rung32 a = 2139095040) : Ieee.single.word (sgn32 a) 2139095040 = a := by
  rw [← h, ← word_of32 ha]
theorem toldD_inf (s : Bool) : toldD (some (.infinity s)) = Ieee.single.word s 2139095040 := by
  show Ieee.single.word s Ieee.single.infRung = _
  rw [inf32]

theorem read_half : Ieee.single.read 1056964608 = .number false 8388608 (-24) := by decide
theorem read_one32 : Ieee.single.read 1065353216 = .number false 8388608 (-23) := by decide
theorem read_two : Ieee.single.read 1073741824 = .number false 8388608 (-22) := by decide
theorem read_minus : Ieee.single.read 2147483648 = .number true 0 (-149) := by decide
theorem read_plus : Ieee.single.read 0 = .number false 0 (-149) := by decide
theorem xor_f (s : Bool) : (s ^^ false) = s := by cases s <;> rfl

/-- Times a power of two. -/
theorem mul_power (s : Bool) (m : Nat) (p q : Int) : toldD ((Ieee.Datum.number s m p).product (.number false 8388608 q)) = Ieee.single.word s (rungOf Ieee.single m (p + q + 23)) := by
  show toldD (some (.number (s ^^ false) (m * 2 ^ 23) (p + q))) = _
  rw [xor_f, toldD_num, rung_scale]; rfl
/-- By a power of two. -/
theorem quo_power (s : Bool) {m : Nat} (hm : m < 16777216) (p q : Int) : toldD ((Ieee.Datum.number s m p).quotient 25 (.number false 8388608 q)) = Ieee.single.word s (rungOf Ieee.single m (p - q - 23)) := by
  have hl2 : (8388608 : Nat).log2 = 23 := by decide
  have hl : m.log2 ≤ 23 := by
    by_cases h0 : m = 0
    · subst h0; decide
    · have := (Nat.log2_lt h0).2 (show m < 2 ^ 24 from hm); omega
  obtain ⟨B, hB⟩ : ∃ B, B = 25 + (8388608 : Nat).log2 - m.log2 := ⟨_, rfl⟩
  have hB1 : 25 ≤ B := by omega
  have em : (Ieee.Datum.number s m p).quotient 25 (.number false 8388608 q) = some (.number (s ^^ false) (2 * ((m <<< B) / 8388608) + ((m <<< B) % 8388608 != 0).toNat) (p - q - (B : Int) - 1)) := by
    rw [hB]; simp [Ieee.Datum.quotient]
  have e1 : m <<< B = m * 2 ^ (B - 23) * 8388608 := by
    rw [Nat.shiftLeft_eq, Nat.mul_assoc, show (8388608 : Nat) = 2 ^ 23 from rfl, ← Nat.pow_add, show B - 23 + 23 = B by omega]
  rw [em, e1, Nat.mul_div_cancel _ (by decide), Nat.mul_mod_left, xor_f, toldD_num]
  refine congrArg (Ieee.single.word s) ?_
  show rungOf Ieee.single (2 * (m * 2 ^ (B - 23)) + 0) _ = _
  have e2 : 2 * (m * 2 ^ (B - 23)) + 0 = m * 2 ^ (B - 22) := by
    rw [show B - 22 = (B - 23) + 1 by omega, Nat.pow_succ, Nat.add_zero, Nat.mul_comm 2, Nat.mul_assoc]
  rw [e2, rung_scale]
  congr 1; omega
theorem cases32 {a : Nat} (h : nanN a = false) : rung32 a < 2139095040 ∨ rung32 a = 2139095040 := by
  rw [nanN_rung] at h
  have h := of_decide_eq_false h
  omega
theorem toldD_none : toldD none = 2143289344 := rfl

theorem half_link (a : Nat) : toldD ((Ieee.single.read a).quotient 25 (Ieee.single.read 1073741824)) = scaleV a (-1) := by
  rw [read_two]
  cases h : nanN a
  · rcases cases32 h with g | g
    · rw [read_fin32 g, quo_power _ (mag_lt32 _)]
      by_cases z : rung32 a = 0
      · rw [scaleV_zero z, z, show mag32 0 = 0 from by decide, rungOf_zero]
      · rw [scaleV_fin z g]
        refine congrArg (Ieee.single.word _) ?_
        congr 1; omega
    · rw [read_inf32 g, scaleV_inf g, show (Ieee.Datum.infinity (sgn32 a)).quotient 25 (.number false 8388608 (-22)) = some (.infinity (sgn32 a ^^ false)) from rfl, toldD_inf, xor_f]
  · obtain ⟨s, t, e⟩ := isNaN_cases (read32_nan h)
    rw [e, scaleV_nan h]; rfl
theorem mulhalf_link (a : Nat) : toldD ((Ieee.single.read a).product (Ieee.single.read 1056964608)) = scaleV a (-1) := by
  rw [read_half]
  cases h : nanN a
  · rcases cases32 h with g | g
    · rw [read_fin32 g, mul_power]
      by_cases z : rung32 a = 0
      · rw [scaleV_zero z, z, show mag32 0 = 0 from by decide, rungOf_zero]
      · rw [scaleV_fin z g]
        refine congrArg (Ieee.single.word _) ?_
        congr 1; omega
    · rw [read_inf32 g, scaleV_inf g, show (Ieee.Datum.infinity (sgn32 a)).product (.number false 8388608 (-24)) = some (.infinity (sgn32 a ^^ false)) from rfl, toldD_inf, xor_f]
  · obtain ⟨s, t, e⟩ := isNaN_cases (read32_nan h)
    rw [e, scaleV_nan h]; rfl
theorem mul_one {a : Nat} (ha : a < 4294967296) : toldD ((Ieee.single.read a).product (Ieee.single.read 1065353216)) = madeN a := by
  rw [read_one32]
  cases h : nanN a
  · rw [madeN_of h]
    rcases cases32 h with g | g
    · rw [read_fin32 g, mul_power, show -149 + (plc32 (rung32 a) : Int) + -23 + 23 = -149 + (plc32 (rung32 a) : Int) by omega, told_self ha g]
    · rw [read_inf32 g, show (Ieee.Datum.infinity (sgn32 a)).product (.number false 8388608 (-23)) = some (.infinity (sgn32 a ^^ false)) from rfl, toldD_inf, xor_f, told_sinf ha g]
  · obtain ⟨s, t, e⟩ := isNaN_cases (read32_nan h)
    rw [e, madeN_nan h]; rfl
theorem div_one {a : Nat} (ha : a < 4294967296) : toldD ((Ieee.single.read a).quotient 25 (Ieee.single.read 1065353216)) = madeN a := by
  rw [read_one32]
  cases h : nanN a
  · rw [madeN_of h]
    rcases cases32 h with g | g
    · rw [read_fin32 g, quo_power _ (mag_lt32 _), show -149 + (plc32 (rung32 a) : Int) - -23 - 23 = -149 + (plc32 (rung32 a) : Int) by omega, told_self ha g]
    · rw [read_inf32 g, show (Ieee.Datum.infinity (sgn32 a)).quotient 25 (.number false 8388608 (-23)) = some (.infinity (sgn32 a ^^ false)) from rfl, toldD_inf, xor_f, told_sinf ha g]
  · obtain ⟨s, t, e⟩ := isNaN_cases (read32_nan h)
    rw [e, madeN_nan h]; rfl
theorem signed_zero (s : Bool) (k : Nat) : Ieee.signed s 0 k = 0 := by unfold Ieee.signed; rw [Nat.shiftLeft_eq, Nat.zero_mul]; cases s <;> rfl
theorem add_minus_fin (s : Bool) (m : Nat) (p : Int) (hp : -1074 ≤ p) : toldD ((Ieee.Datum.number s m p).sum (.number true 0 (-149))) = Ieee.single.word s (rungOf Ieee.single m p) := by
  obtain ⟨N, b, e1, e2⟩ := sum_units s true m 0 p (-149) hp (by decide)
  rw [signed_zero, Int.add_zero] at e1 e2
  rw [e1, toldD_num, e2, signed_abs, rung_scale, show -1074 + (((p + 1074).toNat : Nat) : Int) = p by omega]
  congr 1
  unfold sg
  by_cases h : Ieee.signed s m (p + 1074).toNat = 0
  · rw [if_pos h, Bool.and_true]
  · rw [if_neg h]; exact (signed_sign h).symm
theorem add_nought {a : Nat} (ha : a < 4294967296) : toldD ((Ieee.single.read a).sum (Ieee.single.read 2147483648)) = madeN a := by
  rw [read_minus]
  cases h : nanN a
  · rw [madeN_of h]
    rcases cases32 h with g | g
    · rw [read_fin32 g, add_minus_fin _ _ _ (by omega), told_self ha g]
    · rw [read_inf32 g, show (Ieee.Datum.infinity (sgn32 a)).sum (.number true 0 (-149)) = some (.infinity (sgn32 a)) from rfl, toldD_inf, told_sinf ha g]
  · obtain ⟨s, t, e⟩ := isNaN_cases (read32_nan h)
    rw [e, madeN_nan h]; rfl
theorem sub_nought {a : Nat} (ha : a < 4294967296) : toldD ((Ieee.single.read a).sum (Ieee.single.read 0).opposite) = madeN a := by
  rw [show (Ieee.single.read 0).opposite = Ieee.single.read 2147483648 from by rw [read_plus, read_minus]; rfl, add_nought ha]
theorem nought_sub {a : Nat} (h : nanN a = false) : toldD ((Ieee.single.read 0).sum (Ieee.single.read a).opposite) % 2147483648 = a % 2147483648 := by
  rw [read_plus]
  rcases cases32 h with g | g
  · rw [read_fin32 g]
    obtain ⟨N, b, e1, e2⟩ := sum_units false (!sgn32 a) 0 (mag32 (rung32 a)) (-149) (-149 + (plc32 (rung32 a) : Int)) (by decide) (by omega)
    rw [signed_zero, Int.zero_add] at e1 e2
    show toldD ((Ieee.Datum.number false 0 (-149)).sum (.number (!sgn32 a) (mag32 (rung32 a)) (-149 + (plc32 (rung32 a) : Int)))) % _ = _
    rw [e1, toldD_num, e2, signed_abs, rung_scale, show -1074 + (((-149 + (plc32 (rung32 a) : Int) + 1074).toNat : Nat) : Int) = -149 + (plc32 (rung32 a) : Int) by omega, self32 g]
    exact (sgn_word32 _ (by omega)).2
  · rw [read_inf32 g]
    show toldD (some (.infinity (!sgn32 a))) % _ = _
    rw [toldD_inf]
    have := (sgn_word32 (!sgn32 a) (r := 2139095040) (by decide)).2
    unfold rung32 at this g
    rw [this, g]
theorem narrow_wide {a : Nat} (ha : a < 4294967296) : toldD (some (Ieee.double.read (wideW a))) = madeN a := by
  cases h : nanN a
  · have e0 : wideW a = wideN a := by unfold wideW; rw [h]; rfl
    rw [e0, madeN_of h]
    rcases cases32 h with g | g
    · obtain ⟨r, s, v⟩ := wide_fin g
      have e := val_abs (wideN a)
      rw [v] at e
      unfold sampleZ at e
      rw [signed_abs] at e
      rw [read_fin64 r, toldD_num, rung_word64, ← e, s, rung_scale, show (-1074 : Int) + ((plc32 (rung32 a) + 925 : Nat) : Int) = -149 + (plc32 (rung32 a) : Int) by omega, told_self ha g]
    · rw [wide_read_inf g, toldD_inf, told_sinf ha g]
  · have e0 : wideW a = 9221120237041090560 := by unfold wideW; rw [h]; rfl
    rw [e0, madeN_nan h]; decide +kernel
theorem sum_num_inf (s : Bool) (m : Nat) (p : Int) (t : Bool) : (Ieee.Datum.number s m p).sum (.infinity t) = some (.infinity t) := rfl
theorem fma_one (a b : Nat) : toldD (fmaD a 1065353216 b) = toldD ((Ieee.single.read a).sum (Ieee.single.read b)) := by
  unfold fmaD
  rw [read_one32]
  cases h : nanN a
  · rcases cases32 h with g | g
    · rw [read_fin32 g]
      show toldD ((Ieee.Datum.number (sgn32 a ^^ false) (mag32 (rung32 a) * 8388608) (-149 + (plc32 (rung32 a) : Int) + -23)).sum (Ieee.single.read b)) = _
      rw [xor_f]
      cases hb : nanN b
      · rcases cases32 hb with k | k
        · rw [read_fin32 k]
          obtain ⟨N, c, e1, e2⟩ := sum_units (sgn32 a) (sgn32 b) (mag32 (rung32 a) * 8388608) (mag32 (rung32 b)) (-149 + (plc32 (rung32 a) : Int) + -23) (-149 + (plc32 (rung32 b) : Int)) (by omega) (by omega)
          obtain ⟨N', c', f1, f2⟩ := sum_units (sgn32 a) (sgn32 b) (mag32 (rung32 a)) (mag32 (rung32 b)) (-149 + (plc32 (rung32 a) : Int)) (-149 + (plc32 (rung32 b) : Int)) (by omega) (by omega)
          have ez : Ieee.signed (sgn32 a) (mag32 (rung32 a) * 8388608) (-149 + (plc32 (rung32 a) : Int) + -23 + 1074).toNat = Ieee.signed (sgn32 a) (mag32 (rung32 a)) (-149 + (plc32 (rung32 a) : Int) + 1074).toNat := by
            unfold Ieee.signed
            rw [Nat.shiftLeft_eq, Nat.shiftLeft_eq, Nat.mul_assoc, show (8388608 : Nat) = 2 ^ 23 from rfl, ← Nat.pow_add, show 23 + (-149 + (plc32 (rung32 a) : Int) + -23 + 1074).toNat = (-149 + (plc32 (rung32 a) : Int) + 1074).toNat by omega]
          rw [ez] at e1 e2
          rw [e1, f1, toldD_num, toldD_num, e2, f2]
        · rw [read_inf32 k, sum_num_inf, sum_num_inf]
      · rw [sum_nan2 (read32_nan hb), sum_nan2 (read32_nan hb)]
    · rw [read_inf32 g]
      show toldD ((Ieee.Datum.infinity (sgn32 a ^^ false)).sum (Ieee.single.read b)) = _
      rw [xor_f]
  · rw [product_nan1 (read32_nan h), sum_nan1 (read32_nan h)]; rfl
theorem fma_nought {a b : Nat} (hp : toldD ((Ieee.single.read a).product (Ieee.single.read b)) % 2147483648 ≠ 0) : toldD (fmaD a b 2147483648) = toldD ((Ieee.single.read a).product (Ieee.single.read b)) := by
  unfold fmaD
  rw [read_minus]
  cases hd : (Ieee.single.read a).product (Ieee.single.read b) with
  | none => rfl
  | some d =>
    rw [hd] at hp
    show toldD (d.sum (.number true 0 (-149))) = _
    cases d with
    | nan s t => exact absurd (product_num hd) (by simp [Ieee.Datum.isNaN])
    | infinity s => rfl
    | number s m p =>
      have hpl : -1074 ≤ p := by
        cases ha : nanN a
        · cases hb : nanN b
          · rcases cases32 ha with g | g
            · rcases cases32 hb with k | k
              · rw [read_fin32 g, read_fin32 k] at hd
                have hd : some (Ieee.Datum.number (sgn32 a ^^ sgn32 b) (mag32 (rung32 a) * mag32 (rung32 b)) (-149 + (plc32 (rung32 a) : Int) + (-149 + (plc32 (rung32 b) : Int)))) = some (.number s m p) := hd
                injection hd with hd
                injection hd with h1 h2 h3
                omega
              · rw [read_fin32 g, read_inf32 k] at hd
                have hd : (if mag32 (rung32 a) = 0 then none else some (Ieee.Datum.infinity (sgn32 b ^^ sgn32 a))) = some (.number s m p) := hd
                split at hd
                · cases hd
                · injection hd with hd; cases hd
            · rcases cases32 hb with k | k
              · rw [read_inf32 g, read_fin32 k] at hd
                have hd : (if mag32 (rung32 b) = 0 then none else some (Ieee.Datum.infinity (sgn32 a ^^ sgn32 b))) = some (.number s m p) := hd
                split at hd
                · cases hd
                · injection hd with hd; cases hd
              · rw [read_inf32 g, read_inf32 k] at hd
                have hd : some (Ieee.Datum.infinity (sgn32 a ^^ sgn32 b)) = some (.number s m p) := hd
                injection hd with hd; cases hd
          · rw [product_nan2 (read32_nan hb)] at hd; cases hd
        · rw [product_nan1 (read32_nan ha)] at hd; cases hd
      rw [add_minus_fin _ _ _ hpl, toldD_num]
end Go.Proofs.Ytgaolakfgjmeiab
/- One sample with whole weights, summed in binary64 (as in SWhB, over the program's side alone). -/
namespace Go.Proofs.Ytgaolakfgjmeiab
open Go.RowKit
set_option linter.unusedVariables false
set_option linter.unusedSimpArgs false

theorem read_weightq {y : Int} (h0 : y ≤ 268435456) (h1 : -268435456 ≤ y) : ∃ j : Nat, ∃ p : Int, Ieee.double.read (floatOfInt .f64 y) = .number (decide (y < 0)) (y.natAbs * 2 ^ j) p ∧ (y ≠ 0 → p = -(j : Int)) := by
  by_cases hy : y = 0
  · subst hy
    exact ⟨0, -1074, by decide +kernel, fun h => absurd rfl h⟩
  · have hne : y.natAbs ≠ 0 := by omega
    have a0 := Nat.log2_self_le hne
    have a1 : y.natAbs < 2 ^ (y.natAbs.log2 + 1) := Nat.lt_log2_self
    have aL : y.natAbs.log2 ≤ 52 := by
      have := (Nat.log2_lt hne).2 (Nat.lt_of_le_of_lt (show y.natAbs ≤ 268435456 by omega) (show 268435456 < 2 ^ 53 by decide))
      omega
    have e1 : floatOfInt .f64 y = Ieee.double.nearest (decide (y < 0)) y.natAbs 0 := rfl
    generalize y.natAbs.log2 = M at *
    have e2 := nearest_exact (neg := decide (y < 0)) (k := 0) (p := 0) a0 a1 aL (by omega) (by omega)
    rw [Nat.pow_zero, Nat.mul_one] at e2
    have b1 : y.natAbs * 2 ^ (52 - M) < 9007199254740992 := by
      have := Nat.mul_lt_mul_of_pos_right a1 (Nat.two_pow_pos (52 - M))
      rw [← Nat.pow_add, show M + 1 + (52 - M) = 53 by omega] at this
      exact this
    have b0 : 4503599627370496 ≤ y.natAbs * 2 ^ (52 - M) := by
      have := Nat.mul_le_mul_right (2 ^ (52 - M)) a0
      rw [← Nat.pow_add, show M + (52 - M) = 52 by omega] at this
      exact this
    refine ⟨52 - M, 0 + ((0 : Nat) : Int) + M - 52, ?_, fun _ => by omega⟩
    rw [e1, e2, read_wd b0 b1 (by omega) (by omega)]
theorem wideW_casesq (a : Nat) : (nanN a = true ∧ (Ieee.double.read (wideW a)).isNaN = true) ∨ (rung32 a = 2139095040 ∧ Ieee.double.read (wideW a) = .infinity (sgn32 a)) ∨
    (rung32 a < 2139095040 ∧ wideW a = wideN a ∧ ∃ M P, Ieee.double.read (wideW a) = .number (sgn32 a) M P ∧ -1074 ≤ P ∧ Ieee.signed (sgn32 a) M (P + 1074).toNat = sampleZ a) := by
  cases h : nanN a
  · have e : wideW a = wideN a := by unfold wideW; rw [h]; rfl
    have h' := h
    rw [nanN_rung] at h'
    have h' := of_decide_eq_false h'
    rcases Nat.lt_or_ge (rung32 a) 2139095040 with g | g
    · obtain ⟨r, s, v⟩ := wide_fin g
      refine Or.inr (Or.inr ⟨g, e, _, _, by rw [e, read_fin64 r, s], by omega, ?_⟩)
      rw [← s, signed_read, v]
    · exact Or.inr (Or.inl ⟨by omega, by rw [e]; exact wide_read_inf (by omega)⟩)
  · have e : wideW a = 9221120237041090560 := by unfold wideW; rw [h]; rfl
    exact Or.inl ⟨rfl, by rw [e]; decide⟩
theorem signed_eqq (s : Bool) (m k : Nat) : Ieee.signed s m k = if s = true then -((m * 2 ^ k : Nat) : Int) else ((m * 2 ^ k : Nat) : Int) := by
  unfold Ieee.signed; rw [Nat.shiftLeft_eq]

theorem quo_power64q (s : Bool) {m : Nat} (hm : m < 9007199254740992) (p q : Int) : ((Ieee.Datum.number s m p).quotient 54 (.number false 4503599627370496 q)).map Ieee.double.write = some (Ieee.double.word s (rungOf Ieee.double m (p - q - 52))) := by
  have hl2 : (4503599627370496 : Nat).log2 = 52 := by decide
  have hl : m.log2 ≤ 52 := by
    by_cases h0 : m = 0
    · subst h0; decide
    · have := (Nat.log2_lt h0).2 (show m < 2 ^ 53 from hm); omega
  obtain ⟨B, hB⟩ : ∃ B, B = 54 + (4503599627370496 : Nat).log2 - m.log2 := ⟨_, rfl⟩
  have hB1 : 54 ≤ B := by omega
  have em : (Ieee.Datum.number s m p).quotient 54 (.number false 4503599627370496 q) = some (.number (s ^^ false) (2 * ((m <<< B) / 4503599627370496) + ((m <<< B) % 4503599627370496 != 0).toNat) (p - q - (B : Int) - 1)) := by
    rw [hB]; simp [Ieee.Datum.quotient]
  have e1 : m <<< B = m * 2 ^ (B - 52) * 4503599627370496 := by
    rw [Nat.shiftLeft_eq, Nat.mul_assoc, show (4503599627370496 : Nat) = 2 ^ 52 from rfl, ← Nat.pow_add, show B - 52 + 52 = B by omega]
  rw [em, e1, Nat.mul_div_cancel _ (by decide), Nat.mul_mod_left, xor_f]
  show some (Ieee.double.nearest s (2 * (m * 2 ^ (B - 52)) + 0) (p - q - (B : Int) - 1)) = _
  rw [nearest_rung]
  refine congrArg (fun r => some (Ieee.double.word s r)) ?_
  have e2 : 2 * (m * 2 ^ (B - 52)) + 0 = m * 2 ^ (B - 51) := by
    rw [show B - 51 = (B - 52) + 1 by omega, Nat.pow_succ, Nat.add_zero, Nat.mul_comm 2, Nat.mul_assoc]
  rw [e2, rung_scale]
  congr 1; omega
theorem read_65536q : Ieee.double.read 4679240012837945344 = .number false 4503599627370496 (-36) := by decide +kernel
def sizeLq (L : List Int) : Nat := (L.map Int.natAbs).sum
theorem sizeL_consq (v : Int) (t : List Int) : sizeLq (v :: t) = v.natAbs + sizeLq t := by simp [sizeLq]
theorem X_formq {x : Nat} (h : rung32 x < 2139095040) : ∃ m g, (sampleZ x).natAbs = m * 2 ^ g ∧ m < 2 ^ 24 ∧ g ≤ 1178 :=
  ⟨mag32 (rung32 x), plc32 (rung32 x) + 925, signed_abs _ _ _, mag_lt32 _, by have := plc_le32 h; omega⟩
/-- A word of binary64 that is worth k times a sample's X. -/
def IsDq (X k : Int) (W : Nat) : Prop := W < 18446744073709551616 ∧ rung64 W = rungOf Ieee.double (k * X).natAbs (-1074) ∧ (k * X ≠ 0 → sgn64 W = decide (k * X < 0))
theorem word_lt64q (s : Bool) (r : Nat) (h : r ≤ 9218868437227405312) : Ieee.double.word s r < 18446744073709551616 := by
  unfold Ieee.Format.word
  rw [show Ieee.double.signWeight = 9223372036854775808 by decide]
  cases s <;> simp <;> omega
theorem rung_le64'q (M : Nat) (p : Int) : rungOf Ieee.double M p ≤ 9218868437227405312 := rungOf_le _ _ _
theorem IsDq.mk {X k : Int} {s : Bool} (h : k * X ≠ 0 → s = decide (k * X < 0)) : IsDq X k (Ieee.double.word s (rungOf Ieee.double (k * X).natAbs (-1074))) := by
  have hr := rung_le64'q (k * X).natAbs (-1074)
  obtain ⟨h1, h2⟩ := sgn_word64 s (r := rungOf Ieee.double (k * X).natAbs (-1074)) (by omega)
  exact ⟨word_lt64q _ _ hr, h2, fun g => by rw [h1]; exact h g⟩
theorem kX_valq {X k : Int} {m g : Nat} (hX : X.natAbs = m * 2 ^ g) (hm : m < 2 ^ 24) (hg : g ≤ 1178) (hk : k.natAbs ≤ 2 ^ 28) : val64 (rungOf Ieee.double (k * X).natAbs (-1074)) = (k * X).natAbs ∧ rungOf Ieee.double (k * X).natAbs (-1074) < 9218868437227405312 := by
  have e : (k * X).natAbs = k.natAbs * m * 2 ^ g := by rw [Int.natAbs_mul, hX, Nat.mul_assoc]
  have hkm : k.natAbs * m < 2 ^ 53 := Nat.lt_of_le_of_lt (Nat.mul_le_mul hk (Nat.le_of_lt hm)) (by decide)
  have hb : (k * X).natAbs < 2 ^ (53 + g) := by rw [e, Nat.pow_add]; exact Nat.mul_lt_mul_of_pos_right hkm (Nat.two_pow_pos g)
  have hlog : (k * X).natAbs.log2 ≤ 2000 := by
    by_cases h0 : (k * X).natAbs = 0
    · rw [h0]; decide
    · have := (Nat.log2_lt h0).2 hb; omega
  have hv := vN_exact (M := (k * X).natAbs) (g := g) hlog ⟨k.natAbs * m, by rw [e, Nat.mul_comm]⟩ hb
  refine ⟨hv, ?_⟩
  refine val_inj_lt64.1 ?_
  rw [hv]
  refine Nat.lt_of_lt_of_le hb ?_
  show 2 ^ (53 + g) ≤ mag64 9218868437227405312 * 2 ^ plc64 9218868437227405312
  obtain ⟨P, hP, hP2⟩ : ∃ P, plc64 9218868437227405312 = P ∧ 2046 ≤ P := ⟨_, rfl, by decide⟩
  rw [show mag64 9218868437227405312 = 2 ^ 52 by decide, hP, ← Nat.pow_add]
  exact Nat.pow_le_pow_right (by decide) (by omega)
theorem IsDq.sval {X k : Int} {W m g : Nat} (h : IsDq X k W) (hX : X.natAbs = m * 2 ^ g) (hm : m < 2 ^ 24) (hg : g ≤ 1178) (hk : k.natAbs ≤ 2 ^ 28) : rung64 W < 9218868437227405312 ∧ sval64 W = k * X := by
  obtain ⟨hv, hr⟩ := kX_valq hX hm hg hk
  obtain ⟨_, h1, h2⟩ := h
  rw [← h1] at hv hr
  refine ⟨hr, ?_⟩
  unfold sval64
  rw [hv]
  by_cases h0 : k * X = 0
  · rw [h0]; simp
  · rw [h2 h0]
    by_cases hn : k * X < 0
    · rw [if_pos (decide_eq_true hn)]; omega
    · rw [if_neg (by simpa using hn)]; omega
theorem sval_signed64q (a : Nat) : sval64 a = Ieee.signed (sgn64 a) (mag64 (rung64 a)) (plc64 (rung64 a)) := by
  unfold sval64 val64; rw [signed_eqq]
theorem told64_numq (s : Bool) (N : Nat) (b : Int) : told64 (some (.number s N b)) = Ieee.double.word s (rungOf Ieee.double N b) := nearest_rung _ _ _ _
theorem IsDq.add {X a b : Int} {A B m g : Nat} (hA : IsDq X a A) (hB : IsDq X b B) (hX : X.natAbs = m * 2 ^ g) (hm : m < 2 ^ 24) (hg : g ≤ 1178) (ha : a.natAbs ≤ 2 ^ 28) (hb : b.natAbs ≤ 2 ^ 28) : IsDq X (a + b) (add64V A B) := by
  obtain ⟨a1, a2⟩ := hA.sval hX hm hg ha
  obtain ⟨b1, b2⟩ := hB.sval hX hm hg hb
  unfold add64V
  rw [read_fin64 a1, read_fin64 b1]
  obtain ⟨N, c, e1, e2⟩ := sum_units (sgn64 A) (sgn64 B) (mag64 (rung64 A)) (mag64 (rung64 B)) (-1074 + (plc64 (rung64 A) : Int)) (-1074 + (plc64 (rung64 B) : Int)) (by omega) (by omega)
  rw [show (-1074 + (plc64 (rung64 A) : Int) + 1074).toNat = plc64 (rung64 A) by omega, show (-1074 + (plc64 (rung64 B) : Int) + 1074).toNat = plc64 (rung64 B) by omega, ← sval_signed64q, ← sval_signed64q, a2, b2, ← Int.add_mul] at e1 e2
  rw [e1, told64_numq, e2]
  exact IsDq.mk fun h => sg_of h
theorem IsDq.nought (X : Int) : IsDq X 0 9223372036854775808 := by
  refine ⟨by decide, ?_, fun h => absurd (Int.zero_mul X) h⟩
  rw [Int.zero_mul]
  show _ = rungOf Ieee.double 0 (-1074)
  rw [rungOf_zero]
  decide
theorem IsDq.prod {x : Nat} (h : rung32 x < 2139095040) {y : Int} (h0 : y ≤ 268435456) (h1 : -268435456 ≤ y) : IsDq (sampleZ x) y (prodV y x) := by
  obtain ⟨j, p, hr, hp⟩ := read_weightq h0 h1
  rcases wideW_casesq x with ⟨hn, _⟩ | ⟨hi, _⟩ | ⟨_, _, M, P, hw, hP, hs⟩
  · rw [nanN_rung] at hn; have := of_decide_eq_true hn; omega
  · omega
  · unfold prodV
    rw [hr, hw]
    have he : (Ieee.Datum.number (decide (y < 0)) (y.natAbs * 2 ^ j) p).product (.number (sgn32 x) M P) = some (.number (decide (y < 0) ^^ sgn32 x) (y.natAbs * 2 ^ j * M) (p + P)) := rfl
    rw [he, told64_numq]
    have hX : (sampleZ x).natAbs = M * 2 ^ (P + 1074).toNat := by rw [← hs]; exact signed_abs _ _ _
    have hrung : rungOf Ieee.double (y.natAbs * 2 ^ j * M) (p + P) = rungOf Ieee.double (y * sampleZ x).natAbs (-1074) := by
      rw [Int.natAbs_mul, hX]
      by_cases hy : y = 0
      · subst hy; simp [rungOf_zero]
      · rw [hp hy, show y.natAbs * 2 ^ j * M = y.natAbs * M * 2 ^ j by rw [Nat.mul_assoc, Nat.mul_comm (2 ^ j), ← Nat.mul_assoc], rung_scale, ← Nat.mul_assoc, rung_scale]
        congr 1
        omega
    rw [hrung]
    refine IsDq.mk fun hne => ?_
    have hs0 : sampleZ x ≠ 0 := fun e => hne (by rw [e, Int.mul_zero])
    have hy0 : y ≠ 0 := fun e => hne (by rw [e, Int.zero_mul])
    have hsx : sgn32 x = decide (sampleZ x < 0) := signed_sign (s := sgn32 x) (m := mag32 (rung32 x)) (k := plc32 (rung32 x) + 925) hs0
    rw [hsx]
    generalize sampleZ x = X at *
    rcases Int.lt_trichotomy y 0 with g | g | g
    · rcases Int.lt_trichotomy X 0 with k | k | k
      · have := Int.mul_pos_of_neg_of_neg g k
        rw [decide_eq_true g, decide_eq_true k, decide_eq_false (by omega)]; rfl
      · exact absurd k hs0
      · have := Int.mul_neg_of_neg_of_pos g k
        rw [decide_eq_true g, decide_eq_false (by omega), decide_eq_true this]; rfl
    · exact absurd g hy0
    · rcases Int.lt_trichotomy X 0 with k | k | k
      · have := Int.mul_neg_of_pos_of_neg g k
        rw [decide_eq_false (by omega), decide_eq_true k, decide_eq_true this]; rfl
      · exact absurd k hs0
      · have := Int.mul_pos g k
        rw [decide_eq_false (by omega), decide_eq_false (by omega), decide_eq_false (by omega)]; rfl
theorem IsDq.same {X k : Int} {A B : Nat} (hA : IsDq X k A) (hB : IsDq X k B) : A = B ∨ (A % 9223372036854775808 = 0 ∧ B % 9223372036854775808 = 0) := by
  obtain ⟨a0, a1, a2⟩ := hA
  obtain ⟨b0, b1, b2⟩ := hB
  have hr : A % 9223372036854775808 = B % 9223372036854775808 := a1.trans b1.symm
  by_cases h : k * X = 0
  · right
    rw [h, show (0 : Int).natAbs = 0 from rfl, rungOf_zero] at a1 b1
    exact ⟨a1, b1⟩
  · left
    have hs := (a2 h).trans (b2 h).symm
    unfold sgn64 at hs
    have hA2 : A / 9223372036854775808 % 2 = A / 9223372036854775808 := by omega
    have hB2 : B / 9223372036854775808 % 2 = B / 9223372036854775808 := by omega
    rw [hA2, hB2] at hs
    have : A / 9223372036854775808 = B / 9223372036854775808 := by
      have hA3 : A / 9223372036854775808 = 0 ∨ A / 9223372036854775808 = 1 := by omega
      have hB3 : B / 9223372036854775808 = 0 ∨ B / 9223372036854775808 = 1 := by omega
      rcases hA3 with e | e <;> rcases hB3 with f | f <;> rw [e, f] at hs ⊢ <;> first | rfl | (exact absurd hs (by decide))
    omega
theorem fold_Dq {X : Int} {m g : Nat} (hX : X.natAbs = m * 2 ^ g) (hm : m < 2 ^ 24) (hg : g ≤ 1178) : ∀ (l : List (Int × Nat)) (z : Int) (A : Nat), IsDq X z A → (∀ p ∈ l, IsDq X p.1 p.2) → z.natAbs + sizeLq (l.map Prod.fst) ≤ 2 ^ 28 → IsDq X (z + (l.map Prod.fst).sum) ((l.map Prod.snd).foldl add64V A)
  | [], z, A, hA, _, _ => by simpa using hA
  | p :: t, z, A, hA, hl, hs => by
    rw [List.map_cons, sizeL_consq] at hs
    rw [List.map_cons, List.map_cons, List.foldl_cons, List.sum_cons, ← Int.add_assoc]
    exact fold_Dq hX hm hg t (z + p.1) _ (hA.add (hl p (List.mem_cons_self ..)) hX hm hg (by omega) (by omega)) (fun q hq => hl q (List.mem_cons_of_mem _ hq)) (by omega)
theorem dot_Dq {x : Nat} (hx : rung32 x < 2139095040) {W : List Int} (hs : sizeLq W ≤ 2 ^ 28) (hb : ∀ y ∈ W, y.natAbs ≤ 268435456) : IsDq (sampleZ x) W.sum (dotF (prods W (List.replicate W.length x))) := by
  obtain ⟨m, g, h1, h2, h3⟩ := X_formq hx
  have e : prods W (List.replicate W.length x) = W.map fun y => prodV y x := by
    refine List.ext_getElem? fun i => ?_
    rcases Nat.lt_or_ge i W.length with h | h
    · have hp := prods_at W (List.replicate W.length x) (i := i) (by simp; exact h)
      have hl : i < (prods W (List.replicate W.length x)).length := by rw [prods_length]; simp; exact h
      rw [List.getD_eq_getElem?_getD, List.getElem?_eq_getElem hl] at hp
      rw [List.getElem?_eq_getElem hl, List.getElem?_map, List.getElem?_eq_getElem h]
      simp only [Option.getD_some, Option.map_some] at hp ⊢
      rw [hp, List.getD_eq_getElem?_getD, List.getElem?_eq_getElem h, List.getD_eq_getElem?_getD, List.getElem?_replicate, if_pos h]
      rfl
    · rw [List.getElem?_eq_none (by rw [prods_length]; simp; exact h), List.getElem?_eq_none (by simp; exact h)]
  rw [e]
  unfold dotF
  cases W with
  | nil =>
    rw [if_pos (show List.map (fun y => prodV y x) [] = [] from rfl)]
    refine ⟨by decide, ?_, fun h => absurd (Int.zero_mul _) h⟩
    show rung64 0 = rungOf Ieee.double (0 * sampleZ x).natAbs (-1074)
    rw [Int.zero_mul, show (0 : Int).natAbs = 0 from rfl, rungOf_zero]
    decide
  | cons y t =>
    rw [if_neg (by simp)]
    have := fold_Dq h1 h2 h3 ((y :: t).map fun y => (y, prodV y x)) 0 9223372036854775808 (IsDq.nought _) (fun p hp => by
      obtain ⟨z, hz, rfl⟩ := List.mem_map.1 hp
      have := hb z hz
      exact IsDq.prod hx (by omega) (by omega)) (by rw [List.map_map]; show 0 + sizeLq ((y :: t).map fun z => z) ≤ _; rw [List.map_id', Nat.zero_add]; exact hs)
    rw [List.map_map, List.map_map, Int.zero_add] at this
    have e1 : (y :: t).map (Prod.fst ∘ fun y => (y, prodV y x)) = y :: t := by
      show (y :: t).map (fun z => z) = _
      exact List.map_id' _
    rw [e1] at this
    exact this
end Go.Proofs.Ytgaolakfgjmeiab
/- Weights times samples: sums and quotients of binary64. (Out of BlA, BlC.) -/
namespace Go.Proofs.Ytgaolakfgjmeiab
open Go.RowKit
set_option linter.unusedVariables false
set_option linter.unusedSimpArgs false

/-- A sample's number. -/
def NumX (s X : Nat) : Prop := X < 18446744073709551616 ∧ canW X = wideW s
theorem store_f64 (a : Addr) (x : Nat) (m : Mode) (w : World) : (store a (.float .f64 x) m).run Try.prog w = stored Try.prog w a (.float .f64 x) m := run_store Try.prog w a _ m rfl
def smW (W : Nat → Int) : Nat → Int
  | 0 => 0
  | k + 1 => smW W k + W k
theorem smW_bd {W : Nat → Int} {B : Int} (hB : 0 ≤ B) : ∀ n : Nat, (∀ i, i < n → 0 ≤ W i ∧ W i ≤ B) → 0 ≤ smW W n ∧ smW W n ≤ (n : Int) * B
  | 0, _ => by simp [smW]
  | n + 1, h => by
    have h1 := smW_bd hB n (fun i hi => h i (by omega))
    have h2 := h n (by omega)
    have e : ((n + 1 : Nat) : Int) * B = (n : Int) * B + B := by rw [show ((n + 1 : Nat) : Int) = (n : Int) + 1 by omega, Int.add_mul, Int.one_mul]
    unfold smW
    omega
/-- A weight times a sample; sums of these, from the first on. -/
def wpr (W : Nat → Int) (S : Nat → Nat) (i : Nat) : Nat := opT .mul (floatOfInt .f64 (W i)) (wideW (S i))
def wac (W : Nat → Int) (S : Nat → Nat) : Nat → Nat
  | 0 => wpr W S 0
  | k + 1 => opT .add (wac W S k) (wpr W S (k + 1))
/-- What k + 1 weights make of samples. -/
def wghV (k : Nat) (W : Nat → Int) (sm : Int) (S : Nat → Nat) : Nat := narW (opT .quo (wac W S k) (floatOfInt .f64 sm))
theorem can_int {y : Int} (h0 : y ≤ 268435456) (h1 : -268435456 ≤ y) : canW (floatOfInt .f64 y) = floatOfInt .f64 y := by
  rcases can_cases (floatOfInt .f64 y) with h | ⟨h, _⟩
  · exact h
  · obtain ⟨j, p, e, _⟩ := read_weightq h0 h1
    rw [e] at h
    cases h
theorem narW_lt (x : Nat) : narW x < 4294967296 := toldD_lt _
end Go.Proofs.Ytgaolakfgjmeiab
/- Plain facts: a quotient with its rest told by one bit. -/
namespace Go.Proofs.Ytgaolakfgjmeiab
open Go.RowKit

/-- A quotient's digits, and one more that tells of a rest. -/
def sqV (m n A : Nat) : Nat := 2 * (m * 2 ^ A / n) + if m * 2 ^ A % n = 0 then 0 else 1
theorem sq_stick {m n B k : Nat} (hn : 0 < n) : stick (sqV m n (B + k)) (k + 1) = sqV m n B := by
  have hk := Nat.two_pow_pos k
  have e0 : m * 2 ^ (B + k) = m * 2 ^ B * 2 ^ k := by rw [Nat.pow_add, Nat.mul_assoc]
  -- the great quotient, cut, is the small one
  have e1 : m * 2 ^ (B + k) / n / 2 ^ k = m * 2 ^ B / n := by
    rw [Nat.div_div_eq_div_mul, e0, Nat.mul_div_mul_right _ _ hk]
  have d1 := Nat.div_add_mod (m * 2 ^ (B + k)) n
  have d2 := Nat.div_add_mod (m * 2 ^ B) n
  have d3 := Nat.div_add_mod (m * 2 ^ (B + k) / n) (2 ^ k)
  have r1 := Nat.mod_lt (m * 2 ^ (B + k)) hn
  have r2 := Nat.mod_lt (m * 2 ^ B) hn
  rw [e1] at d3
  obtain ⟨q, hq⟩ : ∃ q, q = m * 2 ^ B / n := ⟨_, rfl⟩
  obtain ⟨Q', hQ⟩ : ∃ Q', Q' = m * 2 ^ (B + k) / n := ⟨_, rfl⟩
  obtain ⟨r, hr⟩ : ∃ r, r = m * 2 ^ B % n := ⟨_, rfl⟩
  obtain ⟨R, hR⟩ : ∃ R, R = m * 2 ^ (B + k) % n := ⟨_, rfl⟩
  obtain ⟨t, ht⟩ : ∃ t, t = Q' % 2 ^ k := ⟨_, rfl⟩
  unfold stick sqV
  rw [← hQ, ← hR, ← hq, ← hr]
  rw [← hQ, ← hq, ← ht] at d3
  rw [← hQ, ← hR] at d1
  rw [← hq, ← hr] at d2
  have htk : t < 2 ^ k := by rw [ht]; exact Nat.mod_lt _ hk
  -- r * 2^k = n * t + R
  have key : r * 2 ^ k = n * t + R := by
    have a1 : n * Q' + R = (n * q + r) * 2 ^ k := by rw [d1, d2, e0]
    rw [← d3] at a1
    rw [Nat.mul_add, Nat.add_mul] at a1
    have a2 : n * (2 ^ k * q) = n * q * 2 ^ k := by rw [Nat.mul_comm (2 ^ k) q, Nat.mul_assoc]
    omega
  have hzero : r = 0 ↔ t = 0 ∧ R = 0 := by
    constructor
    · intro h
      rw [h, Nat.zero_mul] at key
      have k1 : n * t = 0 := by omega
      rcases Nat.mul_eq_zero.1 k1 with h' | h'
      · omega
      · exact ⟨h', by omega⟩
    · rintro ⟨h1, h2⟩
      rw [h1, h2, Nat.mul_zero] at key
      rcases Nat.mul_eq_zero.1 key with h' | h'
      · exact h'
      · omega
  have ep : 2 ^ (k + 1) = 2 * 2 ^ k := by rw [Nat.pow_succ]; omega
  obtain ⟨b, hb⟩ : ∃ b, b = if R = 0 then 0 else 1 := ⟨_, rfl⟩
  have hb2 : b < 2 := by rw [hb]; split <;> omega
  rw [← hb]
  have f1 : (2 * Q' + b) / 2 ^ (k + 1) = q := by
    rw [ep, ← Nat.div_div_eq_div_mul, show (2 * Q' + b) / 2 = Q' by omega, hQ, e1, hq]
  have f2 : (2 * Q' + b) % 2 ^ (k + 1) = 2 * t + b := by
    have g := Nat.div_add_mod (2 * Q' + b) (2 ^ (k + 1))
    rw [f1, ep] at g
    rw [ep]
    have g2 : 2 * 2 ^ k * q = 2 * (2 ^ k * q) := Nat.mul_assoc _ _ _
    omega
  rw [f1, f2]
  have hbR : b = 0 ↔ R = 0 := by rw [hb]; split <;> omega
  by_cases h : r = 0
  · obtain ⟨h1, h2⟩ := hzero.1 h
    rw [if_pos h, if_pos (by have := hbR.2 h2; omega)]
  · rw [if_neg h, if_neg]
    intro h'
    exact h (hzero.2 ⟨by omega, hbR.1 (by omega)⟩)
theorem sq_link (f : Ieee.Format) {m n A B : Nat} (x : Int) (hn : 0 < n) (hA : B ≤ A) (hq : 2 ^ (f.fractionBits + 1) ≤ m * 2 ^ B / n) :
    rungOf f (sqV m n A) (x - A - 1) = rungOf f (sqV m n B) (x - B - 1) := by
  obtain ⟨k, rfl⟩ : ∃ k, A = B + k := ⟨A - B, by omega⟩
  have e1 : m * 2 ^ (B + k) / n / 2 ^ k = m * 2 ^ B / n := by
    rw [Nat.div_div_eq_div_mul, Nat.pow_add, ← Nat.mul_assoc, Nat.mul_div_mul_right _ _ (Nat.two_pow_pos k)]
  have h1 : 2 ^ (f.fractionBits + 1 + k) ≤ m * 2 ^ (B + k) / n := by
    rw [Nat.pow_add]
    rw [← e1] at hq
    exact (Nat.le_div_iff_mul_le (Nat.two_pow_pos k)).1 hq
  have h2 : 2 ^ (f.fractionBits + 2 + k) ≤ sqV m n (B + k) := by
    unfold sqV
    rw [show f.fractionBits + 2 + k = f.fractionBits + 1 + k + 1 by omega, Nat.pow_succ]
    omega
  have hM : sqV m n (B + k) ≠ 0 := by have := Nat.two_pow_pos (f.fractionBits + 2 + k); omega
  have hlog : f.fractionBits + 2 + k ≤ (sqV m n (B + k)).log2 := (Nat.le_log2 hM).2 h2
  have := rung_stick f (M := sqV m n (B + k)) (k := k + 1) (x - (B + k : Nat) - 1) (by omega) hM (by unfold lastOf; omega)
  rw [sq_stick hn] at this
  rw [← this]
  congr 1; omega
theorem quo_digits {m n : Nat} (hm : m ≠ 0) (hn : n ≠ 0) {d : Nat} (h0 : 0 < d) : 2 ^ (d - 1) ≤ m * 2 ^ (d + n.log2 - m.log2) / n := by
  rw [Nat.le_div_iff_mul_le (by omega)]
  have h1 := Nat.log2_self_le hm
  have h2 : n < 2 ^ (n.log2 + 1) := Nat.lt_log2_self
  have a1 : 2 ^ (d - 1) * n < 2 ^ (d - 1) * 2 ^ (n.log2 + 1) := Nat.mul_lt_mul_of_pos_left h2 (Nat.two_pow_pos _)
  rw [← Nat.pow_add, show d - 1 + (n.log2 + 1) = d + n.log2 by omega] at a1
  have a2 : 2 ^ m.log2 * 2 ^ (d + n.log2 - m.log2) ≤ m * 2 ^ (d + n.log2 - m.log2) := Nat.mul_le_mul_right _ h1
  rw [← Nat.pow_add] at a2
  have a3 : 2 ^ (d + n.log2) ≤ 2 ^ (m.log2 + (d + n.log2 - m.log2)) := Nat.pow_le_pow_right (by decide) (by omega)
  omega
theorem sq_not (m n A : Nat) : 2 * (m * 2 ^ A / n) + (!decide (m * 2 ^ A % n = 0)).toNat = sqV m n A := by
  unfold sqV
  by_cases h : m * 2 ^ A % n = 0
  · rw [decide_eq_true h, if_pos h]; rfl
  · rw [decide_eq_false h, if_neg h]; rfl
theorem sq_model (m n A : Nat) : 2 * ((m <<< A) / n) + ((m <<< A) % n != 0).toNat = sqV m n A := by
  unfold sqV
  rw [Nat.shiftLeft_eq]
  by_cases h : m * 2 ^ A % n = 0
  · rw [if_pos h, h]; rfl
  · rw [if_neg h, bne_iff_ne.2 h]; rfl
end Go.Proofs.Ytgaolakfgjmeiab
/- Plain facts: a number rounded to binary32, as a signed rung. -/
namespace Go.Proofs.Ytgaolakfgjmeiab
open Go.RowKit
set_option linter.unusedVariables false
set_option linter.unusedSimpArgs false

/-- A number in units of 2^-1074, rounded to binary32: the signed rung. -/
def RS (Z : Int) : Int := if Z < 0 then -(rungOf Ieee.single Z.natAbs (-1074) : Int) else (rungOf Ieee.single Z.natAbs (-1074) : Int)
theorem RS_mono {Y Z : Int} (h : Y ≤ Z) : RS Y ≤ RS Z := by
  unfold RS
  by_cases hy : Y < 0
  · rw [if_pos hy]
    by_cases hz : Z < 0
    · rw [if_pos hz]
      have := rung_mono Ieee.single (-1074) (show Z.natAbs ≤ Y.natAbs by omega)
      omega
    · rw [if_neg hz]; omega
  · rw [if_neg hy, if_neg (by omega)]
    have := rung_mono Ieee.single (-1074) (show Y.natAbs ≤ Z.natAbs by omega)
    omega
theorem srung_told {σ : Bool} {Z : Int} {N : Nat} {b : Int} (hσ : Z ≠ 0 → σ = decide (Z < 0)) (hN : rungOf Ieee.single N b = rungOf Ieee.single Z.natAbs (-1074)) : srung32 (toldD (some (.number σ N b))) = RS Z ∧ nanN (toldD (some (.number σ N b))) = false := by
  rw [toldD_num, hN]
  have hle : rungOf Ieee.single Z.natAbs (-1074) ≤ 2139095040 := by have := rungOf_le Ieee.single Z.natAbs (-1074); rw [inf32] at this; exact this
  obtain ⟨a, b'⟩ := sgn_word32 σ (r := rungOf Ieee.single Z.natAbs (-1074)) (by omega)
  refine ⟨?_, nanN_word hle⟩
  unfold srung32 RS
  rw [a, b']
  by_cases h : Z = 0
  · subst h
    rw [show (0 : Int).natAbs = 0 from rfl, rungOf_zero]
    cases σ <;> rfl
  · rw [hσ h]
    by_cases k : Z < 0
    · rw [decide_eq_true k, if_pos rfl, if_pos k]
    · rw [decide_eq_false k, if_neg (by decide), if_neg k]
theorem samp_eq (a : Nat) {c : Nat} (hc : c = 925) : sampleZ a = sval32 a * 2 ^ c := by
  unfold sampleZ sval32 val32 Ieee.signed
  rw [← hc, Nat.shiftLeft_eq, Nat.pow_add, ← Nat.mul_assoc]
  split
  · rw [Int.neg_mul, Int.natCast_mul, Int.natCast_pow]; rfl
  · rw [Int.natCast_mul, Int.natCast_pow]; rfl
theorem sval_le {a b : Nat} (h : srung32 a ≤ srung32 b) : sval32 a ≤ sval32 b := by
  have e := sval_srung32 a b
  rcases Int.lt_or_le (sval32 b) (sval32 a) with g | g
  · rw [Int.compare_eq_gt.2 g] at e
    have := Int.compare_eq_gt.1 e.symm
    omega
  · exact g
theorem sval_eq {a b : Nat} (h : sval32 a = sval32 b) : srung32 a = srung32 b := by
  have e := sval_srung32 a b
  rw [Int.compare_eq_eq.2 h] at e
  exact Int.compare_eq_eq.1 e.symm
theorem samp_le {a b : Nat} (h : srung32 a ≤ srung32 b) : sampleZ a ≤ sampleZ b := by
  obtain ⟨c, hc⟩ : ∃ c : Nat, c = 925 := ⟨_, rfl⟩
  rw [samp_eq a hc, samp_eq b hc]
  exact Int.mul_le_mul_of_nonneg_right (sval_le h) (Int.le_of_lt (Int.pow_pos (by decide)))
theorem srung_bd {x : Nat} (h : nanN x = false) : -2139095040 ≤ srung32 x ∧ srung32 x ≤ 2139095040 := by
  rw [nanN_rung] at h
  have h := of_decide_eq_false h
  unfold srung32
  split <;> omega
theorem fin_srung {x : Nat} (h : rung32 x < 2139095040) : -2139095040 < srung32 x ∧ srung32 x < 2139095040 := by
  unfold srung32; split <;> omega
theorem RS_self {a : Nat} (h : rung32 a < 2139095040) : RS (sampleZ a) = srung32 a := by
  have habs : (sampleZ a).natAbs = mag32 (rung32 a) * 2 ^ (plc32 (rung32 a) + 925) := by unfold sampleZ; rw [signed_abs]
  have hr : rungOf Ieee.single (sampleZ a).natAbs (-1074) = rung32 a := by
    rw [habs, rung_scale, show (-1074 + ((plc32 (rung32 a) + 925 : Nat) : Int)) = -149 + (plc32 (rung32 a) : Int) by omega]
    exact self32 h
  unfold RS srung32
  rw [hr]
  by_cases z : sampleZ a = 0
  · have : rung32 a = 0 := by rw [← hr, z]; exact rungOf_zero _ _
    rw [this]; split <;> split <;> rfl
  · have hs : sgn32 a = decide (sampleZ a < 0) := signed_sign z
    rw [hs]
    by_cases k : sampleZ a < 0
    · rw [if_pos k, if_pos (decide_eq_true k)]
    · rw [if_neg k, if_neg (by simp; omega)]
end Go.Proofs.Ytgaolakfgjmeiab
/- Quotients of words of binary64 by whole numbers, narrowed. Plain. (Out of BlJ.) -/
namespace Go.Proofs.Ytgaolakfgjmeiab
open Go.RowKit
set_option linter.unusedVariables false
set_option linter.unusedSimpArgs false

theorem RNb_mono {Y Z : Int} (h : Y ≤ Z) : RN Y ≤ RN Z := by
  unfold RN
  by_cases hy : Y < 0
  · rw [if_pos hy]
    by_cases hz : Z < 0
    · rw [if_pos hz]
      have := val_le64 (rung_mono Ieee.double (-1074) (show Z.natAbs ≤ Y.natAbs by omega))
      omega
    · rw [if_neg hz]; omega
  · rw [if_neg hy, if_neg (by omega)]
    have := val_le64 (rung_mono Ieee.double (-1074) (show Y.natAbs ≤ Z.natAbs by omega))
    omega
/-- A finite word of binary64 worth Z. -/
structure Wb (x : Nat) (Z : Int) : Prop where
  fin : rung64 x < 9218868437227405312
  val : sval64 x = Z
theorem Wb.prod {x : Nat} (hx : rung32 x < 2139095040) {y : Int} (h0 : y ≤ 268435456) (h1 : -268435456 ≤ y) : Wb (opT .mul (floatOfInt .f64 y) (wideW x)) (y * sampleZ x) := by
  obtain ⟨m, g, a, b, c⟩ := X_formq hx
  obtain ⟨f, v⟩ := (IsDq.prod hx h0 h1).sval a b c (Nat.le_trans (show y.natAbs ≤ 268435456 by omega) (by decide))
  exact ⟨f, v⟩
theorem Wb.add {x y : Nat} {X Y : Int} (hx : Wb x X) (hy : Wb y Y) (hs : (X + Y).natAbs.log2 ≤ 2000) : Wb (opT .add x y) (RN (X + Y)) := by
  show Wb (add64V x y) _
  unfold add64V
  rw [read_fin64 hx.fin, read_fin64 hy.fin]
  obtain ⟨N, c, e1, e2⟩ := sum_units (sgn64 x) (sgn64 y) (mag64 (rung64 x)) (mag64 (rung64 y)) (-1074 + (plc64 (rung64 x) : Int)) (-1074 + (plc64 (rung64 y) : Int)) (by omega) (by omega)
  rw [show (-1074 + (plc64 (rung64 x) : Int) + 1074).toNat = plc64 (rung64 x) by omega, show (-1074 + (plc64 (rung64 y) : Int) + 1074).toNat = plc64 (rung64 y) by omega, ← sval_signed64q, ← sval_signed64q, hx.val, hy.val] at e1 e2
  rw [e1, told64_numq, e2]
  obtain ⟨_, _, h1, h2⟩ := wordOf_facts (σ := sg (sgn64 x) (sgn64 y) (X + Y)) hs (fun h => sg_of h)
  exact ⟨h1, h2⟩
theorem log_powb {n e : Nat} (h : n ≤ 2 ^ e) (he : e ≤ 1990) : n.log2 ≤ 2000 := by
  by_cases h0 : n = 0
  · subst h0; decide
  · have h2 : n < 2 ^ (e + 1) := by rw [Nat.pow_add]; have := Nat.two_pow_pos e; omega
    have := (Nat.log2_lt h0).2 h2
    omega
/-- Sums of products, each rounded. -/
def racc (W : Nat → Int) (S : Nat → Nat) : Nat → Int
  | 0 => W 0 * sampleZ (S 0)
  | k + 1 => RN (racc W S k + W (k + 1) * sampleZ (S (k + 1)))
theorem samp_capb {a : Nat} (h : rung32 a < 2139095040) {y : Int} (h0 : y ≤ 268435456) (h1 : -268435456 ≤ y) {j : Nat} (hj : j = 1230) : (y * sampleZ a).natAbs ≤ 2 ^ j := by
  have hs : (sampleZ a).natAbs ≤ 2 ^ (j - 28) := by
    unfold sampleZ
    rw [signed_abs]
    have hp := plc_le32 h
    have h1 : mag32 (rung32 a) * 2 ^ (plc32 (rung32 a) + 925) < 2 ^ 24 * 2 ^ (plc32 (rung32 a) + 925) := Nat.mul_lt_mul_of_pos_right (mag_lt32 _) (Nat.two_pow_pos _)
    rw [← Nat.pow_add] at h1
    exact Nat.le_trans (Nat.le_of_lt h1) (Nat.pow_le_pow_right (by decide) (by omega))
  rw [Int.natAbs_mul]
  have e : 2 ^ j = 2 ^ 28 * 2 ^ (j - 28) := by rw [← Nat.pow_add]; congr 1; omega
  rw [e]
  refine Nat.mul_le_mul ?_ hs
  have : (2 : Nat) ^ 28 = 268435456 := by decide
  omega
theorem racc_mono {W : Nat → Int} {S T : Nat → Nat} : ∀ k : Nat, (∀ i, i ≤ k → 0 ≤ W i ∧ srung32 (S i) ≤ srung32 (T i)) → racc W S k ≤ racc W T k
  | 0, h => Int.mul_le_mul_of_nonneg_left (samp_le (h 0 (by omega)).2) (h 0 (by omega)).1
  | k + 1, h => by
    have i1 := racc_mono k (fun i hi => h i (by omega))
    have i2 := Int.mul_le_mul_of_nonneg_left (samp_le (h (k + 1) (by omega)).2) (h (k + 1) (by omega)).1
    exact RNb_mono (by omega)
/-- A number divided by a whole number, as a rung. -/
def qrg (k z : Nat) : Nat := rungOf Ieee.double (sqV z k 100) (-1074 - (100 : Nat) - 1)
theorem sqV_mono {k A z y : Nat} (hk : 0 < k) (h : z ≤ y) : sqV z k A ≤ sqV y k A := by
  unfold sqV
  have h1 : z * 2 ^ A ≤ y * 2 ^ A := Nat.mul_le_mul_right _ h
  generalize z * 2 ^ A = a at *
  generalize y * 2 ^ A = b at *
  have d1 := Nat.div_add_mod a k
  have d2 := Nat.div_add_mod b k
  have m1 := Nat.mod_lt a hk
  have m2 := Nat.mod_lt b hk
  have hd : a / k ≤ b / k := Nat.div_le_div_right h1
  rcases Nat.lt_or_ge (a / k) (b / k) with c | c
  · split <;> split <;> omega
  · have e : a / k = b / k := by omega
    rw [e] at d1 ⊢
    split <;> split <;> omega
theorem qrg_mono {k z y : Nat} (hk : 0 < k) (h : z ≤ y) : qrg k z ≤ qrg k y := rung_mono _ _ (sqV_mono hk h)
theorem qrg_exact {k X : Nat} (hk : 0 < k) : qrg k (k * X) = rungOf Ieee.double X (-1074) := by
  have e : sqV (k * X) k 100 = X * 2 ^ 101 := by
    unfold sqV
    have h1 : k * X * 2 ^ 100 = X * 2 ^ 100 * k := by rw [Nat.mul_comm k X, Nat.mul_assoc, Nat.mul_comm k, ← Nat.mul_assoc]
    rw [h1, Nat.mul_div_cancel _ hk, Nat.mul_mod_left, if_pos rfl, Nat.add_zero, show (2 : Nat) ^ 101 = 2 ^ 100 * 2 by decide, Nat.mul_comm 2 (X * 2 ^ 100), Nat.mul_assoc]
  unfold qrg
  rw [e, rung_scale]
  congr 1
theorem sqV_shift (m n A j : Nat) : sqV m (n * 2 ^ j) (A + j) = sqV m n A := by
  unfold sqV
  have hp := Nat.two_pow_pos j
  have e1 : m * 2 ^ (A + j) = m * 2 ^ A * 2 ^ j := by rw [Nat.pow_add, Nat.mul_assoc]
  rw [e1, Nat.mul_div_mul_right _ _ hp, Nat.mul_mod_mul_right]
  have : m * 2 ^ A % n * 2 ^ j = 0 ↔ m * 2 ^ A % n = 0 := by
    constructor
    · intro h
      rcases Nat.mul_eq_zero.1 h with c | c
      · exact c
      · omega
    · intro h; rw [h, Nat.zero_mul]
  by_cases h : m * 2 ^ A % n = 0
  · rw [if_pos h, if_pos (this.2 h)]
  · rw [if_neg h, if_neg (fun c => h (this.1 c))]
theorem quo_word {D k : Nat} {Z : Int} (hD : Wb D Z) (hk : 1 ≤ k) (hk2 : k ≤ 16384) : opT .quo D (floatOfInt .f64 (k : Int)) = Ieee.double.word (sgn64 D) (qrg k Z.natAbs) := by
  obtain ⟨j, p, hr, hp⟩ := read_weightq (y := (k : Int)) (by omega) (by omega)
  rw [decide_eq_false (by omega), hp (by omega), Int.natAbs_natCast] at hr
  have hv : Z.natAbs = mag64 (rung64 D) * 2 ^ plc64 (rung64 D) := by rw [← hD.val]; exact val_abs D
  unfold opT
  rw [read_fin64 hD.fin, hr]
  show told64 ((Ieee.Datum.number (sgn64 D) (mag64 (rung64 D)) (-1074 + (plc64 (rung64 D) : Int))).quotient 54 (.number false (k * 2 ^ j) (-(j : Int)))) = _
  have hn0 : k * 2 ^ j ≠ 0 := by have := Nat.mul_pos hk (Nat.two_pow_pos j); omega
  have em : (Ieee.Datum.number (sgn64 D) (mag64 (rung64 D)) (-1074 + (plc64 (rung64 D) : Int))).quotient 54 (.number false (k * 2 ^ j) (-(j : Int))) = some (.number (sgn64 D ^^ false) (sqV (mag64 (rung64 D)) (k * 2 ^ j) (54 + (k * 2 ^ j).log2 - (mag64 (rung64 D)).log2)) (-1074 + (plc64 (rung64 D) : Int) - (-(j : Int)) - ((54 + (k * 2 ^ j).log2 - (mag64 (rung64 D)).log2 : Nat) : Int) - 1)) := by
    rw [← sq_model]
    simp [Ieee.Datum.quotient, hn0]
  rw [em, told64_numq, Bool.xor_false]
  refine congrArg (Ieee.double.word (sgn64 D)) ?_
  by_cases hm : mag64 (rung64 D) = 0
  · rw [hm] at hv ⊢
    rw [hv, Nat.zero_mul]
    unfold qrg sqV
    simp [rungOf_zero]
  · have hd := quo_digits (m := mag64 (rung64 D)) (n := k * 2 ^ j) hm hn0 (d := 54) (by decide)
    have hlog : (k * 2 ^ j).log2 ≤ j + 14 := by
      have : k * 2 ^ j < 2 ^ (j + 15) := by
        rw [Nat.pow_add, Nat.mul_comm (2 ^ j)]
        exact Nat.mul_lt_mul_of_pos_right (by omega) (Nat.two_pow_pos j)
      have := (Nat.log2_lt hn0).2 this
      omega
    have hl := sq_link Ieee.double (m := mag64 (rung64 D)) (n := k * 2 ^ j) (A := plc64 (rung64 D) + 100 + j) (B := 54 + (k * 2 ^ j).log2 - (mag64 (rung64 D)).log2) (-1074 + (plc64 (rung64 D) : Int) - (-(j : Int))) (by omega) (by omega) hd
    rw [← hl, sqV_shift, show sqV (mag64 (rung64 D)) k (plc64 (rung64 D) + 100) = sqV Z.natAbs k 100 by unfold sqV; rw [hv, Nat.pow_add, Nat.mul_assoc]]
    unfold qrg
    congr 1
    omega
theorem qrg_fin {k z e : Nat} (hk : 1 ≤ k) (hz : z ≤ 2 ^ e) (he : e ≤ 1900) : qrg k z < 9218868437227405312 := by
  have h1 : qrg k z ≤ qrg k (k * 2 ^ e) := qrg_mono hk (Nat.le_trans hz (Nat.le_mul_of_pos_left _ hk))
  rw [qrg_exact hk] at h1
  have h2 : val64 (rungOf Ieee.double (2 ^ e) (-1074)) = 2 ^ e := vN_exact (g := e) (log_powb (Nat.le_refl _) (by omega)) ⟨1, by omega⟩ (by rw [Nat.pow_add]; have := Nat.two_pow_pos e; omega)
  have h3 : rungOf Ieee.double (2 ^ e) (-1074) < 9218868437227405312 := by
    refine val_inj_lt64.1 ?_
    rw [h2]
    show 2 ^ e < mag64 9218868437227405312 * 2 ^ plc64 9218868437227405312
    obtain ⟨P, hP, hP2⟩ : ∃ P, plc64 9218868437227405312 = P ∧ 2046 ≤ P := ⟨_, rfl, by decide⟩
    rw [show mag64 9218868437227405312 = 2 ^ 52 by decide, hP, ← Nat.pow_add]
    exact Nat.pow_lt_pow_right (by decide) (by omega)
  omega
/-- The signed value of a quotient. -/
def qsv (k : Nat) (Z : Int) : Int := if Z < 0 then -(val64 (qrg k Z.natAbs) : Int) else (val64 (qrg k Z.natAbs) : Int)
theorem qsv_mono {k : Nat} (hk : 1 ≤ k) {Y Z : Int} (h : Y ≤ Z) : qsv k Y ≤ qsv k Z := by
  unfold qsv
  by_cases hy : Y < 0
  · rw [if_pos hy]
    by_cases hz : Z < 0
    · rw [if_pos hz]
      have := val_le64 (qrg_mono (k := k) hk (show Z.natAbs ≤ Y.natAbs by omega))
      omega
    · rw [if_neg hz]; omega
  · rw [if_neg hy, if_neg (by omega)]
    have := val_le64 (qrg_mono (k := k) hk (show Y.natAbs ≤ Z.natAbs by omega))
    omega
theorem nar_quo {D k e : Nat} {Z : Int} (hD : Wb D Z) (hk : 1 ≤ k) (hk2 : k ≤ 16384) (hz : Z.natAbs ≤ 2 ^ e) (he : e ≤ 1900) : srung32 (narW (opT .quo D (floatOfInt .f64 (k : Int)))) = RS (qsv k Z) ∧ nanN (narW (opT .quo D (floatOfInt .f64 (k : Int)))) = false := by
  rw [quo_word hD hk hk2]
  have hf := qrg_fin hk hz he
  obtain ⟨k1, k2⟩ := sgn_word64 (sgn64 D) (r := qrg k Z.natAbs) (by omega)
  unfold narW
  rw [read_fin64 (by rw [k2]; exact hf), k1, k2]
  have hsz : Z ≠ 0 → sgn64 D = decide (Z < 0) := fun h => by
    have := signed_sign (s := sgn64 D) (m := mag64 (rung64 D)) (k := plc64 (rung64 D))
    rw [← sval_signed64q, hD.val] at this
    exact this h
  have habs : (qsv k Z).natAbs = val64 (qrg k Z.natAbs) := by unfold qsv; split <;> omega
  refine srung_told (fun h => ?_) ?_
  · have hZ : Z ≠ 0 := fun e => h (by
      rw [e]; unfold qsv qrg sqV
      simp [rungOf_zero]
      decide)
    rw [hsz hZ]
    refine decide_eq_decide.2 ⟨fun g => ?_, fun g => ?_⟩
    · have : qsv k Z = -(val64 (qrg k Z.natAbs) : Int) := by unfold qsv; rw [if_pos g]
      omega
    · rcases Int.lt_or_le Z 0 with c | c
      · exact c
      · have : qsv k Z = (val64 (qrg k Z.natAbs) : Int) := by unfold qsv; rw [if_neg (by omega)]
        omega
  · rw [habs]
    unfold val64
    rw [rung_scale]
theorem qsv_exact {k x : Nat} (hx : rung32 x < 2139095040) (hk : 1 ≤ k) : qsv k ((k : Int) * sampleZ x) = sampleZ x := by
  obtain ⟨m, g, a, b, c⟩ := X_formq hx
  have hv := (kX_valq (X := sampleZ x) (k := 1) a b c (by decide)).1
  rw [Int.one_mul] at hv
  have ha : ((k : Int) * sampleZ x).natAbs = k * (sampleZ x).natAbs := by rw [Int.natAbs_mul, Int.natAbs_natCast]
  unfold qsv
  rw [ha, qrg_exact hk, hv]
  rcases Int.lt_or_le (sampleZ x) 0 with h | h
  · rw [if_pos (Int.mul_neg_of_pos_of_neg (by omega) h)]; omega
  · rw [if_neg (by have := Int.mul_nonneg (show (0 : Int) ≤ (k : Int) by omega) h; omega)]; omega
end Go.Proofs.Ytgaolakfgjmeiab
/- What weights make of finite samples. Plain. (Out of BlJ, BlK.) -/
namespace Go.Proofs.Ytgaolakfgjmeiab
open Go.RowKit
set_option linter.unusedVariables false
set_option linter.unusedSimpArgs false

theorem wac_wb {W : Nat → Int} {S : Nat → Nat} {j : Nat} (hj : j = 1230) : ∀ k : Nat, k ≤ 14 → (∀ i, i ≤ k → rung32 (S i) < 2139095040 ∧ 0 ≤ W i ∧ W i ≤ 3432) → Wb (wac W S k) (racc W S k) ∧ (racc W S k).natAbs ≤ 2 ^ (j + 2 * k)
  | 0, _, h => by
    obtain ⟨h1, h2, h3⟩ := h 0 (by omega)
    exact ⟨Wb.prod h1 (by omega) (by omega), samp_capb h1 (by omega) (by omega) (by omega)⟩
  | k + 1, hk, h => by
    obtain ⟨i1, i2⟩ := wac_wb hj k (by omega) (fun i hi => h i (by omega))
    obtain ⟨h1, h2, h3⟩ := h (k + 1) (by omega)
    have hc := samp_capb h1 (y := W (k + 1)) (by omega) (by omega) hj
    have hm : (2 : Nat) ^ j ≤ 2 ^ (j + 2 * k) := Nat.pow_le_pow_right (by decide) (by omega)
    have hs : (racc W S k + W (k + 1) * sampleZ (S (k + 1))).natAbs ≤ 2 ^ (j + 2 * k + 1) := by rw [Nat.pow_succ]; omega
    have hl := log_powb hs (by omega)
    refine ⟨i1.add (Wb.prod h1 (by omega) (by omega)) hl, ?_⟩
    have := RN_le hl
    show (RN _).natAbs ≤ _
    rw [show j + 2 * (k + 1) = j + 2 * k + 1 + 1 by omega, Nat.pow_succ]
    omega
theorem wac_congr {W : Nat → Int} {S T : Nat → Nat} : ∀ k : Nat, (∀ i, i ≤ k → S i = T i) → wac W S k = wac W T k
  | 0, h => by unfold wac wpr; rw [h 0 (by omega)]
  | k + 1, h => by unfold wac wpr; rw [wac_congr k (fun i hi => h i (by omega)), h (k + 1) (by omega)]
theorem racc_const {W : Nat → Int} {x : Nat} (hx : rung32 x < 2139095040) : ∀ k : Nat, k ≤ 14 → (∀ i, i ≤ k → 0 ≤ W i ∧ W i ≤ 3432) → racc W (fun _ => x) k = smW W (k + 1) * sampleZ x
  | 0, _, _ => by show W 0 * sampleZ x = (0 + W 0) * sampleZ x; rw [Int.zero_add]
  | k + 1, hk, h => by
    have ih := racc_const hx k (by omega) (fun i hi => h i (by omega))
    have hb := smW_bd (W := W) (B := 3432) (by decide) (k + 2) (fun i hi => h i (by omega))
    have e : smW W (k + 1) * sampleZ x + W (k + 1) * sampleZ x = smW W (k + 2) * sampleZ x := by
      show _ = (smW W (k + 1) + W (k + 1)) * sampleZ x
      rw [Int.add_mul]
    unfold racc
    rw [ih, e]
    obtain ⟨m, g, a, b, c⟩ := X_formq hx
    have hn : (smW W (k + 2)).natAbs ≤ 2 ^ 28 := by
      have : (2 : Nat) ^ 28 = 268435456 := by decide
      have : ((k + 2 : Nat) : Int) * 3432 ≤ 16 * 3432 := Int.mul_le_mul_of_nonneg_right (by omega) (by decide)
      omega
    have := (kX_valq (X := sampleZ x) (k := smW W (k + 2)) a b c hn).1
    clear ih e hb hn
    generalize smW W (k + 2) * sampleZ x = Z at *
    unfold RN
    split <;> omega
theorem word_of_srung {a b : Nat} (ha : a < 4294967296) (hb : b < 4294967296) (h : srung32 a = srung32 b) (h0 : srung32 b ≠ 0) : a = b := by
  unfold srung32 sgn32 rung32 at h h0
  have a1 : a / 2147483648 = 0 ∨ a / 2147483648 = 1 := by omega
  have b1 : b / 2147483648 = 0 ∨ b / 2147483648 = 1 := by omega
  rcases a1 with a1 | a1 <;> rcases b1 with b1 | b1 <;> rw [a1, b1] at h <;> rw [b1] at h0 <;> simp at h h0 <;> omega
theorem fin_of_srungb {x : Nat} (h : -2139095040 < srung32 x ∧ srung32 x < 2139095040) : rung32 x < 2139095040 := by
  unfold srung32 at h
  split at h <;> omega
theorem lohi_b {y : Nat} (h : rung32 y < 2139095040) : rung32 y < 2139095040 ∧ srung32 4286578687 ≤ srung32 y ∧ srung32 y ≤ srung32 2139095039 := by
  have := fin_srung h
  have e1 : srung32 4286578687 = -2139095039 := by decide
  have e2 : srung32 2139095039 = 2139095039 := by decide
  rw [e1, e2]
  exact ⟨h, by omega, by omega⟩
end Go.Proofs.Ytgaolakfgjmeiab

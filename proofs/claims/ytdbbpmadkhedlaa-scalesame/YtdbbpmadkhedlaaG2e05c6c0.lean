/- Plain facts: orders of two, ones, noughts and halves, in the model's own words of floats. -/
import Derived.Test.YtdbbpmadkhedlaaG85b5ec28
import Derived.Test.YtdbbpmadkhedlaaGbf0ce6c2
import Derived.Test.YtdbbpmadkhedlaaG1d93a06b
namespace Go.Proofs.Ytdbbpmadkhedlaa
open Go.RowKit

theorem sum_comm (d d' : Ieee.Datum) : d.sum d' = d'.sum d := by
  cases d with
  | nan s t => cases d' <;> rfl
  | infinity s =>
    cases d' with
    | nan t f => rfl
    | infinity t =>
      show (if s = t then some (Ieee.Datum.infinity s) else none) = (if t = s then some (Ieee.Datum.infinity t) else none)
      by_cases h : s = t
      · subst h; rfl
      · rw [if_neg h, if_neg (fun e => h e.symm)]
    | number t n j => rfl
  | number s m i =>
    cases d' with
    | nan t f => rfl
    | infinity t => rfl
    | number t n j =>
      simp only [Ieee.Datum.sum]
      rw [Int.min_comm j i, Int.add_comm (Ieee.signed t n _), Bool.and_comm t s]
theorem product_comm (d d' : Ieee.Datum) : d.product d' = d'.product d := by
  cases d with
  | nan s t => cases d' <;> rfl
  | infinity s =>
    cases d' with
    | nan t f => rfl
    | infinity t => simp only [Ieee.Datum.product]; rw [Bool.xor_comm]
    | number t n j => rfl
  | number s m i =>
    cases d' with
    | nan t f => rfl
    | infinity t => rfl
    | number t n j =>
      simp only [Ieee.Datum.product]
      rw [Bool.xor_comm, Nat.mul_comm, Int.add_comm]
theorem leastV_comm {a b : Nat} : leastV (a : Int) (b : Int) = leastV b a := by
  unfold leastV befB keyV
  simp only [decide_eq_true_eq]
  repeat' split
  all_goals omega
theorem greatestV_comm {a b : Nat} : greatestV (a : Int) (b : Int) = greatestV b a := by
  unfold greatestV befB keyV
  simp only [decide_eq_true_eq]
  repeat' split
  all_goals omega

/-- A sample's own rung. -/
theorem self32 {r : Nat} (h : r < 2139095040) : rungOf Ieee.single (mag32 r) (-149 + (plc32 r : Int)) = r := by
  by_cases h0 : r = 0
  · subst h0; rw [show mag32 0 = 0 from by decide, rungOf_zero]
  · have hm := mag_ne32 h0
    have hm1 := mag_lt32 r
    have hp : plc32 r ≤ 253 := by unfold plc32; omega
    have hr : mag32 r + plc32 r * 8388608 = r := by unfold mag32 plc32; omega
    unfold rungOf
    rw [if_neg hm]
    have hl : (mag32 r).log2 ≤ 23 := by
      have := (Nat.log2_lt hm).2 (show mag32 r < 2 ^ 24 from hm1)
      omega
    have e : lastOf Ieee.single (mag32 r) (-149 + (plc32 r : Int)) = -149 + (plc32 r : Int) := by
      unfold lastOf
      rw [least32, show (Ieee.single.fractionBits : Int) = 23 from rfl]
      rcases Nat.eq_zero_or_pos (plc32 r) with g | g
      · rw [g]; omega
      · have h2 : 23 ≤ (mag32 r).log2 := (Nat.le_log2 hm).2 (mag_ge32 g)
        omega
    rw [e, least32, binade32, inf32, Int.sub_self]
    have e2 : rz (mag32 r) 0 = mag32 r := by
      have := rz_nat (mag32 r) 0
      rw [Nat.pow_zero, Nat.mul_one] at this
      exact this
    rw [e2, show (-149 + (plc32 r : Int) - -149).toNat = plc32 r by omega, Nat.min_eq_left (by omega)]
    omega
theorem told_self {a : Nat} (ha : a < 4294967296) (h : rung32 a < 2139095040) : Ieee.single.word (sgn32 a) (rungOf Ieee.single (mag32 (rung32 a)) (-149 + (plc32 (rung32 a) : Int))) = a := by
  rw [self32 h, ← word_of32 ha]
theorem told_sinf {a : Nat} (ha : a < 4294967296) (h : rung32 a = 2139095040) : Ieee.single.word (sgn32 a) 2139095040 = a := by
  rw [← h, ← word_of32 ha]
theorem toldD_inf (s : Bool) : toldD (some (.infinity s)) = Ieee.single.word s 2139095040 := by
  show Ieee.single.word s Ieee.single.infRung = _
  rw [inf32]

theorem read_half : Ieee.single.read 1056964608 = .number false 8388608 (-24) := by decide
theorem read_one32 : Ieee.single.read 1065353216 = .number false 8388608 (-23) := by decide
theorem read_two : Ieee.single.read 1073741824 = .number false 8388608 (-22) := by decide
theorem read_minus : Ieee.single.read 2147483648 = .number true 0 (-149) := by decide
theorem read_plus : Ieee.single.read 0 = .number false 0 (-149) := by decide
theorem xor_f (s : Bool) : (s ^^ false) = s := by cases s <;> rfl

/-- Times a power of two. -/
theorem mul_power (s : Bool) (m : Nat) (p q : Int) : toldD ((Ieee.Datum.number s m p).product (.number false 8388608 q)) = Ieee.single.word s (rungOf Ieee.single m (p + q + 23)) := by
  show toldD (some (.number (s ^^ false) (m * 2 ^ 23) (p + q))) = _
  rw [xor_f, toldD_num, rung_scale]; rfl
/-- By a power of two. -/
theorem quo_power (s : Bool) {m : Nat} (hm : m < 16777216) (p q : Int) : toldD ((Ieee.Datum.number s m p).quotient 25 (.number false 8388608 q)) = Ieee.single.word s (rungOf Ieee.single m (p - q - 23)) := by
  have hl2 : (8388608 : Nat).log2 = 23 := by decide
  have hl : m.log2 ≤ 23 := by
    by_cases h0 : m = 0
    · subst h0; decide
    · have := (Nat.log2_lt h0).2 (show m < 2 ^ 24 from hm); omega
  obtain ⟨B, hB⟩ : ∃ B, B = 25 + (8388608 : Nat).log2 - m.log2 := ⟨_, rfl⟩
  have hB1 : 25 ≤ B := by omega
  have em : (Ieee.Datum.number s m p).quotient 25 (.number false 8388608 q) = some (.number (s ^^ false) (2 * ((m <<< B) / 8388608) + ((m <<< B) % 8388608 != 0).toNat) (p - q - (B : Int) - 1)) := by
    rw [hB]; simp [Ieee.Datum.quotient]
  have e1 : m <<< B = m * 2 ^ (B - 23) * 8388608 := by
    rw [Nat.shiftLeft_eq, Nat.mul_assoc, show (8388608 : Nat) = 2 ^ 23 from rfl, ← Nat.pow_add, show B - 23 + 23 = B by omega]
  rw [em, e1, Nat.mul_div_cancel _ (by decide), Nat.mul_mod_left, xor_f, toldD_num]
  refine congrArg (Ieee.single.word s) ?_
  show rungOf Ieee.single (2 * (m * 2 ^ (B - 23)) + 0) _ = _
  have e2 : 2 * (m * 2 ^ (B - 23)) + 0 = m * 2 ^ (B - 22) := by
    rw [show B - 22 = (B - 23) + 1 by omega, Nat.pow_succ, Nat.add_zero, Nat.mul_comm 2, Nat.mul_assoc]
  rw [e2, rung_scale]
  congr 1; omega
theorem cases32 {a : Nat} (h : nanN a = false) : rung32 a < 2139095040 ∨ rung32 a = 2139095040 := by
  rw [nanN_rung] at h
  have h := of_decide_eq_false h
  omega
theorem toldD_none : toldD none = 2143289344 := rfl

theorem half_link (a : Nat) : toldD ((Ieee.single.read a).quotient 25 (Ieee.single.read 1073741824)) = scaleV a (-1) := by
  rw [read_two]
  cases h : nanN a
  · rcases cases32 h with g | g
    · rw [read_fin32 g, quo_power _ (mag_lt32 _)]
      by_cases z : rung32 a = 0
      · rw [scaleV_zero z, z, show mag32 0 = 0 from by decide, rungOf_zero]
      · rw [scaleV_fin z g]
        refine congrArg (Ieee.single.word _) ?_
        congr 1; omega
    · rw [read_inf32 g, scaleV_inf g, show (Ieee.Datum.infinity (sgn32 a)).quotient 25 (.number false 8388608 (-22)) = some (.infinity (sgn32 a ^^ false)) from rfl, toldD_inf, xor_f]
  · obtain ⟨s, t, e⟩ := isNaN_cases (read32_nan h)
    rw [e, scaleV_nan h]; rfl
theorem mulhalf_link (a : Nat) : toldD ((Ieee.single.read a).product (Ieee.single.read 1056964608)) = scaleV a (-1) := by
  rw [read_half]
  cases h : nanN a
  · rcases cases32 h with g | g
    · rw [read_fin32 g, mul_power]
      by_cases z : rung32 a = 0
      · rw [scaleV_zero z, z, show mag32 0 = 0 from by decide, rungOf_zero]
      · rw [scaleV_fin z g]
        refine congrArg (Ieee.single.word _) ?_
        congr 1; omega
    · rw [read_inf32 g, scaleV_inf g, show (Ieee.Datum.infinity (sgn32 a)).product (.number false 8388608 (-24)) = some (.infinity (sgn32 a ^^ false)) from rfl, toldD_inf, xor_f]
  · obtain ⟨s, t, e⟩ := isNaN_cases (read32_nan h)
    rw [e, scaleV_nan h]; rfl
theorem mul_one {a : Nat} (ha : a < 4294967296) : toldD ((Ieee.single.read a).product (Ieee.single.read 1065353216)) = madeN a := by
  rw [read_one32]
  cases h : nanN a
  · rw [madeN_of h]
    rcases cases32 h with g | g
    · rw [read_fin32 g, mul_power, show -149 + (plc32 (rung32 a) : Int) + -23 + 23 = -149 + (plc32 (rung32 a) : Int) by omega, told_self ha g]
    · rw [read_inf32 g, show (Ieee.Datum.infinity (sgn32 a)).product (.number false 8388608 (-23)) = some (.infinity (sgn32 a ^^ false)) from rfl, toldD_inf, xor_f, told_sinf ha g]
  · obtain ⟨s, t, e⟩ := isNaN_cases (read32_nan h)
    rw [e, madeN_nan h]; rfl
theorem div_one {a : Nat} (ha : a < 4294967296) : toldD ((Ieee.single.read a).quotient 25 (Ieee.single.read 1065353216)) = madeN a := by
  rw [read_one32]
  cases h : nanN a
  · rw [madeN_of h]
    rcases cases32 h with g | g
    · rw [read_fin32 g, quo_power _ (mag_lt32 _), show -149 + (plc32 (rung32 a) : Int) - -23 - 23 = -149 + (plc32 (rung32 a) : Int) by omega, told_self ha g]
    · rw [read_inf32 g, show (Ieee.Datum.infinity (sgn32 a)).quotient 25 (.number false 8388608 (-23)) = some (.infinity (sgn32 a ^^ false)) from rfl, toldD_inf, xor_f, told_sinf ha g]
  · obtain ⟨s, t, e⟩ := isNaN_cases (read32_nan h)
    rw [e, madeN_nan h]; rfl
theorem signed_zero (s : Bool) (k : Nat) : Ieee.signed s 0 k = 0 := by unfold Ieee.signed; rw [Nat.shiftLeft_eq, Nat.zero_mul]; cases s <;> rfl
theorem add_minus_fin (s : Bool) (m : Nat) (p : Int) (hp : -1074 ≤ p) : toldD ((Ieee.Datum.number s m p).sum (.number true 0 (-149))) = Ieee.single.word s (rungOf Ieee.single m p) := by
  obtain ⟨N, b, e1, e2⟩ := sum_units s true m 0 p (-149) hp (by decide)
  rw [signed_zero, Int.add_zero] at e1 e2
  rw [e1, toldD_num, e2, signed_abs, rung_scale, show -1074 + (((p + 1074).toNat : Nat) : Int) = p by omega]
  congr 1
  unfold sg
  by_cases h : Ieee.signed s m (p + 1074).toNat = 0
  · rw [if_pos h, Bool.and_true]
  · rw [if_neg h]; exact (signed_sign h).symm
theorem add_nought {a : Nat} (ha : a < 4294967296) : toldD ((Ieee.single.read a).sum (Ieee.single.read 2147483648)) = madeN a := by
  rw [read_minus]
  cases h : nanN a
  · rw [madeN_of h]
    rcases cases32 h with g | g
    · rw [read_fin32 g, add_minus_fin _ _ _ (by omega), told_self ha g]
    · rw [read_inf32 g, show (Ieee.Datum.infinity (sgn32 a)).sum (.number true 0 (-149)) = some (.infinity (sgn32 a)) from rfl, toldD_inf, told_sinf ha g]
  · obtain ⟨s, t, e⟩ := isNaN_cases (read32_nan h)
    rw [e, madeN_nan h]; rfl
theorem sub_nought {a : Nat} (ha : a < 4294967296) : toldD ((Ieee.single.read a).sum (Ieee.single.read 0).opposite) = madeN a := by
  rw [show (Ieee.single.read 0).opposite = Ieee.single.read 2147483648 from by rw [read_plus, read_minus]; rfl, add_nought ha]
theorem nought_sub {a : Nat} (h : nanN a = false) : toldD ((Ieee.single.read 0).sum (Ieee.single.read a).opposite) % 2147483648 = a % 2147483648 := by
  rw [read_plus]
  rcases cases32 h with g | g
  · rw [read_fin32 g]
    obtain ⟨N, b, e1, e2⟩ := sum_units false (!sgn32 a) 0 (mag32 (rung32 a)) (-149) (-149 + (plc32 (rung32 a) : Int)) (by decide) (by omega)
    rw [signed_zero, Int.zero_add] at e1 e2
    show toldD ((Ieee.Datum.number false 0 (-149)).sum (.number (!sgn32 a) (mag32 (rung32 a)) (-149 + (plc32 (rung32 a) : Int)))) % _ = _
    rw [e1, toldD_num, e2, signed_abs, rung_scale, show -1074 + (((-149 + (plc32 (rung32 a) : Int) + 1074).toNat : Nat) : Int) = -149 + (plc32 (rung32 a) : Int) by omega, self32 g]
    exact (sgn_word32 _ (by omega)).2
  · rw [read_inf32 g]
    show toldD (some (.infinity (!sgn32 a))) % _ = _
    rw [toldD_inf]
    have := (sgn_word32 (!sgn32 a) (r := 2139095040) (by decide)).2
    unfold rung32 at this g
    rw [this, g]
theorem narrow_wide {a : Nat} (ha : a < 4294967296) : toldD (some (Ieee.double.read (wideW a))) = madeN a := by
  cases h : nanN a
  · have e0 : wideW a = wideN a := by unfold wideW; rw [h]; rfl
    rw [e0, madeN_of h]
    rcases cases32 h with g | g
    · obtain ⟨r, s, v⟩ := wide_fin g
      have e := val_abs (wideN a)
      rw [v] at e
      unfold sampleZ at e
      rw [signed_abs] at e
      rw [read_fin64 r, toldD_num, rung_word64, ← e, s, rung_scale, show (-1074 : Int) + ((plc32 (rung32 a) + 925 : Nat) : Int) = -149 + (plc32 (rung32 a) : Int) by omega, told_self ha g]
    · rw [wide_read_inf g, toldD_inf, told_sinf ha g]
  · have e0 : wideW a = 9221120237041090560 := by unfold wideW; rw [h]; rfl
    rw [e0, madeN_nan h]; decide +kernel
theorem sum_num_inf (s : Bool) (m : Nat) (p : Int) (t : Bool) : (Ieee.Datum.number s m p).sum (.infinity t) = some (.infinity t) := rfl
theorem fma_one (a b : Nat) : toldD (fmaD a 1065353216 b) = toldD ((Ieee.single.read a).sum (Ieee.single.read b)) := by
  unfold fmaD
  rw [read_one32]
  cases h : nanN a
  · rcases cases32 h with g | g
    · rw [read_fin32 g]
      show toldD ((Ieee.Datum.number (sgn32 a ^^ false) (mag32 (rung32 a) * 8388608) (-149 + (plc32 (rung32 a) : Int) + -23)).sum (Ieee.single.read b)) = _
      rw [xor_f]
      cases hb : nanN b
      · rcases cases32 hb with k | k
        · rw [read_fin32 k]
          obtain ⟨N, c, e1, e2⟩ := sum_units (sgn32 a) (sgn32 b) (mag32 (rung32 a) * 8388608) (mag32 (rung32 b)) (-149 + (plc32 (rung32 a) : Int) + -23) (-149 + (plc32 (rung32 b) : Int)) (by omega) (by omega)
          obtain ⟨N', c', f1, f2⟩ := sum_units (sgn32 a) (sgn32 b) (mag32 (rung32 a)) (mag32 (rung32 b)) (-149 + (plc32 (rung32 a) : Int)) (-149 + (plc32 (rung32 b) : Int)) (by omega) (by omega)
          have ez : Ieee.signed (sgn32 a) (mag32 (rung32 a) * 8388608) (-149 + (plc32 (rung32 a) : Int) + -23 + 1074).toNat = Ieee.signed (sgn32 a) (mag32 (rung32 a)) (-149 + (plc32 (rung32 a) : Int) + 1074).toNat := by
            unfold Ieee.signed
            rw [Nat.shiftLeft_eq, Nat.shiftLeft_eq, Nat.mul_assoc, show (8388608 : Nat) = 2 ^ 23 from rfl, ← Nat.pow_add, show 23 + (-149 + (plc32 (rung32 a) : Int) + -23 + 1074).toNat = (-149 + (plc32 (rung32 a) : Int) + 1074).toNat by omega]
          rw [ez] at e1 e2
          rw [e1, f1, toldD_num, toldD_num, e2, f2]
        · rw [read_inf32 k, sum_num_inf, sum_num_inf]
      · rw [sum_nan2 (read32_nan hb), sum_nan2 (read32_nan hb)]
    · rw [read_inf32 g]
      show toldD ((Ieee.Datum.infinity (sgn32 a ^^ false)).sum (Ieee.single.read b)) = _
      rw [xor_f]
  · rw [product_nan1 (read32_nan h), sum_nan1 (read32_nan h)]; rfl
theorem fma_nought {a b : Nat} (hp : toldD ((Ieee.single.read a).product (Ieee.single.read b)) % 2147483648 ≠ 0) : toldD (fmaD a b 2147483648) = toldD ((Ieee.single.read a).product (Ieee.single.read b)) := by
  unfold fmaD
  rw [read_minus]
  cases hd : (Ieee.single.read a).product (Ieee.single.read b) with
  | none => rfl
  | some d =>
    rw [hd] at hp
    show toldD (d.sum (.number true 0 (-149))) = _
    cases d with
    | nan s t => exact absurd (product_num hd) (by simp [Ieee.Datum.isNaN])
    | infinity s => rfl
    | number s m p =>
      have hpl : -1074 ≤ p := by
        cases ha : nanN a
        · cases hb : nanN b
          · rcases cases32 ha with g | g
            · rcases cases32 hb with k | k
              · rw [read_fin32 g, read_fin32 k] at hd
                have hd : some (Ieee.Datum.number (sgn32 a ^^ sgn32 b) (mag32 (rung32 a) * mag32 (rung32 b)) (-149 + (plc32 (rung32 a) : Int) + (-149 + (plc32 (rung32 b) : Int)))) = some (.number s m p) := hd
                injection hd with hd
                injection hd with h1 h2 h3
                omega
              · rw [read_fin32 g, read_inf32 k] at hd
                have hd : (if mag32 (rung32 a) = 0 then none else some (Ieee.Datum.infinity (sgn32 b ^^ sgn32 a))) = some (.number s m p) := hd
                split at hd
                · cases hd
                · injection hd with hd; cases hd
            · rcases cases32 hb with k | k
              · rw [read_inf32 g, read_fin32 k] at hd
                have hd : (if mag32 (rung32 b) = 0 then none else some (Ieee.Datum.infinity (sgn32 a ^^ sgn32 b))) = some (.number s m p) := hd
                split at hd
                · cases hd
                · injection hd with hd; cases hd
              · rw [read_inf32 g, read_inf32 k] at hd
                have hd : some (Ieee.Datum.infinity (sgn32 a ^^ sgn32 b)) = some (.number s m p) := hd
                injection hd with hd; cases hd
          · rw [product_nan2 (read32_nan hb)] at hd; cases hd
        · rw [product_nan1 (read32_nan ha)] at hd; cases hd
      rw [add_minus_fin _ _ _ hpl, toldD_num]
end Go.Proofs.Ytdbbpmadkhedlaa
/- One sample with whole weights, summed in binary64 (as in SWhB, over the program's side alone). -/
namespace Go.Proofs.Ytdbbpmadkhedlaa
open Go.RowKit
set_option linter.unusedVariables false
set_option linter.unusedSimpArgs false

theorem read_weightq {y : Int} (h0 : y ≤ 268435456) (h1 : -268435456 ≤ y) : ∃ j : Nat, ∃ p : Int, Ieee.double.read (floatOfInt .f64 y) = .number (decide (y < 0)) (y.natAbs * 2 ^ j) p ∧ (y ≠ 0 → p = -(j : Int)) := by
  by_cases hy : y = 0
  · subst hy
    exact ⟨0, -1074, by decide +kernel, fun h => absurd rfl h⟩
  · have hne : y.natAbs ≠ 0 := by omega
    have a0 := Nat.log2_self_le hne
    have a1 : y.natAbs < 2 ^ (y.natAbs.log2 + 1) := Nat.lt_log2_self
    have aL : y.natAbs.log2 ≤ 52 := by
      have := (Nat.log2_lt hne).2 (Nat.lt_of_le_of_lt (show y.natAbs ≤ 268435456 by omega) (show 268435456 < 2 ^ 53 by decide))
      omega
    have e1 : floatOfInt .f64 y = Ieee.double.nearest (decide (y < 0)) y.natAbs 0 := rfl
    generalize y.natAbs.log2 = M at *
    have e2 := nearest_exact (neg := decide (y < 0)) (k := 0) (p := 0) a0 a1 aL (by omega) (by omega)
    rw [Nat.pow_zero, Nat.mul_one] at e2
    have b1 : y.natAbs * 2 ^ (52 - M) < 9007199254740992 := by
      have := Nat.mul_lt_mul_of_pos_right a1 (Nat.two_pow_pos (52 - M))
      rw [← Nat.pow_add, show M + 1 + (52 - M) = 53 by omega] at this
      exact this
    have b0 : 4503599627370496 ≤ y.natAbs * 2 ^ (52 - M) := by
      have := Nat.mul_le_mul_right (2 ^ (52 - M)) a0
      rw [← Nat.pow_add, show M + (52 - M) = 52 by omega] at this
      exact this
    refine ⟨52 - M, 0 + ((0 : Nat) : Int) + M - 52, ?_, fun _ => by omega⟩
    rw [e1, e2, read_wd b0 b1 (by omega) (by omega)]
theorem wideW_casesq (a : Nat) : (nanN a = true ∧ (Ieee.double.read (wideW a)).isNaN = true) ∨ (rung32 a = 2139095040 ∧ Ieee.double.read (wideW a) = .infinity (sgn32 a)) ∨
    (rung32 a < 2139095040 ∧ wideW a = wideN a ∧ ∃ M P, Ieee.double.read (wideW a) = .number (sgn32 a) M P ∧ -1074 ≤ P ∧ Ieee.signed (sgn32 a) M (P + 1074).toNat = sampleZ a) := by
  cases h : nanN a
  · have e : wideW a = wideN a := by unfold wideW; rw [h]; rfl
    have h' := h
    rw [nanN_rung] at h'
    have h' := of_decide_eq_false h'
    rcases Nat.lt_or_ge (rung32 a) 2139095040 with g | g
    · obtain ⟨r, s, v⟩ := wide_fin g
      refine Or.inr (Or.inr ⟨g, e, _, _, by rw [e, read_fin64 r, s], by omega, ?_⟩)
      rw [← s, signed_read, v]
    · exact Or.inr (Or.inl ⟨by omega, by rw [e]; exact wide_read_inf (by omega)⟩)
  · have e : wideW a = 9221120237041090560 := by unfold wideW; rw [h]; rfl
    exact Or.inl ⟨rfl, by rw [e]; decide⟩
theorem signed_eqq (s : Bool) (m k : Nat) : Ieee.signed s m k = if s = true then -((m * 2 ^ k : Nat) : Int) else ((m * 2 ^ k : Nat) : Int) := by
  unfold Ieee.signed; rw [Nat.shiftLeft_eq]

theorem quo_power64q (s : Bool) {m : Nat} (hm : m < 9007199254740992) (p q : Int) : ((Ieee.Datum.number s m p).quotient 54 (.number false 4503599627370496 q)).map Ieee.double.write = some (Ieee.double.word s (rungOf Ieee.double m (p - q - 52))) := by
  have hl2 : (4503599627370496 : Nat).log2 = 52 := by decide
  have hl : m.log2 ≤ 52 := by
    by_cases h0 : m = 0
    · subst h0; decide
    · have := (Nat.log2_lt h0).2 (show m < 2 ^ 53 from hm); omega
  obtain ⟨B, hB⟩ : ∃ B, B = 54 + (4503599627370496 : Nat).log2 - m.log2 := ⟨_, rfl⟩
  have hB1 : 54 ≤ B := by omega
  have em : (Ieee.Datum.number s m p).quotient 54 (.number false 4503599627370496 q) = some (.number (s ^^ false) (2 * ((m <<< B) / 4503599627370496) + ((m <<< B) % 4503599627370496 != 0).toNat) (p - q - (B : Int) - 1)) := by
    rw [hB]; simp [Ieee.Datum.quotient]
  have e1 : m <<< B = m * 2 ^ (B - 52) * 4503599627370496 := by
    rw [Nat.shiftLeft_eq, Nat.mul_assoc, show (4503599627370496 : Nat) = 2 ^ 52 from rfl, ← Nat.pow_add, show B - 52 + 52 = B by omega]
  rw [em, e1, Nat.mul_div_cancel _ (by decide), Nat.mul_mod_left, xor_f]
  show some (Ieee.double.nearest s (2 * (m * 2 ^ (B - 52)) + 0) (p - q - (B : Int) - 1)) = _
  rw [nearest_rung]
  refine congrArg (fun r => some (Ieee.double.word s r)) ?_
  have e2 : 2 * (m * 2 ^ (B - 52)) + 0 = m * 2 ^ (B - 51) := by
    rw [show B - 51 = (B - 52) + 1 by omega, Nat.pow_succ, Nat.add_zero, Nat.mul_comm 2, Nat.mul_assoc]
  rw [e2, rung_scale]
  congr 1; omega
theorem read_65536q : Ieee.double.read 4679240012837945344 = .number false 4503599627370496 (-36) := by decide +kernel
def sizeLq (L : List Int) : Nat := (L.map Int.natAbs).sum
theorem sizeL_consq (v : Int) (t : List Int) : sizeLq (v :: t) = v.natAbs + sizeLq t := by simp [sizeLq]
theorem X_formq {x : Nat} (h : rung32 x < 2139095040) : ∃ m g, (sampleZ x).natAbs = m * 2 ^ g ∧ m < 2 ^ 24 ∧ g ≤ 1178 :=
  ⟨mag32 (rung32 x), plc32 (rung32 x) + 925, signed_abs _ _ _, mag_lt32 _, by have := plc_le32 h; omega⟩
/-- A word of binary64 that is worth k times a sample's X. -/
def IsDq (X k : Int) (W : Nat) : Prop := W < 18446744073709551616 ∧ rung64 W = rungOf Ieee.double (k * X).natAbs (-1074) ∧ (k * X ≠ 0 → sgn64 W = decide (k * X < 0))
theorem word_lt64q (s : Bool) (r : Nat) (h : r ≤ 9218868437227405312) : Ieee.double.word s r < 18446744073709551616 := by
  unfold Ieee.Format.word
  rw [show Ieee.double.signWeight = 9223372036854775808 by decide]
  cases s <;> simp <;> omega
theorem rung_le64'q (M : Nat) (p : Int) : rungOf Ieee.double M p ≤ 9218868437227405312 := rungOf_le _ _ _
theorem IsDq.mk {X k : Int} {s : Bool} (h : k * X ≠ 0 → s = decide (k * X < 0)) : IsDq X k (Ieee.double.word s (rungOf Ieee.double (k * X).natAbs (-1074))) := by
  have hr := rung_le64'q (k * X).natAbs (-1074)
  obtain ⟨h1, h2⟩ := sgn_word64 s (r := rungOf Ieee.double (k * X).natAbs (-1074)) (by omega)
  exact ⟨word_lt64q _ _ hr, h2, fun g => by rw [h1]; exact h g⟩
theorem kX_valq {X k : Int} {m g : Nat} (hX : X.natAbs = m * 2 ^ g) (hm : m < 2 ^ 24) (hg : g ≤ 1178) (hk : k.natAbs ≤ 2 ^ 28) : val64 (rungOf Ieee.double (k * X).natAbs (-1074)) = (k * X).natAbs ∧ rungOf Ieee.double (k * X).natAbs (-1074) < 9218868437227405312 := by
  have e : (k * X).natAbs = k.natAbs * m * 2 ^ g := by rw [Int.natAbs_mul, hX, Nat.mul_assoc]
  have hkm : k.natAbs * m < 2 ^ 53 := Nat.lt_of_le_of_lt (Nat.mul_le_mul hk (Nat.le_of_lt hm)) (by decide)
  have hb : (k * X).natAbs < 2 ^ (53 + g) := by rw [e, Nat.pow_add]; exact Nat.mul_lt_mul_of_pos_right hkm (Nat.two_pow_pos g)
  have hlog : (k * X).natAbs.log2 ≤ 2000 := by
    by_cases h0 : (k * X).natAbs = 0
    · rw [h0]; decide
    · have := (Nat.log2_lt h0).2 hb; omega
  have hv := vN_exact (M := (k * X).natAbs) (g := g) hlog ⟨k.natAbs * m, by rw [e, Nat.mul_comm]⟩ hb
  refine ⟨hv, ?_⟩
  refine val_inj_lt64.1 ?_
  rw [hv]
  refine Nat.lt_of_lt_of_le hb ?_
  show 2 ^ (53 + g) ≤ mag64 9218868437227405312 * 2 ^ plc64 9218868437227405312
  obtain ⟨P, hP, hP2⟩ : ∃ P, plc64 9218868437227405312 = P ∧ 2046 ≤ P := ⟨_, rfl, by decide⟩
  rw [show mag64 9218868437227405312 = 2 ^ 52 by decide, hP, ← Nat.pow_add]
  exact Nat.pow_le_pow_right (by decide) (by omega)
theorem IsDq.sval {X k : Int} {W m g : Nat} (h : IsDq X k W) (hX : X.natAbs = m * 2 ^ g) (hm : m < 2 ^ 24) (hg : g ≤ 1178) (hk : k.natAbs ≤ 2 ^ 28) : rung64 W < 9218868437227405312 ∧ sval64 W = k * X := by
  obtain ⟨hv, hr⟩ := kX_valq hX hm hg hk
  obtain ⟨_, h1, h2⟩ := h
  rw [← h1] at hv hr
  refine ⟨hr, ?_⟩
  unfold sval64
  rw [hv]
  by_cases h0 : k * X = 0
  · rw [h0]; simp
  · rw [h2 h0]
    by_cases hn : k * X < 0
    · rw [if_pos (decide_eq_true hn)]; omega
    · rw [if_neg (by simpa using hn)]; omega
theorem sval_signed64q (a : Nat) : sval64 a = Ieee.signed (sgn64 a) (mag64 (rung64 a)) (plc64 (rung64 a)) := by
  unfold sval64 val64; rw [signed_eqq]
theorem told64_numq (s : Bool) (N : Nat) (b : Int) : told64 (some (.number s N b)) = Ieee.double.word s (rungOf Ieee.double N b) := nearest_rung _ _ _ _
theorem IsDq.add {X a b : Int} {A B m g : Nat} (hA : IsDq X a A) (hB : IsDq X b B) (hX : X.natAbs = m * 2 ^ g) (hm : m < 2 ^ 24) (hg : g ≤ 1178) (ha : a.natAbs ≤ 2 ^ 28) (hb : b.natAbs ≤ 2 ^ 28) : IsDq X (a + b) (add64V A B) := by
  obtain ⟨a1, a2⟩ := hA.sval hX hm hg ha
  obtain ⟨b1, b2⟩ := hB.sval hX hm hg hb
  unfold add64V
  rw [read_fin64 a1, read_fin64 b1]
  obtain ⟨N, c, e1, e2⟩ := sum_units (sgn64 A) (sgn64 B) (mag64 (rung64 A)) (mag64 (rung64 B)) (-1074 + (plc64 (rung64 A) : Int)) (-1074 + (plc64 (rung64 B) : Int)) (by omega) (by omega)
  rw [show (-1074 + (plc64 (rung64 A) : Int) + 1074).toNat = plc64 (rung64 A) by omega, show (-1074 + (plc64 (rung64 B) : Int) + 1074).toNat = plc64 (rung64 B) by omega, ← sval_signed64q, ← sval_signed64q, a2, b2, ← Int.add_mul] at e1 e2
  rw [e1, told64_numq, e2]
  exact IsDq.mk fun h => sg_of h
theorem IsDq.nought (X : Int) : IsDq X 0 9223372036854775808 := by
  refine ⟨by decide, ?_, fun h => absurd (Int.zero_mul X) h⟩
  rw [Int.zero_mul]
  show _ = rungOf Ieee.double 0 (-1074)
  rw [rungOf_zero]
  decide
theorem IsDq.prod {x : Nat} (h : rung32 x < 2139095040) {y : Int} (h0 : y ≤ 268435456) (h1 : -268435456 ≤ y) : IsDq (sampleZ x) y (prodV y x) := by
  obtain ⟨j, p, hr, hp⟩ := read_weightq h0 h1
  rcases wideW_casesq x with ⟨hn, _⟩ | ⟨hi, _⟩ | ⟨_, _, M, P, hw, hP, hs⟩
  · rw [nanN_rung] at hn; have := of_decide_eq_true hn; omega
  · omega
  · unfold prodV
    rw [hr, hw]
    have he : (Ieee.Datum.number (decide (y < 0)) (y.natAbs * 2 ^ j) p).product (.number (sgn32 x) M P) = some (.number (decide (y < 0) ^^ sgn32 x) (y.natAbs * 2 ^ j * M) (p + P)) := rfl
    rw [he, told64_numq]
    have hX : (sampleZ x).natAbs = M * 2 ^ (P + 1074).toNat := by rw [← hs]; exact signed_abs _ _ _
    have hrung : rungOf Ieee.double (y.natAbs * 2 ^ j * M) (p + P) = rungOf Ieee.double (y * sampleZ x).natAbs (-1074) := by
      rw [Int.natAbs_mul, hX]
      by_cases hy : y = 0
      · subst hy; simp [rungOf_zero]
      · rw [hp hy, show y.natAbs * 2 ^ j * M = y.natAbs * M * 2 ^ j by rw [Nat.mul_assoc, Nat.mul_comm (2 ^ j), ← Nat.mul_assoc], rung_scale, ← Nat.mul_assoc, rung_scale]
        congr 1
        omega
    rw [hrung]
    refine IsDq.mk fun hne => ?_
    have hs0 : sampleZ x ≠ 0 := fun e => hne (by rw [e, Int.mul_zero])
    have hy0 : y ≠ 0 := fun e => hne (by rw [e, Int.zero_mul])
    have hsx : sgn32 x = decide (sampleZ x < 0) := signed_sign (s := sgn32 x) (m := mag32 (rung32 x)) (k := plc32 (rung32 x) + 925) hs0
    rw [hsx]
    generalize sampleZ x = X at *
    rcases Int.lt_trichotomy y 0 with g | g | g
    · rcases Int.lt_trichotomy X 0 with k | k | k
      · have := Int.mul_pos_of_neg_of_neg g k
        rw [decide_eq_true g, decide_eq_true k, decide_eq_false (by omega)]; rfl
      · exact absurd k hs0
      · have := Int.mul_neg_of_neg_of_pos g k
        rw [decide_eq_true g, decide_eq_false (by omega), decide_eq_true this]; rfl
    · exact absurd g hy0
    · rcases Int.lt_trichotomy X 0 with k | k | k
      · have := Int.mul_neg_of_pos_of_neg g k
        rw [decide_eq_false (by omega), decide_eq_true k, decide_eq_true this]; rfl
      · exact absurd k hs0
      · have := Int.mul_pos g k
        rw [decide_eq_false (by omega), decide_eq_false (by omega), decide_eq_false (by omega)]; rfl
theorem IsDq.same {X k : Int} {A B : Nat} (hA : IsDq X k A) (hB : IsDq X k B) : A = B ∨ (A % 9223372036854775808 = 0 ∧ B % 9223372036854775808 = 0) := by
  obtain ⟨a0, a1, a2⟩ := hA
  obtain ⟨b0, b1, b2⟩ := hB
  have hr : A % 9223372036854775808 = B % 9223372036854775808 := a1.trans b1.symm
  by_cases h : k * X = 0
  · right
    rw [h, show (0 : Int).natAbs = 0 from rfl, rungOf_zero] at a1 b1
    exact ⟨a1, b1⟩
  · left
    have hs := (a2 h).trans (b2 h).symm
    unfold sgn64 at hs
    have hA2 : A / 9223372036854775808 % 2 = A / 9223372036854775808 := by omega
    have hB2 : B / 9223372036854775808 % 2 = B / 9223372036854775808 := by omega
    rw [hA2, hB2] at hs
    have : A / 9223372036854775808 = B / 9223372036854775808 := by
      have hA3 : A / 9223372036854775808 = 0 ∨ A / 9223372036854775808 = 1 := by omega
      have hB3 : B / 9223372036854775808 = 0 ∨ B / 9223372036854775808 = 1 := by omega
      rcases hA3 with e | e <;> rcases hB3 with f | f <;> rw [e, f] at hs ⊢ <;> first | rfl | (exact absurd hs (by decide))
    omega
theorem fold_Dq {X : Int} {m g : Nat} (hX : X.natAbs = m * 2 ^ g) (hm : m < 2 ^ 24) (hg : g ≤ 1178) : ∀ (l : List (Int × Nat)) (z : Int) (A : Nat), IsDq X z A → (∀ p ∈ l, IsDq X p.1 p.2) → z.natAbs + sizeLq (l.map Prod.fst) ≤ 2 ^ 28 → IsDq X (z + (l.map Prod.fst).sum) ((l.map Prod.snd).foldl add64V A)
  | [], z, A, hA, _, _ => by simpa using hA
  | p :: t, z, A, hA, hl, hs => by
    rw [List.map_cons, sizeL_consq] at hs
    rw [List.map_cons, List.map_cons, List.foldl_cons, List.sum_cons, ← Int.add_assoc]
    exact fold_Dq hX hm hg t (z + p.1) _ (hA.add (hl p (List.mem_cons_self ..)) hX hm hg (by omega) (by omega)) (fun q hq => hl q (List.mem_cons_of_mem _ hq)) (by omega)
theorem dot_Dq {x : Nat} (hx : rung32 x < 2139095040) {W : List Int} (hs : sizeLq W ≤ 2 ^ 28) (hb : ∀ y ∈ W, y.natAbs ≤ 268435456) : IsDq (sampleZ x) W.sum (dotF (prods W (List.replicate W.length x))) := by
  obtain ⟨m, g, h1, h2, h3⟩ := X_formq hx
  have e : prods W (List.replicate W.length x) = W.map fun y => prodV y x := by
    refine List.ext_getElem? fun i => ?_
    rcases Nat.lt_or_ge i W.length with h | h
    · have hp := prods_at W (List.replicate W.length x) (i := i) (by simp; exact h)
      have hl : i < (prods W (List.replicate W.length x)).length := by rw [prods_length]; simp; exact h
      rw [List.getD_eq_getElem?_getD, List.getElem?_eq_getElem hl] at hp
      rw [List.getElem?_eq_getElem hl, List.getElem?_map, List.getElem?_eq_getElem h]
      simp only [Option.getD_some, Option.map_some] at hp ⊢
      rw [hp, List.getD_eq_getElem?_getD, List.getElem?_eq_getElem h, List.getD_eq_getElem?_getD, List.getElem?_replicate, if_pos h]
      rfl
    · rw [List.getElem?_eq_none (by rw [prods_length]; simp; exact h), List.getElem?_eq_none (by simp; exact h)]
  rw [e]
  unfold dotF
  cases W with
  | nil =>
    rw [if_pos (show List.map (fun y => prodV y x) [] = [] from rfl)]
    refine ⟨by decide, ?_, fun h => absurd (Int.zero_mul _) h⟩
    show rung64 0 = rungOf Ieee.double (0 * sampleZ x).natAbs (-1074)
    rw [Int.zero_mul, show (0 : Int).natAbs = 0 from rfl, rungOf_zero]
    decide
  | cons y t =>
    rw [if_neg (by simp)]
    have := fold_Dq h1 h2 h3 ((y :: t).map fun y => (y, prodV y x)) 0 9223372036854775808 (IsDq.nought _) (fun p hp => by
      obtain ⟨z, hz, rfl⟩ := List.mem_map.1 hp
      have := hb z hz
      exact IsDq.prod hx (by omega) (by omega)) (by rw [List.map_map]; show 0 + sizeLq ((y :: t).map fun z => z) ≤ _; rw [List.map_id', Nat.zero_add]; exact hs)
    rw [List.map_map, List.map_map, Int.zero_add] at this
    have e1 : (y :: t).map (Prod.fst ∘ fun y => (y, prodV y x)) = y :: t := by
      show (y :: t).map (fun z => z) = _
      exact List.map_id' _
    rw [e1] at this
    exact this
end Go.Proofs.Ytdbbpmadkhedlaa
/- A region that draws its order: operations that come up in whatever order, each with a fact that lasts (it may speak of what those told that it waits for); blocks that are made lie apart. -/
namespace Go.Proofs.Ytdbbpmadkhedlaa
open Go.RowKit
set_option linter.unusedVariables false
set_option linter.unusedSimpArgs false

/-- The block that a slice or a pointer is at. -/
def blkV : Value → Nat
  | .slice (some a) _ _ => a.block
  | .pointer (some a) => a.block
  | _ => 0
/-- What is told of a value, where others (deps) may be named. -/
structure Sp2 where
  p : Value → (Nat → Value) → World → Prop
  deps : List Nat
  st : ∀ {v : Value} {val val' : Nat → Value} {x x' : World}, p v val x → Q x x' → (∀ j ∈ deps, val' j = val j) → p v val' x'
def sV (u : Value) : Sp2 := ⟨fun v _ _ => v = u, [], fun h _ _ => h⟩
def sE (j : Nat) : Sp2 := ⟨fun v val _ => v = val j, [j], fun h _ e => h.trans (e j (by simp)).symm⟩
def sP (p : Value → World → Prop) (st : ∀ v x x', p v x → Q x x' → p v x') : Sp2 := ⟨fun v _ x => p v x, [], fun h q _ => st _ _ _ h q⟩
/-- Each operation fills a slot, is not guarded, and what is told of it names what it waits for. -/
def newB (l : List Oper) (D : List (List Nat)) (s : List Nat) : Bool := (D.length == l.length) && ((s.length == l.length) && (List.range l.length).all fun k => match l[k]? with
  | some o => o.guard.isNone && ((o.dst == s[k]?) && (D.getD k []).all fun j => decide (j < k) && o.after.toList.any fun e => Region.binds .any e && (e.on == j))
  | none => true)
structure InvN (l : List Oper) (L : List Sp2) (A : List Nat) (w : World) (done : Nat → Bool) (val : Nat → Value) (x : World) : Prop where
  q : Q w x
  f : ∀ i s, L[i]? = some s → done i = true → s.p (val i) val x
  lt : ∀ i, i ∈ A → done i = true → blkV (val i) < x.heap.size
  ap : ∀ i j, i ∈ A → j ∈ A → i ≠ j → done i = true → done j = true → blkV (val i) ≠ blkV (val j)
  cl : ∀ i o, l[i]? = some o → done i = true → ∀ e ∈ o.after, Region.binds .any e = true → done e.on = true
set_option maxHeartbeats 1000000 in
theorem wp_region_new {P : Program} {id : Nat} {R : Exit → Act → World → Prop} {a0 : Act} {w : World} {l : List Oper} (s : List Nat) (L : List Sp2) (D : List (List Nat)) (A : List Nat)
    (hm : P.follows .mixedOrders = true) (hB : regS l = true) (hN : newB l D s = true) (hD : L.map (·.deps) = D) (hmax : ∀ t ∈ s, t < a0.tmps.size)
    (hop : ∀ i t o sp (a : Act) x (val : Nat → Value), s[i]? = some t → l[i]? = some o → L[i]? = some sp → Q w x → (∀ j, j ∉ s → a.tmps[j]? = a0.tmps[j]?) → (∀ e ∈ o.after, Region.binds .any e = true → ∀ s' t', L[e.on]? = some s' → s[e.on]? = some t' → a.tmps[t']? = some (val e.on) ∧ s'.p (val e.on) val x) →
      Yld P R o a x t (fun v x' => sp.p v val x' ∧ (i ∈ A → x.heap.size ≤ blkV v ∧ blkV v < x'.heap.size)))
    (hend : ∀ (a : Act) x (val : Nat → Value), Q w x → a.tmps.size = a0.tmps.size → a.defers = a0.defers → (∀ j, j ∉ s → a.tmps[j]? = a0.tmps[j]?) → (∀ i t sp, s[i]? = some t → L[i]? = some sp → a.tmps[t]? = some (val i) ∧ sp.p (val i) val x) → (∀ i j, i ∈ A → j ∈ A → i < l.length → j < l.length → i ≠ j → blkV (val i) ≠ blkV (val j)) → Shut (R .normal a x)) :
    (Code.region id l.toArray true).wp P R a0 w := by
  unfold newB at hN
  simp only [Bool.and_eq_true, beq_iff_eq] at hN
  obtain ⟨hDl, hsl, hall⟩ := hN
  have hLl : L.length = l.length := by rw [← hDl, ← hD]; simp
  have at_ : ∀ k o, l[k]? = some o → o.guard = none ∧ o.dst = s[k]? ∧ ∀ j ∈ D.getD k [], j < k ∧ ∃ e ∈ o.after, Region.binds .any e = true ∧ e.on = j := fun k o hk => by
    have g := List.all_eq_true.1 hall k (List.mem_range.2 (List.getElem?_eq_some_iff.1 hk).1)
    rw [hk] at g
    simp only [Bool.and_eq_true, beq_iff_eq] at g
    refine ⟨by simpa using g.1, g.2.1, fun j hj => ?_⟩
    have h := List.all_eq_true.1 g.2.2 j hj
    rw [Bool.and_eq_true] at h
    obtain ⟨e, he, hb⟩ := List.any_eq_true.1 h.2
    rw [Bool.and_eq_true] at hb
    exact ⟨by simpa using h.1, e, by simpa using he, hb.1, by simpa using hb.2⟩
  have dst_s : ∀ k t, dstOf l k = some t ↔ s[k]? = some t := fun k t => by
    cases hk : l[k]? with
    | none =>
      have : l.length ≤ k := by
        rcases Nat.lt_or_ge k l.length with c | c
        · rw [List.getElem?_eq_getElem c] at hk; cases hk
        · exact c
      rw [List.getElem?_eq_none (by omega)]
      unfold dstOf
      rw [hk]
      exact Iff.rfl
    | some o => rw [dstOf_at hk, (at_ k o hk).2.1]
  have mem_s : ∀ j, (∀ k, dstOf l k ≠ some j) ↔ j ∉ s := fun j => by
    constructor
    · intro h hm
      obtain ⟨k, hk⟩ := List.getElem?_of_mem hm
      exact h k ((dst_s k j).2 hk)
    · intro h k e
      exact h (List.mem_of_getElem? ((dst_s k j).1 e))
  have depsD : ∀ k sp, L[k]? = some sp → sp.deps = D.getD k [] := fun k sp hk => by
    rw [← hD, List.getD_eq_getElem?_getD, List.getElem?_map, hk]; rfl
  refine wp_region_slots (InvN l L A w) hm hB (fun i t h => hmax t (List.mem_of_getElem? ((dst_s i t).1 h))) ⟨(Q.refl w).drew, fun _ _ _ h => (by cases h), fun _ _ h => (by cases h), fun _ _ _ _ _ h => (by cases h), fun _ _ _ h => (by cases h)⟩ ?_ ?_ ?_
  · intro i o a x done val ho hd hdep I oth vals _
    have hil : i < l.length := (List.getElem?_eq_some_iff.1 ho).1
    obtain ⟨sp, hsp⟩ : ∃ sp, L[i]? = some sp := ⟨_, List.getElem?_eq_getElem (by omega)⟩
    obtain ⟨t, ht⟩ : ∃ t, s[i]? = some t := ⟨_, List.getElem?_eq_getElem (by omega)⟩
    obtain ⟨hg, hdst, hdp⟩ := at_ i o ho
    have hrun := hop i t o sp a x val ht ho hsp I.q (fun j hj => oth j ((mem_s j).2 hj)) (fun e he hb s' t' hs' ht' => ⟨vals e.on t' (hdep e he hb) ((dst_s _ _).2 ht'), I.f e.on s' hs' (hdep e he hb)⟩)
    refine ⟨Oper.wp_mono ?_ hrun.out⟩
    rintro a' x' ⟨v, rfl, q', hf, hfA⟩
    refine ⟨v, by rw [hdst, ht], I.q.trans q', fun j sj hsj hdj => ?_, fun j hj hdj => ?_, fun j k hj hk hjk hdj hdk => ?_, fun j o' ho' hdj e he hb => ?_⟩
    · by_cases e : j = i
      · subst e
        rw [hsp] at hsj
        injection hsj with hsj
        subst hsj
        rw [upd_eq]
        refine sp.st hf (Q.refl x') (fun k hk => upd_ne _ _ ?_)
        rw [depsD j sp hsp] at hk
        have := (hdp k hk).1
        omega
      · rw [upd_ne _ _ e] at hdj ⊢
        refine sj.st (I.f j sj hsj hdj) q' (fun k hk => upd_ne _ _ ?_)
        rw [depsD j sj hsj] at hk
        have hjl : j < l.length := by have := (List.getElem?_eq_some_iff.1 hsj).1; omega
        obtain ⟨_, e2, he2, hb2, hk2⟩ := (at_ j _ (List.getElem?_eq_getElem hjl)).2.2 k hk
        have := I.cl j _ (List.getElem?_eq_getElem hjl) hdj e2 he2 hb2
        intro ek
        rw [hk2, ek, hd] at this
        cases this
    · by_cases e : j = i
      · subst e; rw [upd_eq]; exact (hfA hj).2
      · rw [upd_ne _ _ e] at hdj ⊢
        have := I.lt j hj hdj
        have := q'.1.size
        omega
    · by_cases e : j = i
      · subst e
        have ek : k ≠ j := fun h => hjk h.symm
        rw [upd_eq, upd_ne _ _ ek]
        rw [upd_ne _ _ ek] at hdk
        have := I.lt k hk hdk
        have := (hfA hj).1
        omega
      · rw [upd_ne _ _ e] at hdj ⊢
        by_cases ek : k = i
        · subst ek
          rw [upd_eq]
          have := I.lt j hj hdj
          have := (hfA hk).1
          omega
        · rw [upd_ne _ _ ek] at hdk ⊢
          exact I.ap j k hj hk hjk hdj hdk
    · by_cases ee : e.on = i
      · rw [ee, upd_eq]
      · rw [upd_ne _ _ ee]
        by_cases ej : j = i
        · subst ej
          rw [ho] at ho'
          injection ho' with ho'
          subst ho'
          exact hdep e he hb
        · rw [upd_ne _ _ ej] at hdj
          exact I.cl j o' ho' hdj e he hb
  · intro i o x done val g b ho _ _ _ hg _
    rw [(at_ i o ho).1] at hg
    cases hg
  · intro a x val I size defers other facts
    refine hend a x val I.q size defers (fun j hj => other j ((mem_s j).2 hj)) (fun i t sp ht hsp => ⟨facts i t ((dst_s i t).2 ht), I.f i sp hsp (decide_eq_true (by have := (List.getElem?_eq_some_iff.1 hsp).1; omega))⟩) (fun i j hi hj hil hjl hij => I.ap i j hi hj hij (decide_eq_true hil) (decide_eq_true hjl))
end Go.Proofs.Ytdbbpmadkhedlaa
/- A region that draws its order: first operations that come up in whatever order, each with a fact that lasts (RegN's), blocks apart; then others, one behind the other. -/
namespace Go.Proofs.Ytdbbpmadkhedlaa
open Go.RowKit
set_option linter.unusedVariables false
set_option linter.unusedSimpArgs false

/-- Each of the first n operations fills a slot, and what is told of it names what it waits for. -/
def newBP (l : List Oper) (n : Nat) (D : List (List Nat)) (s : List Nat) : Bool := (D.length == n) && ((s.length == n) && ((decide (n ≤ l.length)) && (List.range n).all fun k => match l[k]? with
  | some o => (o.dst == s[k]?) && (D.getD k []).all fun j => decide (j < k) && o.after.toList.any fun e => Region.binds .any e && (e.on == j)
  | none => true))
structure FactsV (L : List Sp2) (A : List Nat) (w : World) (a0 : Act) (s : List Nat) (l : List Oper) (n : Nat) (lst : Array Bool) (a : Act) (x : World) (val : Nat → Value) : Prop where
  size : a.tmps.size = a0.tmps.size
  defers : a.defers = a0.defers
  other : ∀ j, j ∉ s → a.tmps[j]? = a0.tmps[j]?
  q : Q w x
  ls : lst.size = l.length
  post : ∀ k, n ≤ k → k < l.length → lst.getD k true = false
  closed : ∀ (j : Nat) (o : Oper), lst.getD j false = true → l[j]? = some o → ∀ e ∈ o.after, Region.binds .any e = true → lst.getD e.on false = true
  facts : ∀ i t sp, s[i]? = some t → L[i]? = some sp → lst.getD i false = true → a.tmps[t]? = some (val i) ∧ sp.p (val i) val x
  lt : ∀ i, i ∈ A → lst.getD i false = true → blkV (val i) < x.heap.size
  apart : ∀ i j, i ∈ A → j ∈ A → i ≠ j → lst.getD i false = true → lst.getD j false = true → blkV (val i) ≠ blkV (val j)
set_option maxHeartbeats 2000000 in
theorem wp_region_newP {P : Program} {id : Nat} {R : Exit → Act → World → Prop} {a0 : Act} {w : World} {l : List Oper} (n : Nat) (s : List Nat) (L : List Sp2) (D : List (List Nat)) (A : List Nat)
    (hm : P.follows .mixedOrders = true) (hB : regB l n = true) (hN : newBP l n D s = true) (hD : L.map (·.deps) = D) (hd : s.Nodup) (hmax : ∀ t ∈ s, t < a0.tmps.size)
    (hop : ∀ i t o sp (a : Act) x (val : Nat → Value), s[i]? = some t → l[i]? = some o → L[i]? = some sp → Q w x → (∀ j, j ∉ s → a.tmps[j]? = a0.tmps[j]?) → (∀ e ∈ o.after, Region.binds .any e = true → ∀ s' t', L[e.on]? = some s' → s[e.on]? = some t' → a.tmps[t']? = some (val e.on) ∧ s'.p (val e.on) val x) →
      Yld P R o a x t (fun v x' => sp.p v val x' ∧ (i ∈ A → x.heap.size ≤ blkV v ∧ blkV v < x'.heap.size)))
    (hAn : ∀ i ∈ A, i < n)
    (hend : ∀ (a : Act) x (val : Nat → Value), Q w x → a.tmps.size = a0.tmps.size → a.defers = a0.defers → (∀ j, j ∉ s → a.tmps[j]? = a0.tmps[j]?) → (∀ i t sp, s[i]? = some t → L[i]? = some sp → a.tmps[t]? = some (val i) ∧ sp.p (val i) val x) → (∀ i j, i ∈ A → j ∈ A → i ≠ j → blkV (val i) ≠ blkV (val j)) → Shut (wpPost P R (l.drop n) a x)) :
    (Code.region id l.toArray true).wp P R a0 w := by
  have get : ∀ k, l.toArray[k]? = l[k]? := fun k => List.getElem?_toArray
  unfold newBP at hN
  simp only [Bool.and_eq_true, beq_iff_eq, decide_eq_true_eq] at hN
  obtain ⟨hDl, hsl, hnl, hall⟩ := hN
  have hLl : L.length = n := by rw [← hDl, ← hD]; simp
  have at_ : ∀ k o, k < n → l[k]? = some o → o.dst = s[k]? ∧ ∀ j ∈ D.getD k [], j < k ∧ ∃ e ∈ o.after, Region.binds .any e = true ∧ e.on = j := fun k o hkn hk => by
    have g := List.all_eq_true.1 hall k (List.mem_range.2 hkn)
    rw [hk] at g
    simp only [Bool.and_eq_true, beq_iff_eq] at g
    refine ⟨g.1, fun j hj => ?_⟩
    have h := List.all_eq_true.1 g.2 j hj
    rw [Bool.and_eq_true] at h
    obtain ⟨e, he, hb⟩ := List.any_eq_true.1 h.2
    rw [Bool.and_eq_true] at hb
    exact ⟨by simpa using h.1, e, by simpa using he, hb.1, by simpa using hb.2⟩
  have depsD : ∀ k sp, L[k]? = some sp → sp.deps = D.getD k [] := fun k sp hk => by
    rw [← hD, List.getD_eq_getElem?_getD, List.getElem?_map, hk]; rfl
  refine wp_region_inv (fun lst a x => (∃ val, FactsV L A w a0 s l n lst a x val) ∨ ∃ k, n < k ∧ k ≤ l.length ∧ lst.size = l.length ∧ (∀ i, i < k → lst.getD i true = true) ∧ (∀ i, k ≤ i → i < l.length → lst.getD i true = false) ∧ (∀ (j : Nat) (o : Oper), lst.getD j false = true → l[j]? = some o → ∀ e ∈ o.after, Region.binds .any e = true → lst.getD e.on false = true) ∧ Shut (wpPost P R (l.drop k) a x)) hm ?_ ?_ ?_
  · have none_ : ∀ j, (Array.replicate l.toArray.size false).getD j false = false := fun j => by
      rw [Array.getD_eq_getD_getElem?, Array.getElem?_replicate]
      split <;> rfl
    refine Or.inl ⟨fun _ => undef, rfl, rfl, fun _ _ => rfl, (Q.refl w).drew, by simp, fun k h1 h2 => ?_, fun j o hj _ => ?_, fun i t sp _ _ hl => ?_, fun i _ hl => ?_, fun i j _ _ _ hl => ?_⟩
    · rw [Array.getD_eq_getD_getElem?, Array.getElem?_replicate, if_pos (by simpa using h2)]; rfl
    · rw [none_] at hj; cases hj
    · rw [none_] at hl; cases hl
    · rw [none_] at hl; cases hl
    · rw [none_] at hl; cases hl
  · intro lst a x i o hI ho hl hdep
    rw [get] at ho
    obtain ⟨hg, hdl, hall'⟩ := regB_at hB ho
    have hil : i < l.length := (List.getElem?_eq_some_iff.1 ho).1
    refine ⟨hg, ?_⟩
    rcases hI with ⟨val, T⟩ | ⟨k, hk1, hk2, hls, hk3, hk4, hkc, hw⟩
    · by_cases hin : i < n
      · obtain ⟨t, ht⟩ : ∃ t, s[i]? = some t := ⟨_, List.getElem?_eq_getElem (by omega)⟩
        obtain ⟨sp, hsp⟩ : ∃ sp, L[i]? = some sp := ⟨_, List.getElem?_eq_getElem (by omega)⟩
        have hts : t ∈ s := List.mem_of_getElem? ht
        have inj : ∀ j t', s[j]? = some t' → j ≠ i → t ≠ t' := fun j t' hj hne e => hne (by
          subst e
          obtain ⟨h1, h2⟩ := List.getElem?_eq_some_iff.1 hj
          obtain ⟨h3, h4⟩ := List.getElem?_eq_some_iff.1 ht
          exact (List.getElem_inj hd).1 (h2.trans h4.symm))
        obtain ⟨hdst, hdp⟩ := at_ i o hin ho
        have hd0 : lst.getD i false = false := not_got hl
        have hrun := hop i t o sp a x val ht ho hsp T.q T.other (fun e he hb s' t' hs' ht' => T.facts e.on t' s' ht' hs' (hdep e he hb))
        refine Oper.wp_mono ?_ hrun.out
        rintro a' x' ⟨v, rfl, q', hf, hfA⟩
        refine Or.inl ⟨upd val i v, ?_, T.defers, fun j hj => ?_, T.q.trans q', by rw [Array.size_setIfInBounds]; exact T.ls, fun k h1 h2 => ?_, closed_set ho T.closed hdep, fun j t' sj ht' hsj hlj => ?_, fun j hj hlj => ?_, fun j k hj hk hjk hlj hlk => ?_⟩
        · exact (Array.size_setIfInBounds).trans T.size
        · exact (Array.getElem?_setIfInBounds_ne (fun e => hj (by rw [← e]; exact hts))).trans (T.other j hj)
        · rw [set_ne (by omega)]; exact T.post k h1 h2
        · by_cases e : j = i
          · subst e
            rw [ht] at ht'
            injection ht' with ht'
            subst ht'
            rw [hsp] at hsj
            injection hsj with hsj
            subst hsj
            refine ⟨?_, ?_⟩
            · rw [upd_eq]; exact Array.getElem?_setIfInBounds_self_of_lt (by rw [T.size]; exact hmax t hts)
            · rw [upd_eq]
              refine sp.st hf (Q.refl x') (fun k hk => upd_ne _ _ ?_)
              rw [depsD j sp hsp] at hk
              have := (hdp k hk).1
              omega
          · rw [set_ne (fun e' => e e'.symm)] at hlj
            obtain ⟨h1, h2⟩ := T.facts j t' sj ht' hsj hlj
            rw [upd_ne _ _ e]
            refine ⟨(Array.getElem?_setIfInBounds_ne (inj j t' ht' e)).trans h1, sj.st h2 q' (fun k hk => upd_ne _ _ ?_)⟩
            rw [depsD j sj hsj] at hk
            have hjn : j < n := by have := (List.getElem?_eq_some_iff.1 hsj).1; omega
            have hjl : l[j]? = some (l[j]'(by omega)) := List.getElem?_eq_getElem (by omega)
            obtain ⟨_, e2, he2, hb2, hk2⟩ := (at_ j _ hjn hjl).2 k hk
            have := T.closed j _ hlj hjl e2 he2 hb2
            intro ek
            rw [hk2, ek, hd0] at this
            cases this
        · by_cases e : j = i
          · subst e; rw [upd_eq]; exact (hfA hj).2
          · rw [set_ne (fun e' => e e'.symm)] at hlj
            rw [upd_ne _ _ e]
            have := T.lt j hj hlj
            have := q'.1.size
            omega
        · by_cases e : j = i
          · subst e
            have ek : k ≠ j := fun h => hjk h.symm
            rw [set_ne (fun e' => ek e'.symm)] at hlk
            rw [upd_eq, upd_ne _ _ ek]
            have := T.lt k hk hlk
            have := (hfA hj).1
            omega
          · rw [set_ne (fun e' => e e'.symm)] at hlj
            rw [upd_ne _ _ e]
            by_cases ek : k = i
            · subst ek
              rw [upd_eq]
              have := T.lt j hj hlj
              have := (hfA hk).1
              omega
            · rw [set_ne (fun e' => ek e'.symm)] at hlk
              rw [upd_ne _ _ ek]
              exact T.apart j k hj hk hjk hlj hlk
      · have hie : i = n := by
          rcases Nat.lt_or_ge n i with h | h
          · have h1 := deps_got T.closed hdep n (hall' (by omega) n h)
            have h2 := not_got (T.post n (Nat.le_refl _) (by omega))
            rw [h1] at h2
            cases h2
          · omega
        subst hie
        have hallg : ∀ j, j < i → lst.getD j false = true := fun j hj => deps_got T.closed hdep j (hall' (Nat.le_refl _) j hj)
        have hE := hend a x val T.q T.size T.defers T.other (fun j t sp ht hsp => T.facts j t sp ht hsp (hallg j (by have := (List.getElem?_eq_some_iff.1 hsp).1; omega))) (fun j k hj hk hjk => T.apart j k hj hk hjk (hallg j (hAn j hj)) (hallg k (hAn k hk)))
        have hdr : l.drop i = o :: l.drop (i + 1) := by
          obtain ⟨h1, h2⟩ := List.getElem?_eq_some_iff.1 ho
          rw [List.drop_eq_getElem_cons h1, h2]
        rw [hdr] at hE
        refine Oper.wp_mono (fun a' x' h => Or.inr ⟨i + 1, by omega, by omega, by rw [Array.size_setIfInBounds]; exact T.ls, fun j hj => ?_, fun j h1 h2 => ?_, closed_set ho T.closed hdep, ⟨h⟩⟩) hE.out
        · by_cases e : i = j
          · subst e; exact set_eq (by rw [T.ls]; omega)
          · rw [set_ne e]
            have := hallg j (by omega)
            rw [Array.getD_eq_getD_getElem?] at this ⊢
            cases g : lst[j]? with
            | none => rfl
            | some b => rw [g] at this; exact this
        · rw [set_ne (by omega)]; exact T.post j (by omega) h2
    · have hie : i = k := by
        rcases Nat.lt_trichotomy i k with h | h | h
        · have := hk3 i h; rw [hl] at this; cases this
        · exact h
        · have h1 := deps_got hkc hdep k (hall' (by omega) k h)
          have h2 := not_got (hk4 k (Nat.le_refl _) (by omega))
          rw [h1] at h2
          cases h2
      subst hie
      have hdr : l.drop i = o :: l.drop (i + 1) := by
        obtain ⟨h1, h2⟩ := List.getElem?_eq_some_iff.1 ho
        rw [List.drop_eq_getElem_cons h1, h2]
      rw [hdr] at hw
      refine Oper.wp_mono (fun a' x' h => Or.inr ⟨i + 1, by omega, by omega, by rw [Array.size_setIfInBounds]; exact hls, fun j hj => ?_, fun j h1 h2 => ?_, closed_set ho hkc hdep, ⟨h⟩⟩) hw.out
      · by_cases e : i = j
        · subst e; exact set_eq (by rw [hls]; omega)
        · rw [set_ne e]; exact hk3 j (by omega)
      · rw [set_ne (by omega)]; exact hk4 j (by omega) h2
  · intro lst a x hI hno
    rcases hI with ⟨val, T⟩ | ⟨k, hk1, hk2, hls, hk3, hk4, hkc, hw⟩
    · have all : ∀ j, j < n → lst.getD j false = true := by
        intro j
        induction j using Nat.strongRecOn with
        | ind j ih =>
          intro hj
          obtain ⟨o, ho⟩ : ∃ o, l[j]? = some o := ⟨_, List.getElem?_eq_getElem (by omega)⟩
          refine got_of (hno j o (by rw [get]; exact ho) (fun e he hb => ?_)) (by rw [T.ls]; omega)
          have := (regB_at hB ho).2.1 e he hb
          exact ih e.on this (by omega)
      by_cases hnl : n < l.length
      · exfalso
        obtain ⟨o, ho⟩ : ∃ o, l[n]? = some o := ⟨_, List.getElem?_eq_getElem hnl⟩
        have := hno n o (by rw [get]; exact ho) (fun e he hb => all e.on ((regB_at hB ho).2.1 e he hb))
        rw [T.post n (Nat.le_refl _) hnl] at this
        cases this
      · have hE := hend a x val T.q T.size T.defers T.other (fun j t sp ht hsp => T.facts j t sp ht hsp (all j (by have := (List.getElem?_eq_some_iff.1 hsp).1; omega))) (fun j k hj hk hjk => T.apart j k hj hk hjk (all j (hAn j hj)) (all k (hAn k hk)))
        rw [List.drop_eq_nil_of_le (by omega)] at hE
        exact hE.out
    · by_cases hkl : k < l.length
      · exfalso
        obtain ⟨o, ho⟩ : ∃ o, l[k]? = some o := ⟨_, List.getElem?_eq_getElem hkl⟩
        have := hno k o (by rw [get]; exact ho) (fun e he hb => got_of (hk3 e.on ((regB_at hB ho).2.1 e he hb)) (by rw [hls]; have := (regB_at hB ho).2.1 e he hb; omega))
        rw [hk4 k (Nat.le_refl _) hkl] at this
        cases this
      · rw [List.drop_eq_nil_of_le (by omega)] at hw
        exact hw.out
section
variable {P : Program} {R : Exit → Act → World → Prop} {a : Act} {x x' : World} {rest : List Oper}
theorem post_skip {o : Oper} (hd : o.dst = none) (hr : (execOp a.eval o).run P x = .ok .skip x') (h : wpPost P R rest a x') : wpPost P R (o :: rest) a x := by
  show o.wp P a x (fun a' w' => wpPost P R rest a' w') R
  unfold Oper.wp
  rw [hr, Oper.upon_skip, hd]
  exact h
theorem post_run {o : Oper} {t : Nat} {v : Value} (hd : o.dst = some t) (hr : (execOp a.eval o).run P x = .ok (.value v) x') (h : wpPost P R rest (a.put (some t) v) x') : wpPost P R (o :: rest) a x := by
  show o.wp P a x (fun a' w' => wpPost P R rest a' w') R
  unfold Oper.wp
  rw [hr, Oper.upon_value, hd]
  exact h
end
end Go.Proofs.Ytdbbpmadkhedlaa

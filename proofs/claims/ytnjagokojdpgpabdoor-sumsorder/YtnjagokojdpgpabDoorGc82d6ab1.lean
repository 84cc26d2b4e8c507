/- Plain facts: orders of two, ones, noughts and halves, in the model's own words of floats. -/
import Derived.Test.YtnjagokojdpgpabDoorG9f406310
import Derived.Test.YtnjagokojdpgpabDoorG28d12016
import Derived.Test.YtnjagokojdpgpabDoorG9b3ca3e3
namespace Go.Proofs.YtnjagokojdpgpabDoor
open Go.RowKit

theorem sum_comm (d d' : Ieee.Datum) : d.sum d' = d'.sum d := by
  cases d with
  | nan s t => cases d' <;> rfl
  | infinity s =>
    cases d' with
    | nan t f => rfl
    | infinity t =>
      show (if s = t then some (Ieee.Datum.infinity s) else none) = (if t = s then some (Ieee.Datum.infinity t) else none)
      by_cases h : s = t
      · subst h; rfl
      · rw [if_neg h, if_neg (fun e => h e.symm)]
    | number t n j => rfl
  | number s m i =>
    cases d' with
    | nan t f => rfl
    | infinity t => rfl
    | number t n j =>
      simp only [Ieee.Datum.sum]
      rw [Int.min_comm j i, Int.add_comm (Ieee.signed t n _), Bool.and_comm t s]
theorem product_comm (d d' : Ieee.Datum) : d.product d' = d'.product d := by
  cases d with
  | nan s t => cases d' <;> rfl
  | infinity s =>
    cases d' with
    | nan t f => rfl
    | infinity t => simp only [Ieee.Datum.product]; rw [Bool.xor_comm]
    | number t n j => rfl
  | number s m i =>
    cases d' with
    | nan t f => rfl
    | infinity t => rfl
    | number t n j =>
      simp only [Ieee.Datum.product]
      rw [Bool.xor_comm, Nat.mul_comm, Int.add_comm]
theorem leastV_comm {a b : Nat} : leastV (a : Int) (b : Int) = leastV b a := by
  unfold leastV befB keyV
  simp only [decide_eq_true_eq]
  repeat' split
  all_goals omega
theorem greatestV_comm {a b : Nat} : greatestV (a : Int) (b : Int) = greatestV b a := by
  unfold greatestV befB keyV
  simp only [decide_eq_true_eq]
  repeat' split
  all_goals omega

/-- A sample's own rung. -/
theorem self32 {r : Nat} (h : r < 2139095040) : rungOf Ieee.single (mag32 r) (-149 + (plc32 r : Int)) = r := by
  by_cases h0 : r = 0
  · subst h0; rw [show mag32 0 = 0 from by decide, rungOf_zero]
  · have hm := mag_ne32 h0
    have hm1 := mag_lt32 r
    have hp : plc32 r ≤ 253 := by unfold plc32; omega
    have hr : mag32 r + plc32 r * 8388608 = r := by unfold mag32 plc32; omega
    unfold rungOf
    rw [if_neg hm]
    have hl : (mag32 r).log2 ≤ 23 := by
      have := (Nat.log2_lt hm).2 (show mag32 r < 2 ^ 24 from hm1)
      omega
    have e : lastOf Ieee.single (mag32 r) (-149 + (plc32 r : Int)) = -149 + (plc32 r : Int) := by
      unfold lastOf
      rw [least32, show (Ieee.single.fractionBits : Int) = 23 from rfl]
      rcases Nat.eq_zero_or_pos (plc32 r) with g | g
      · rw [g]; omega
      · have h2 : 23 ≤ (mag32 r).log2 := (Nat.le_log2 hm).2 (mag_ge32 g)
        omega
    rw [e, least32, binade32, inf32, Int.sub_self]
    have e2 : rz (mag32 r) 0 = mag32 r := by
      have := rz_nat (mag32 r) 0
      rw [Nat.pow_zero, Nat.mul_one] at this
      exact this
    rw [e2, show (-149 + (plc32 r : Int) - -149).toNat = plc32 r by omega, Nat.min_eq_left (by omega)]
    omega
theorem told_self {a : Nat} (ha : a < 4294967296) (h : rung32 a < 2139095040) : Ieee.single.word (sgn32 a) (rungOf Ieee.single (mag32 (rung32 a)) (-149 + (plc32 (rung32 a) : Int))) = a := by
  rw [self32 h, ← word_of32 ha]
theorem told_sinf {a : Nat} (ha : a < 4294967296) (h : rung32 a = 2139095040) : Ieee.single.word (sgn32 a) 2139095040 = a := by
  rw [← h, ← word_of32 ha]
theorem toldD_inf (s : Bool) : toldD (some (.infinity s)) = Ieee.single.word s 2139095040 := by
  show Ieee.single.word s Ieee.single.infRung = _
  rw [inf32]

theorem read_half : Ieee.single.read 1056964608 = .number false 8388608 (-24) := by decide
theorem read_one32 : Ieee.single.read 1065353216 = .number false 8388608 (-23) := by decide
theorem read_two : Ieee.single.read 1073741824 = .number false 8388608 (-22) := by decide
theorem read_minus : Ieee.single.read 2147483648 = .number true 0 (-149) := by decide
theorem read_plus : Ieee.single.read 0 = .number false 0 (-149) := by decide
theorem xor_f (s : Bool) : (s ^^ false) = s := by cases s <;> rfl

/-- Times a power of two. -/
theorem mul_power (s : Bool) (m : Nat) (p q : Int) : toldD ((Ieee.Datum.number s m p).product (.number false 8388608 q)) = Ieee.single.word s (rungOf Ieee.single m (p + q + 23)) := by
  show toldD (some (.number (s ^^ false) (m * 2 ^ 23) (p + q))) = _
  rw [xor_f, toldD_num, rung_scale]; rfl
/-- By a power of two. -/
theorem quo_power (s : Bool) {m : Nat} (hm : m < 16777216) (p q : Int) : toldD ((Ieee.Datum.number s m p).quotient 25 (.number false 8388608 q)) = Ieee.single.word s (rungOf Ieee.single m (p - q - 23)) := by
  have hl2 : (8388608 : Nat).log2 = 23 := by decide
  have hl : m.log2 ≤ 23 := by
    by_cases h0 : m = 0
    · subst h0; decide
    · have := (Nat.log2_lt h0).2 (show m < 2 ^ 24 from hm); omega
  obtain ⟨B, hB⟩ : ∃ B, B = 25 + (8388608 : Nat).log2 - m.log2 := ⟨_, rfl⟩
  have hB1 : 25 ≤ B := by omega
  have em : (Ieee.Datum.number s m p).quotient 25 (.number false 8388608 q) = some (.number (s ^^ false) (2 * ((m <<< B) / 8388608) + ((m <<< B) % 8388608 != 0).toNat) (p - q - (B : Int) - 1)) := by
    rw [hB]; simp [Ieee.Datum.quotient]
  have e1 : m <<< B = m * 2 ^ (B - 23) * 8388608 := by
    rw [Nat.shiftLeft_eq, Nat.mul_assoc, show (8388608 : Nat) = 2 ^ 23 from rfl, ← Nat.pow_add, show B - 23 + 23 = B by omega]
  rw [em, e1, Nat.mul_div_cancel _ (by decide), Nat.mul_mod_left, xor_f, toldD_num]
  refine congrArg (Ieee.single.word s) ?_
  show rungOf Ieee.single (2 * (m * 2 ^ (B - 23)) + 0) _ = _
  have e2 : 2 * (m * 2 ^ (B - 23)) + 0 = m * 2 ^ (B - 22) := by
    rw [show B - 22 = (B - 23) + 1 by omega, Nat.pow_succ, Nat.add_zero, Nat.mul_comm 2, Nat.mul_assoc]
  rw [e2, rung_scale]
  congr 1; omega
theorem cases32 {a : Nat} (h : nanN a = false) : rung32 a < 2139095040 ∨ rung32 a = 2139095040 := by
  rw [nanN_rung] at h
  have h := of_decide_eq_false h
  omega
theorem toldD_none : toldD none = 2143289344 := rfl

theorem half_link (a : Nat) : toldD ((Ieee.single.read a).quotient 25 (Ieee.single.read 1073741824)) = scaleV a (-1) := by
  rw [read_two]
  cases h : nanN a
  · rcases cases32 h with g | g
    · rw [read_fin32 g, quo_power _ (mag_lt32 _)]
      by_cases z : rung32 a = 0
      · rw [scaleV_zero z, z, show mag32 0 = 0 from by decide, rungOf_zero]
      · rw [scaleV_fin z g]
        refine congrArg (Ieee.single.word _) ?_
        congr 1; omega
    · rw [read_inf32 g, scaleV_inf g, show (Ieee.Datum.infinity (sgn32 a)).quotient 25 (.number false 8388608 (-22)) = some (.infinity (sgn32 a ^^ false)) from rfl, toldD_inf, xor_f]
  · obtain ⟨s, t, e⟩ := isNaN_cases (read32_nan h)
    rw [e, scaleV_nan h]; rfl
theorem mulhalf_link (a : Nat) : toldD ((Ieee.single.read a).product (Ieee.single.read 1056964608)) = scaleV a (-1) := by
  rw [read_half]
  cases h : nanN a
  · rcases cases32 h with g | g
    · rw [read_fin32 g, mul_power]
      by_cases z : rung32 a = 0
      · rw [scaleV_zero z, z, show mag32 0 = 0 from by decide, rungOf_zero]
      · rw [scaleV_fin z g]
        refine congrArg (Ieee.single.word _) ?_
        congr 1; omega
    · rw [read_inf32 g, scaleV_inf g, show (Ieee.Datum.infinity (sgn32 a)).product (.number false 8388608 (-24)) = some (.infinity (sgn32 a ^^ false)) from rfl, toldD_inf, xor_f]
  · obtain ⟨s, t, e⟩ := isNaN_cases (read32_nan h)
    rw [e, scaleV_nan h]; rfl
theorem mul_one {a : Nat} (ha : a < 4294967296) : toldD ((Ieee.single.read a).product (Ieee.single.read 1065353216)) = madeN a := by
  rw [read_one32]
  cases h : nanN a
  · rw [madeN_of h]
    rcases cases32 h with g | g
    · rw [read_fin32 g, mul_power, show -149 + (plc32 (rung32 a) : Int) + -23 + 23 = -149 + (plc32 (rung32 a) : Int) by omega, told_self ha g]
    · rw [read_inf32 g, show (Ieee.Datum.infinity (sgn32 a)).product (.number false 8388608 (-23)) = some (.infinity (sgn32 a ^^ false)) from rfl, toldD_inf, xor_f, told_sinf ha g]
  · obtain ⟨s, t, e⟩ := isNaN_cases (read32_nan h)
    rw [e, madeN_nan h]; rfl
theorem div_one {a : Nat} (ha : a < 4294967296) : toldD ((Ieee.single.read a).quotient 25 (Ieee.single.read 1065353216)) = madeN a := by
  rw [read_one32]
  cases h : nanN a
  · rw [madeN_of h]
    rcases cases32 h with g | g
    · rw [read_fin32 g, quo_power _ (mag_lt32 _), show -149 + (plc32 (rung32 a) : Int) - -23 - 23 = -149 + (plc32 (rung32 a) : Int) by omega, told_self ha g]
    · rw [read_inf32 g, show (Ieee.Datum.infinity (sgn32 a)).quotient 25 (.number false 8388608 (-23)) = some (.infinity (sgn32 a ^^ false)) from rfl, toldD_inf, xor_f, told_sinf ha g]
  · obtain ⟨s, t, e⟩ := isNaN_cases (read32_nan h)
    rw [e, madeN_nan h]; rfl
theorem signed_zero (s : Bool) (k : Nat) : Ieee.signed s 0 k = 0 := by unfold Ieee.signed; rw [Nat.shiftLeft_eq, Nat.zero_mul]; cases s <;> rfl
theorem add_minus_fin (s : Bool) (m : Nat) (p : Int) (hp : -1074 ≤ p) : toldD ((Ieee.Datum.number s m p).sum (.number true 0 (-149))) = Ieee.single.word s (rungOf Ieee.single m p) := by
  obtain ⟨N, b, e1, e2⟩ := sum_units s true m 0 p (-149) hp (by decide)
  rw [signed_zero, Int.add_zero] at e1 e2
  rw [e1, toldD_num, e2, signed_abs, rung_scale, show -1074 + (((p + 1074).toNat : Nat) : Int) = p by omega]
  congr 1
  unfold sg
  by_cases h : Ieee.signed s m (p + 1074).toNat = 0
  · rw [if_pos h, Bool.and_true]
  · rw [if_neg h]; exact (signed_sign h).symm
theorem add_nought {a : Nat} (ha : a < 4294967296) : toldD ((Ieee.single.read a).sum (Ieee.single.read 2147483648)) = madeN a := by
  rw [read_minus]
  cases h : nanN a
  · rw [madeN_of h]
    rcases cases32 h with g | g
    · rw [read_fin32 g, add_minus_fin _ _ _ (by omega), told_self ha g]
    · rw [read_inf32 g, show (Ieee.Datum.infinity (sgn32 a)).sum (.number true 0 (-149)) = some (.infinity (sgn32 a)) from rfl, toldD_inf, told_sinf ha g]
  · obtain ⟨s, t, e⟩ := isNaN_cases (read32_nan h)
    rw [e, madeN_nan h]; rfl
theorem sub_nought {a : Nat} (ha : a < 4294967296) : toldD ((Ieee.single.read a).sum (Ieee.single.read 0).opposite) = madeN a := by
  rw [show (Ieee.single.read 0).opposite = Ieee.single.read 2147483648 from by rw [read_plus, read_minus]; rfl, add_nought ha]
theorem nought_sub {a : Nat} (h : nanN a = false) : toldD ((Ieee.single.read 0).sum (Ieee.single.read a).opposite) % 2147483648 = a % 2147483648 := by
  rw [read_plus]
  rcases cases32 h with g | g
  · rw [read_fin32 g]
    obtain ⟨N, b, e1, e2⟩ := sum_units false (!sgn32 a) 0 (mag32 (rung32 a)) (-149) (-149 + (plc32 (rung32 a) : Int)) (by decide) (by omega)
    rw [signed_zero, Int.zero_add] at e1 e2
    show toldD ((Ieee.Datum.number false 0 (-149)).sum (.number (!sgn32 a) (mag32 (rung32 a)) (-149 + (plc32 (rung32 a) : Int)))) % _ = _
    rw [e1, toldD_num, e2, signed_abs, rung_scale, show -1074 + (((-149 + (plc32 (rung32 a) : Int) + 1074).toNat : Nat) : Int) = -149 + (plc32 (rung32 a) : Int) by omega, self32 g]
    exact (sgn_word32 _ (by omega)).2
  · rw [read_inf32 g]
    show toldD (some (.infinity (!sgn32 a))) % _ = _
    rw [toldD_inf]
    have := (sgn_word32 (!sgn32 a) (r := 2139095040) (by decide)).2
    unfold rung32 at this g
    rw [this, g]
theorem narrow_wide {a : Nat} (ha : a < 4294967296) : toldD (some (Ieee.double.read (wideW a))) = madeN a := by
  cases h : nanN a
  · have e0 : wideW a = wideN a := by unfold wideW; rw [h]; rfl
    rw [e0, madeN_of h]
    rcases cases32 h with g | g
    · obtain ⟨r, s, v⟩ := wide_fin g
      have e := val_abs (wideN a)
      rw [v] at e
      unfold sampleZ at e
      rw [signed_abs] at e
      rw [read_fin64 r, toldD_num, rung_word64, ← e, s, rung_scale, show (-1074 : Int) + ((plc32 (rung32 a) + 925 : Nat) : Int) = -149 + (plc32 (rung32 a) : Int) by omega, told_self ha g]
    · rw [wide_read_inf g, toldD_inf, told_sinf ha g]
  · have e0 : wideW a = 9221120237041090560 := by unfold wideW; rw [h]; rfl
    rw [e0, madeN_nan h]; decide +kernel
theorem sum_num_inf (s : Bool) (m : Nat) (p : Int) (t : Bool) : (Ieee.Datum.number s m p).sum (.infinity t) = some (.infinity t) := rfl
theorem fma_one (a b : Nat) : toldD (fmaD a 1065353216 b) = toldD ((Ieee.single.read a).sum (Ieee.single.read b)) := by
  unfold fmaD
  rw [read_one32]
  cases h : nanN a
  · rcases cases32 h with g | g
    · rw [read_fin32 g]
      show toldD ((Ieee.Datum.number (sgn32 a ^^ false) (mag32 (rung32 a) * 8388608) (-149 + (plc32 (rung32 a) : Int) + -23)).sum (Ieee.single.read b)) = _
      rw [xor_f]
      cases hb : nanN b
      · rcases cases32 hb with k | k
        · rw [read_fin32 k]
          obtain ⟨N, c, e1, e2⟩ := sum_units (sgn32 a) (sgn32 b) (mag32 (rung32 a) * 8388608) (mag32 (rung32 b)) (-149 + (plc32 (rung32 a) : Int) + -23) (-149 + (plc32 (rung32 b) : Int)) (by omega) (by omega)
          obtain ⟨N', c', f1, f2⟩ := sum_units (sgn32 a) (sgn32 b) (mag32 (rung32 a)) (mag32 (rung32 b)) (-149 + (plc32 (rung32 a) : Int)) (-149 + (plc32 (rung32 b) : Int)) (by omega) (by omega)
          have ez : Ieee.signed (sgn32 a) (mag32 (rung32 a) * 8388608) (-149 + (plc32 (rung32 a) : Int) + -23 + 1074).toNat = Ieee.signed (sgn32 a) (mag32 (rung32 a)) (-149 + (plc32 (rung32 a) : Int) + 1074).toNat := by
            unfold Ieee.signed
            rw [Nat.shiftLeft_eq, Nat.shiftLeft_eq, Nat.mul_assoc, show (8388608 : Nat) = 2 ^ 23 from rfl, ← Nat.pow_add, show 23 + (-149 + (plc32 (rung32 a) : Int) + -23 + 1074).toNat = (-149 + (plc32 (rung32 a) : Int) + 1074).toNat by omega]
          rw [ez] at e1 e2
          rw [e1, f1, toldD_num, toldD_num, e2, f2]
        · rw [read_inf32 k, sum_num_inf, sum_num_inf]
      · rw [sum_nan2 (read32_nan hb), sum_nan2 (read32_nan hb)]
    · rw [read_inf32 g]
      show toldD ((Ieee.Datum.infinity (sgn32 a ^^ false)).sum (Ieee.single.read b)) = _
      rw [xor_f]
  · rw [product_nan1 (read32_nan h), sum_nan1 (read32_nan h)]; rfl
theorem fma_nought {a b : Nat} (hp : toldD ((Ieee.single.read a).product (Ieee.single.read b)) % 2147483648 ≠ 0) : toldD (fmaD a b 2147483648) = toldD ((Ieee.single.read a).product (Ieee.single.read b)) := by
  unfold fmaD
  rw [read_minus]
  cases hd : (Ieee.single.read a).product (Ieee.single.read b) with
  | none => rfl
  | some d =>
    rw [hd] at hp
    show toldD (d.sum (.number true 0 (-149))) = _
    cases d with
    | nan s t => exact absurd (product_num hd) (by simp [Ieee.Datum.isNaN])
    | infinity s => rfl
    | number s m p =>
      have hpl : -1074 ≤ p := by
        cases ha : nanN a
        · cases hb : nanN b
          · rcases cases32 ha with g | g
            · rcases cases32 hb with k | k
              · rw [read_fin32 g, read_fin32 k] at hd
                have hd : some (Ieee.Datum.number (sgn32 a ^^ sgn32 b) (mag32 (rung32 a) * mag32 (rung32 b)) (-149 + (plc32 (rung32 a) : Int) + (-149 + (plc32 (rung32 b) : Int)))) = some (.number s m p) := hd
                injection hd with hd
                injection hd with h1 h2 h3
                omega
              · rw [read_fin32 g, read_inf32 k] at hd
                have hd : (if mag32 (rung32 a) = 0 then none else some (Ieee.Datum.infinity (sgn32 b ^^ sgn32 a))) = some (.number s m p) := hd
                split at hd
                · cases hd
                · injection hd with hd; cases hd
            · rcases cases32 hb with k | k
              · rw [read_inf32 g, read_fin32 k] at hd
                have hd : (if mag32 (rung32 b) = 0 then none else some (Ieee.Datum.infinity (sgn32 a ^^ sgn32 b))) = some (.number s m p) := hd
                split at hd
                · cases hd
                · injection hd with hd; cases hd
              · rw [read_inf32 g, read_inf32 k] at hd
                have hd : some (Ieee.Datum.infinity (sgn32 a ^^ sgn32 b)) = some (.number s m p) := hd
                injection hd with hd; cases hd
          · rw [product_nan2 (read32_nan hb)] at hd; cases hd
        · rw [product_nan1 (read32_nan ha)] at hd; cases hd
      rw [add_minus_fin _ _ _ hpl, toldD_num]
end Go.Proofs.YtnjagokojdpgpabDoor
/- What the reference's DivNum returns of two numbers that are not 0: the quotient to 60 digits and more, and whether something is left. -/
namespace Go.Proofs.YtnjagokojdpgpabDoor
open Go.RowKit

/-- By how much the dividend is shifted. -/
def shV (n k : Nat) : Nat := 60 + (blen k - blen n)
theorem div_start {A d : Nat} (hd : 0 < d) (h : blen d ≤ blen A) : A < d * 2 ^ (blen A - blen d + 1) := by
  have h1 := blen_lt A
  have h2 : 2 ^ (blen d - 1) ≤ d := by
    unfold blen
    rw [if_neg (by omega)]
    exact Nat.log2_self_le (by omega)
  have h3 : 0 < blen d := by unfold blen; rw [if_neg (by omega)]; omega
  have h4 : 2 ^ (blen d - 1) * 2 ^ (blen A - blen d + 1) ≤ d * 2 ^ (blen A - blen d + 1) := Nat.mul_le_mul_right _ h2
  rw [← Nat.pow_add, show blen d - 1 + (blen A - blen d + 1) = blen A by omega] at h4
  omega
theorem div_step {rest d g : Nat} (h : rest < d * 2 ^ (g + 1)) (hge : d * 2 ^ g ≤ rest) : rest - d * 2 ^ g < d * 2 ^ g := by
  rw [Nat.pow_succ, ← Nat.mul_assoc] at h
  omega
theorem div_end {A d q rest : Nat} (h : rest + d * q = A) (hr : rest < d * 2 ^ 0) : q = A / d ∧ rest = A % d := by
  rw [Nat.pow_zero, Nat.mul_one] at hr
  have hd : 0 < d := by omega
  constructor
  · rw [← h, Nat.add_mul_div_left _ _ hd, Nat.div_eq_of_lt hr, Nat.zero_add]
  · rw [← h, Nat.add_mul_mod_self_left, Nat.mod_eq_of_lt hr]
theorem blen_mul_pow {n : Nat} (h : n ≠ 0) (k : Nat) : blen (n * 2 ^ k) = blen n + k := by
  unfold blen
  rw [if_neg h, if_neg (Nat.mul_ne_zero h (by have := Nat.two_pow_pos k; omega)), log2_mul_pow h]
  omega

end Go.Proofs.YtnjagokojdpgpabDoor
/- What the reference's DivNum returns where one of the two is no finite number, or is 0. -/
namespace Go.Proofs.YtnjagokojdpgpabDoor
open Go.RowKit

end Go.Proofs.YtnjagokojdpgpabDoor
/- What the reference's DivNum and Div return of whatever samples. -/
namespace Go.Proofs.YtnjagokojdpgpabDoor
open Go.RowKit

/-- The quotient, cut behind its digits, and whether something is left. -/
def divR : RNum → RNum → RNum
  | ⟨none⟩, _ => .nan
  | ⟨some (.inl _)⟩, ⟨none⟩ => .nan
  | ⟨some (.inr _)⟩, ⟨none⟩ => .nan
  | ⟨some (.inl _)⟩, ⟨some (.inl _)⟩ => .nan
  | ⟨some (.inl s)⟩, ⟨some (.inr (t, _))⟩ => .inf (s != t)
  | ⟨some (.inr (s, _))⟩, ⟨some (.inl t)⟩ => .fin (s != t) 0 0 false
  | ⟨some (.inr (s, n, e, m))⟩, ⟨some (.inr (t, k, f, g))⟩ =>
    if zeroB (.fin s n e m) = true ∨ zeroB (.fin t k f g) = true then (if zeroB (.fin t k f g) = true then (if zeroB (.fin s n e m) = true then .nan else .inf (s != t)) else .fin (s != t) 0 0 false)
    else .fin (s != t) (n * 2 ^ shV n k / k) (e - f - (shV n k : Int)) (!decide (n * 2 ^ shV n k % k = 0))

/-- The quotient has 60 digits and more. -/
theorem quo_big {n k : Nat} (n0 : n ≠ 0) (k0 : k ≠ 0) : 2 ^ 59 ≤ n * 2 ^ shV n k / k := by
  have hA := blen_mul_pow n0 (shV n k)
  have h1 := blen_lt k
  have h2 : 2 ^ (n * 2 ^ shV n k).log2 ≤ n * 2 ^ shV n k := Nat.log2_self_le (Nat.mul_ne_zero n0 (by have := Nat.two_pow_pos (shV n k); omega))
  have h3 : (n * 2 ^ shV n k).log2 + 1 = blen n + shV n k := by
    rw [← hA]; unfold blen
    rw [if_neg (Nat.mul_ne_zero n0 (by have := Nat.two_pow_pos (shV n k); omega))]
  rw [Nat.le_div_iff_mul_le (by omega)]
  have h4 : 2 ^ 59 * k ≤ 2 ^ 59 * 2 ^ blen k := Nat.mul_le_mul_left _ (by omega)
  rw [← Nat.pow_add] at h4
  have h5 : 2 ^ (59 + blen k) ≤ 2 ^ (n * 2 ^ shV n k).log2 := Nat.pow_le_pow_right (by decide) (by unfold shV at h3 ⊢; omega)
  omega
theorem divR_fits {x y : RNum} (fx : few x) (fy : few y) : fits (divR x y) := by
  cases x using RNum.rec3 with
  | nan => exact trivial
  | inf s => cases y using RNum.rec3 <;> exact trivial
  | fin s n e m =>
    cases y using RNum.rec3 with
    | nan => exact trivial
    | inf t => exact ⟨by decide, by decide, by decide, fun h => by cases h⟩
    | fin t k f g =>
      show fits (if zeroB (.fin s n e m) = true ∨ zeroB (.fin t k f g) = true then (if zeroB (.fin t k f g) = true then (if zeroB (.fin s n e m) = true then .nan else .inf (s != t)) else .fin (s != t) 0 0 false) else .fin (s != t) (n * 2 ^ shV n k / k) (e - f - (shV n k : Int)) (!decide (n * 2 ^ shV n k % k = 0)))
      obtain ⟨a1, a2, a3, rfl⟩ := fx
      obtain ⟨b1, b2, b3, rfl⟩ := fy
      by_cases hz : zeroB (.fin s n e false) = true ∨ zeroB (.fin t k f false) = true
      · rw [if_pos hz]
        split
        · split <;> exact trivial
        · exact ⟨by decide, by decide, by decide, fun h => by cases h⟩
      · rw [if_neg hz]
        have n0 : n ≠ 0 := fun c => hz (Or.inl (by rw [c]; rfl))
        have k0 : k ≠ 0 := fun c => hz (Or.inr (by rw [c]; rfl))
        have hq := quo_big n0 k0
        have hsh : shV n k ≤ 560 := by unfold shV; omega
        have hle : n * 2 ^ shV n k / k ≤ n * 2 ^ shV n k := Nat.div_le_self _ _
        have hbl : blen (n * 2 ^ shV n k / k) ≤ blen n + shV n k := blen_le (Nat.lt_of_le_of_lt hle (by rw [← blen_mul_pow n0]; exact blen_lt _))
        have hp : (0 : Nat) < 2 ^ 59 := by decide
        have hne : n * 2 ^ shV n k / k ≠ 0 := by omega
        refine ⟨by omega, by omega, by omega, fun _ => ⟨hne, ?_⟩⟩
        have hl : 59 ≤ (n * 2 ^ shV n k / k).log2 := (Nat.le_log2 hne).2 hq
        unfold lastOf
        rw [single_frac]
        omega

end Go.Proofs.YtnjagokojdpgpabDoor
/- Plain facts: a quotient with its rest told by one bit, rounded: how many digits it has does not matter; the reference's quotients are the model's. -/
namespace Go.Proofs.YtnjagokojdpgpabDoor
open Go.RowKit

/-- A quotient's digits, and one more that tells of a rest. -/
def sqV (m n A : Nat) : Nat := 2 * (m * 2 ^ A / n) + if m * 2 ^ A % n = 0 then 0 else 1
theorem sq_stick {m n B k : Nat} (hn : 0 < n) : stick (sqV m n (B + k)) (k + 1) = sqV m n B := by
  have hk := Nat.two_pow_pos k
  have e0 : m * 2 ^ (B + k) = m * 2 ^ B * 2 ^ k := by rw [Nat.pow_add, Nat.mul_assoc]
  -- the great quotient, cut, is the small one
  have e1 : m * 2 ^ (B + k) / n / 2 ^ k = m * 2 ^ B / n := by
    rw [Nat.div_div_eq_div_mul, e0, Nat.mul_div_mul_right _ _ hk]
  have d1 := Nat.div_add_mod (m * 2 ^ (B + k)) n
  have d2 := Nat.div_add_mod (m * 2 ^ B) n
  have d3 := Nat.div_add_mod (m * 2 ^ (B + k) / n) (2 ^ k)
  have r1 := Nat.mod_lt (m * 2 ^ (B + k)) hn
  have r2 := Nat.mod_lt (m * 2 ^ B) hn
  rw [e1] at d3
  obtain ⟨q, hq⟩ : ∃ q, q = m * 2 ^ B / n := ⟨_, rfl⟩
  obtain ⟨Q', hQ⟩ : ∃ Q', Q' = m * 2 ^ (B + k) / n := ⟨_, rfl⟩
  obtain ⟨r, hr⟩ : ∃ r, r = m * 2 ^ B % n := ⟨_, rfl⟩
  obtain ⟨R, hR⟩ : ∃ R, R = m * 2 ^ (B + k) % n := ⟨_, rfl⟩
  obtain ⟨t, ht⟩ : ∃ t, t = Q' % 2 ^ k := ⟨_, rfl⟩
  unfold stick sqV
  rw [← hQ, ← hR, ← hq, ← hr]
  rw [← hQ, ← hq, ← ht] at d3
  rw [← hQ, ← hR] at d1
  rw [← hq, ← hr] at d2
  have htk : t < 2 ^ k := by rw [ht]; exact Nat.mod_lt _ hk
  -- r * 2^k = n * t + R
  have key : r * 2 ^ k = n * t + R := by
    have a1 : n * Q' + R = (n * q + r) * 2 ^ k := by rw [d1, d2, e0]
    rw [← d3] at a1
    rw [Nat.mul_add, Nat.add_mul] at a1
    have a2 : n * (2 ^ k * q) = n * q * 2 ^ k := by rw [Nat.mul_comm (2 ^ k) q, Nat.mul_assoc]
    omega
  have hzero : r = 0 ↔ t = 0 ∧ R = 0 := by
    constructor
    · intro h
      rw [h, Nat.zero_mul] at key
      have k1 : n * t = 0 := by omega
      rcases Nat.mul_eq_zero.1 k1 with h' | h'
      · omega
      · exact ⟨h', by omega⟩
    · rintro ⟨h1, h2⟩
      rw [h1, h2, Nat.mul_zero] at key
      rcases Nat.mul_eq_zero.1 key with h' | h'
      · exact h'
      · omega
  have ep : 2 ^ (k + 1) = 2 * 2 ^ k := by rw [Nat.pow_succ]; omega
  obtain ⟨b, hb⟩ : ∃ b, b = if R = 0 then 0 else 1 := ⟨_, rfl⟩
  have hb2 : b < 2 := by rw [hb]; split <;> omega
  rw [← hb]
  have f1 : (2 * Q' + b) / 2 ^ (k + 1) = q := by
    rw [ep, ← Nat.div_div_eq_div_mul, show (2 * Q' + b) / 2 = Q' by omega, hQ, e1, hq]
  have f2 : (2 * Q' + b) % 2 ^ (k + 1) = 2 * t + b := by
    have g := Nat.div_add_mod (2 * Q' + b) (2 ^ (k + 1))
    rw [f1, ep] at g
    rw [ep]
    have g2 : 2 * 2 ^ k * q = 2 * (2 ^ k * q) := Nat.mul_assoc _ _ _
    omega
  rw [f1, f2]
  have hbR : b = 0 ↔ R = 0 := by rw [hb]; split <;> omega
  by_cases h : r = 0
  · obtain ⟨h1, h2⟩ := hzero.1 h
    rw [if_pos h, if_pos (by have := hbR.2 h2; omega)]
  · rw [if_neg h, if_neg]
    intro h'
    exact h (hzero.2 ⟨by omega, hbR.1 (by omega)⟩)
theorem sq_link (f : Ieee.Format) {m n A B : Nat} (x : Int) (hn : 0 < n) (hA : B ≤ A) (hq : 2 ^ (f.fractionBits + 1) ≤ m * 2 ^ B / n) :
    rungOf f (sqV m n A) (x - A - 1) = rungOf f (sqV m n B) (x - B - 1) := by
  obtain ⟨k, rfl⟩ : ∃ k, A = B + k := ⟨A - B, by omega⟩
  have e1 : m * 2 ^ (B + k) / n / 2 ^ k = m * 2 ^ B / n := by
    rw [Nat.div_div_eq_div_mul, Nat.pow_add, ← Nat.mul_assoc, Nat.mul_div_mul_right _ _ (Nat.two_pow_pos k)]
  have h1 : 2 ^ (f.fractionBits + 1 + k) ≤ m * 2 ^ (B + k) / n := by
    rw [Nat.pow_add]
    rw [← e1] at hq
    exact (Nat.le_div_iff_mul_le (Nat.two_pow_pos k)).1 hq
  have h2 : 2 ^ (f.fractionBits + 2 + k) ≤ sqV m n (B + k) := by
    unfold sqV
    rw [show f.fractionBits + 2 + k = f.fractionBits + 1 + k + 1 by omega, Nat.pow_succ]
    omega
  have hM : sqV m n (B + k) ≠ 0 := by have := Nat.two_pow_pos (f.fractionBits + 2 + k); omega
  have hlog : f.fractionBits + 2 + k ≤ (sqV m n (B + k)).log2 := (Nat.le_log2 hM).2 h2
  have := rung_stick f (M := sqV m n (B + k)) (k := k + 1) (x - (B + k : Nat) - 1) (by omega) hM (by unfold lastOf; omega)
  rw [sq_stick hn] at this
  rw [← this]
  congr 1; omega
theorem quo_digits {m n : Nat} (hm : m ≠ 0) (hn : n ≠ 0) {d : Nat} (h0 : 0 < d) : 2 ^ (d - 1) ≤ m * 2 ^ (d + n.log2 - m.log2) / n := by
  rw [Nat.le_div_iff_mul_le (by omega)]
  have h1 := Nat.log2_self_le hm
  have h2 : n < 2 ^ (n.log2 + 1) := Nat.lt_log2_self
  have a1 : 2 ^ (d - 1) * n < 2 ^ (d - 1) * 2 ^ (n.log2 + 1) := Nat.mul_lt_mul_of_pos_left h2 (Nat.two_pow_pos _)
  rw [← Nat.pow_add, show d - 1 + (n.log2 + 1) = d + n.log2 by omega] at a1
  have a2 : 2 ^ m.log2 * 2 ^ (d + n.log2 - m.log2) ≤ m * 2 ^ (d + n.log2 - m.log2) := Nat.mul_le_mul_right _ h1
  rw [← Nat.pow_add] at a2
  have a3 : 2 ^ (d + n.log2) ≤ 2 ^ (m.log2 + (d + n.log2 - m.log2)) := Nat.pow_le_pow_right (by decide) (by omega)
  omega
theorem zeroB_fin (s : Bool) (n : Nat) (e : Int) : zeroB (.fin s n e false) = decide (n = 0) := by
  unfold zeroB; cases n <;> rfl
theorem bne_xor (s t : Bool) : (s != t) = (s ^^ t) := by cases s <;> cases t <;> rfl
theorem sq_not (m n A : Nat) : 2 * (m * 2 ^ A / n) + (!decide (m * 2 ^ A % n = 0)).toNat = sqV m n A := by
  unfold sqV
  by_cases h : m * 2 ^ A % n = 0
  · rw [decide_eq_true h, if_pos h]; rfl
  · rw [decide_eq_false h, if_neg h]; rfl
theorem sq_model (m n A : Nat) : 2 * ((m <<< A) / n) + ((m <<< A) % n != 0).toNat = sqV m n A := by
  unfold sqV
  rw [Nat.shiftLeft_eq]
  by_cases h : m * 2 ^ A % n = 0
  · rw [if_pos h, h]; rfl
  · rw [if_neg h, bne_iff_ne.2 h]; rfl
/-- Quotients. -/
theorem div_link (d d' : Ieee.Datum) : roundR (divR (datumR d) (datumR d')) = toldD (d.quotient 25 d') := by
  cases d with
  | nan s t => cases d' <;> rfl
  | infinity s =>
    cases d' with
    | nan t f => rfl
    | infinity t => rfl
    | number t n j =>
      show Ieee.single.word (s != t) 2139095040 = Ieee.single.word (s ^^ t) Ieee.single.infRung
      rw [single_inf, bne_xor]
  | number s m i =>
    cases d' with
    | nan t f => rfl
    | infinity t =>
      show roundR (.fin (s != t) 0 0 false) = Ieee.single.nearest (s ^^ t) 0 0
      rw [roundR_fin, bne_xor]
    | number t n j =>
      show roundR (divR (.fin s m i false) (.fin t n j false)) = _
      unfold divR
      dsimp only
      rw [zeroB_fin, zeroB_fin]
      simp only [decide_eq_true_eq]
      by_cases hn : n = 0
      · rw [if_pos (Or.inr hn), if_pos hn]
        by_cases hm : m = 0
        · rw [if_pos hm, show (Ieee.Datum.number s m i).quotient 25 (.number t n j) = none from by simp [Ieee.Datum.quotient, hn, hm]]; rfl
        · rw [if_neg hm, show (Ieee.Datum.number s m i).quotient 25 (.number t n j) = some (.infinity (s ^^ t)) from by simp [Ieee.Datum.quotient, hn, hm]]
          show Ieee.single.word (s != t) 2139095040 = Ieee.single.word (s ^^ t) Ieee.single.infRung
          rw [single_inf, bne_xor]
      · have em : (Ieee.Datum.number s m i).quotient 25 (.number t n j) = some (.number (s ^^ t) (sqV m n (25 + n.log2 - m.log2)) (i - j - ((25 + n.log2 - m.log2 : Nat) : Int) - 1)) := by
          rw [← sq_model]
          simp [Ieee.Datum.quotient, hn]
        rw [em]
        show _ = Ieee.single.nearest _ _ _
        rw [nearest_rung]
        by_cases hm : m = 0
        · rw [if_pos (Or.inl hm), if_neg hn, roundR_fin, nearest_rung, bne_xor]
          have z : sqV m n (25 + n.log2 - m.log2) = 0 := by unfold sqV; rw [hm, Nat.zero_mul, Nat.zero_div, Nat.zero_mod, if_pos rfl]
          rw [z]; unfold rungOf; rw [if_pos rfl, if_pos rfl]
        · rw [if_neg (by simp [hn, hm]), bne_xor]
          show Ieee.single.word _ (rungOf Ieee.single (2 * (m * 2 ^ shV m n / n) + (!decide (m * 2 ^ shV m n % n = 0)).toNat) (i - j - (shV m n : Int) - 1)) = _
          rw [sq_not]
          congr 1
          refine sq_link Ieee.single (i - j) (by omega) ?_ ?_
          · unfold shV blen
            rw [if_neg hn, if_neg hm]; omega
          · exact quo_digits hm hn (d := 25) (by omega)
end Go.Proofs.YtnjagokojdpgpabDoor

/- What the reference's TimesNum and DivNum return of samples made wide; that what comes out fits. -/
import Derived.Test.YtnjagokojdpgpabDoorGfdc8d7e8
import Derived.Test.YtnjagokojdpgpabDoorG6f916a79
import Derived.Test.YtnjagokojdpgpabDoorG5187b921
namespace Go.Proofs.YtnjagokojdpgpabDoor
open Go.RowKit

/-- Numbers of samples made wide. -/
def wideR : RNum → Prop
  | ⟨some (.inr (_, n, e, m))⟩ => n < 9007199254740992 ∧ -1074 ≤ e ∧ e ≤ 80 ∧ m = false ∧ (n ≠ 0 → -210 ≤ e)
  | _ => True
theorem wideR_of (a : Nat) : wideR (datumR (Ieee.double.read (wideW a))) := by
  rcases wideW_cases a with ⟨h, e⟩ | ⟨h, e⟩ | ⟨h, ea, M, P, e, hP, hX⟩
  · obtain ⟨s, t, e'⟩ := isNaN_cases e
    rw [e']; exact trivial
  · rw [e]; exact trivial
  · rw [ea]
    by_cases z : rung32 a = 0
    · rw [wide_zero z, read_word64]
      exact ⟨by omega, by omega, by omega, rfl, fun c => absurd rfl c⟩
    · obtain ⟨L, hL, m0, m1, e1, hp⟩ := wide_wd z h
      have k1 := Nat.mul_le_mul_right (2 ^ (52 - L)) m0
      have k2 := Nat.mul_lt_mul_of_pos_right m1 (Nat.two_pow_pos (52 - L))
      rw [← Nat.pow_add, show L + (52 - L) = 52 by omega] at k1
      rw [← Nat.pow_add, show L + 1 + (52 - L) = 53 by omega] at k2
      rw [e1, read_wd k1 k2 (by omega) (by omega)]
      exact ⟨k2, by omega, by omega, rfl, fun _ => by omega⟩
theorem wideR_small {x : RNum} (h : wideR x) : small x := by
  cases x using RNum.rec3 with
  | nan => exact trivial
  | inf s => exact trivial
  | fin s n e m => exact ⟨by have := blen_le (n := n) (k := 53) h.1; omega, by have := h.2.1; omega, by have := h.2.2.1; omega⟩
theorem wideR_opp {x : RNum} (h : wideR x) : wideR (oppR x) := by cases x using RNum.rec3 <;> exact h
theorem plus_fitsD {x y : RNum} (hx : wideR x) (hy : wideR y) : fitsD (plusR x y) := by
  cases x using RNum.rec3 with
  | nan => exact trivial
  | inf s =>
    cases y using RNum.rec3 with
    | nan => exact trivial
    | inf t => show fitsD (if s = t then .inf s else .nan); split <;> exact trivial
    | fin t k f g => exact trivial
  | fin s n e m =>
    cases y using RNum.rec3 with
    | nan => exact trivial
    | inf t => exact trivial
    | fin t k f g =>
      obtain ⟨a1, a2, a3, rfl, _⟩ := hx
      obtain ⟨b1, b2, b3, rfl, _⟩ := hy
      show fitsD (plusFin s t (n * 2 ^ (e - min e f).toNat) (k * 2 ^ (f - min e f).toNat) (min e f))
      rw [plusFin_datum]
      obtain ⟨J, hJ⟩ : ∃ J : Nat, J = 1200 := ⟨_, rfl⟩
      have up : ∀ {z : Nat} {d : Nat}, z < 9007199254740992 → d ≤ J → z * 2 ^ d < 2 ^ (53 + J) := by
        intro z d hz hd
        have k1 : z * 2 ^ d < 2 ^ 53 * 2 ^ d := Nat.mul_lt_mul_of_pos_right hz (Nat.two_pow_pos _)
        rw [← Nat.pow_add] at k1
        exact Nat.lt_of_lt_of_le k1 (Nat.pow_le_pow_right (by decide) (by omega))
      have u1 := up (d := (e - min e f).toNat) a1 (by omega)
      have u2 := up (d := (f - min e f).toNat) b1 (by omega)
      refine ⟨?_, by omega, by omega, fun h => by cases h⟩
      generalize n * 2 ^ (e - min e f).toNat = X at u1
      generalize k * 2 ^ (f - min e f).toNat = Y at u2
      have e54 : 2 ^ (53 + J + 1) = 2 * 2 ^ (53 + J) := by rw [Nat.pow_succ]; omega
      have hs : ((if s = true then -(X : Int) else X) + (if t = true then -(Y : Int) else Y)).natAbs < 2 ^ (53 + J + 1) := by
        rw [e54]
        generalize 2 ^ (53 + J) = B at u1 u2
        split <;> split <;> omega
      have := blen_le hs
      omega
theorem times_fitsD {x y : RNum} (hx : wideR x) (hy : wideR y) : fitsD (timesR x y) := by
  cases x using RNum.rec3 with
  | nan => exact trivial
  | inf s =>
    cases y using RNum.rec3 with
    | nan => exact trivial
    | inf t => exact trivial
    | fin t k f g => show fitsD (if zeroB (.fin t k f g) = true then .nan else .inf (s != t)); split <;> exact trivial
  | fin s n e m =>
    cases y using RNum.rec3 with
    | nan => exact trivial
    | inf t => show fitsD (if zeroB (.fin s n e m) = true then .nan else .inf (s != t)); split <;> exact trivial
    | fin t k f g =>
      obtain ⟨a1, a2, a3, rfl, _⟩ := hx
      obtain ⟨b1, b2, b3, rfl, _⟩ := hy
      refine ⟨?_, by omega, by omega, fun h => by cases h⟩
      have : n * k < 2 ^ 53 * 2 ^ 53 := Nat.mul_lt_mul_of_lt_of_le a1 (Nat.le_of_lt b1) (by decide)
      rw [← Nat.pow_add] at this
      have := blen_le this
      omega
theorem div_fitsD {x y : RNum} (hx : wideR x) (hy : wideR y) : fitsD (divR x y) := by
  cases x using RNum.rec3 with
  | nan => exact trivial
  | inf s =>
    cases y using RNum.rec3 with
    | nan => exact trivial
    | inf t => exact trivial
    | fin t k f g => exact trivial
  | fin s n e m =>
    cases y using RNum.rec3 with
    | nan => exact trivial
    | inf t => exact ⟨by decide, by decide, by decide, fun h => by cases h⟩
    | fin t k f g =>
      obtain ⟨a1, a2, a3, rfl, a5⟩ := hx
      obtain ⟨b1, b2, b3, rfl, b5⟩ := hy
      by_cases hz : n = 0 ∨ k = 0
      · rw [divR_zero hz]
        split
        · split <;> exact trivial
        · exact ⟨by decide, by decide, by decide, fun h => by cases h⟩
      · have n0 : n ≠ 0 := fun c => hz (Or.inl c)
        have k0 : k ≠ 0 := fun c => hz (Or.inr c)
        rw [divR_fin n0 k0]
        have hsh : shV n k ≤ 120 := by
          unfold shV
          have c2 := blen_le (n := k) (k := 53) b1
          omega
        have hbig := quo_big n0 k0
        have d1 := a5 n0
        have d2 := b5 k0
        have hq : n * 2 ^ shV n k / k < 2 ^ 200 := by
          refine Nat.lt_of_le_of_lt (Nat.div_le_self _ _) ?_
          have k1 : n * 2 ^ shV n k < 2 ^ 53 * 2 ^ shV n k := Nat.mul_lt_mul_of_pos_right a1 (Nat.two_pow_pos _)
          rw [← Nat.pow_add] at k1
          exact Nat.lt_of_lt_of_le k1 (Nat.pow_le_pow_right (by decide) (by omega))
        refine ⟨by have := blen_le hq; omega, by omega, by omega, fun _ => ⟨by omega, ?_⟩⟩
        unfold lastOf
        have : 59 ≤ (n * 2 ^ shV n k / k).log2 := (Nat.le_log2 (by omega)).2 hbig
        rw [frac64]
        omega
end Go.Proofs.YtnjagokojdpgpabDoor
/- Plain facts: orders of two, ones, noughts and halves, in the model's own words of floats. -/
namespace Go.Proofs.YtnjagokojdpgpabDoor
open Go.RowKit

theorem sum_comm (d d' : Ieee.Datum) : d.sum d' = d'.sum d := by
  cases d with
  | nan s t => cases d' <;> rfl
  | infinity s =>
    cases d' with
    | nan t f => rfl
    | infinity t =>
      show (if s = t then some (Ieee.Datum.infinity s) else none) = (if t = s then some (Ieee.Datum.infinity t) else none)
      by_cases h : s = t
      · subst h; rfl
      · rw [if_neg h, if_neg (fun e => h e.symm)]
    | number t n j => rfl
  | number s m i =>
    cases d' with
    | nan t f => rfl
    | infinity t => rfl
    | number t n j =>
      simp only [Ieee.Datum.sum]
      rw [Int.min_comm j i, Int.add_comm (Ieee.signed t n _), Bool.and_comm t s]
theorem product_comm (d d' : Ieee.Datum) : d.product d' = d'.product d := by
  cases d with
  | nan s t => cases d' <;> rfl
  | infinity s =>
    cases d' with
    | nan t f => rfl
    | infinity t => simp only [Ieee.Datum.product]; rw [Bool.xor_comm]
    | number t n j => rfl
  | number s m i =>
    cases d' with
    | nan t f => rfl
    | infinity t => rfl
    | number t n j =>
      simp only [Ieee.Datum.product]
      rw [Bool.xor_comm, Nat.mul_comm, Int.add_comm]
theorem leastV_comm {a b : Nat} : leastV (a : Int) (b : Int) = leastV b a := by
  unfold leastV befB keyV
  simp only [decide_eq_true_eq]
  repeat' split
  all_goals omega
theorem greatestV_comm {a b : Nat} : greatestV (a : Int) (b : Int) = greatestV b a := by
  unfold greatestV befB keyV
  simp only [decide_eq_true_eq]
  repeat' split
  all_goals omega

/-- A sample's own rung. -/
theorem self32 {r : Nat} (h : r < 2139095040) : rungOf Ieee.single (mag32 r) (-149 + (plc32 r : Int)) = r := by
  by_cases h0 : r = 0
  · subst h0; rw [show mag32 0 = 0 from by decide, rungOf_zero]
  · have hm := mag_ne32 h0
    have hm1 := mag_lt32 r
    have hp : plc32 r ≤ 253 := by unfold plc32; omega
    have hr : mag32 r + plc32 r * 8388608 = r := by unfold mag32 plc32; omega
    unfold rungOf
    rw [if_neg hm]
    have hl : (mag32 r).log2 ≤ 23 := by
      have := (Nat.log2_lt hm).2 (show mag32 r < 2 ^ 24 from hm1)
      omega
    have e : lastOf Ieee.single (mag32 r) (-149 + (plc32 r : Int)) = -149 + (plc32 r : Int) := by
      unfold lastOf
      rw [least32, show (Ieee.single.fractionBits : Int) = 23 from rfl]
      rcases Nat.eq_zero_or_pos (plc32 r) with g | g
      · rw [g]; omega
      · have h2 : 23 ≤ (mag32 r).log2 := (Nat.le_log2 hm).2 (mag_ge32 g)
        omega
    rw [e, least32, binade32, inf32, Int.sub_self]
    have e2 : rz (mag32 r) 0 = mag32 r := by
      have := rz_nat (mag32 r) 0
      rw [Nat.pow_zero, Nat.mul_one] at this
      exact this
    rw [e2, show (-149 + (plc32 r : Int) - -149).toNat = plc32 r by omega, Nat.min_eq_left (by omega)]
    omega
theorem told_self {a : Nat} (ha : a < 4294967296) (h : rung32 a < 2139095040) : Ieee.single.word (sgn32 a) (rungOf Ieee.single (mag32 (rung32 a)) (-149 + (plc32 (rung32 a) : Int))) = a := by
  rw [self32 h, ← word_of32 ha]
theorem told_sinf {a : Nat} (ha : a < 4294967296) (h : rung32 a = 2139095040) : Ieee.single.word (sgn32 a) 2139095040 = a := by
  rw [← h, ← word_of32 ha]
theorem toldD_inf (s : Bool) : toldD (some (.infinity s)) = Ieee.single.word s 2139095040 := by
  show Ieee.single.word s Ieee.single.infRung = _
  rw [inf32]

theorem read_half : Ieee.single.read 1056964608 = .number false 8388608 (-24) := by decide
theorem read_one32 : Ieee.single.read 1065353216 = .number false 8388608 (-23) := by decide
theorem read_two : Ieee.single.read 1073741824 = .number false 8388608 (-22) := by decide
theorem read_minus : Ieee.single.read 2147483648 = .number true 0 (-149) := by decide
theorem read_plus : Ieee.single.read 0 = .number false 0 (-149) := by decide
theorem xor_f (s : Bool) : (s ^^ false) = s := by cases s <;> rfl

/-- Times a power of two. -/
theorem mul_power (s : Bool) (m : Nat) (p q : Int) : toldD ((Ieee.Datum.number s m p).product (.number false 8388608 q)) = Ieee.single.word s (rungOf Ieee.single m (p + q + 23)) := by
  show toldD (some (.number (s ^^ false) (m * 2 ^ 23) (p + q))) = _
  rw [xor_f, toldD_num, rung_scale]; rfl
/-- By a power of two. -/
theorem quo_power (s : Bool) {m : Nat} (hm : m < 16777216) (p q : Int) : toldD ((Ieee.Datum.number s m p).quotient 25 (.number false 8388608 q)) = Ieee.single.word s (rungOf Ieee.single m (p - q - 23)) := by
  have hl2 : (8388608 : Nat).log2 = 23 := by decide
  have hl : m.log2 ≤ 23 := by
    by_cases h0 : m = 0
    · subst h0; decide
    · have := (Nat.log2_lt h0).2 (show m < 2 ^ 24 from hm); omega
  obtain ⟨B, hB⟩ : ∃ B, B = 25 + (8388608 : Nat).log2 - m.log2 := ⟨_, rfl⟩
  have hB1 : 25 ≤ B := by omega
  have em : (Ieee.Datum.number s m p).quotient 25 (.number false 8388608 q) = some (.number (s ^^ false) (2 * ((m <<< B) / 8388608) + ((m <<< B) % 8388608 != 0).toNat) (p - q - (B : Int) - 1)) := by
    rw [hB]; simp [Ieee.Datum.quotient]
  have e1 : m <<< B = m * 2 ^ (B - 23) * 8388608 := by
    rw [Nat.shiftLeft_eq, Nat.mul_assoc, show (8388608 : Nat) = 2 ^ 23 from rfl, ← Nat.pow_add, show B - 23 + 23 = B by omega]
  rw [em, e1, Nat.mul_div_cancel _ (by decide), Nat.mul_mod_left, xor_f, toldD_num]
  refine congrArg (Ieee.single.word s) ?_
  show rungOf Ieee.single (2 * (m * 2 ^ (B - 23)) + 0) _ = _
  have e2 : 2 * (m * 2 ^ (B - 23)) + 0 = m * 2 ^ (B - 22) := by
    rw [show B - 22 = (B - 23) + 1 by omega, Nat.pow_succ, Nat.add_zero, Nat.mul_comm 2, Nat.mul_assoc]
  rw [e2, rung_scale]
  congr 1; omega
theorem cases32 {a : Nat} (h : nanN a = false) : rung32 a < 2139095040 ∨ rung32 a = 2139095040 := by
  rw [nanN_rung] at h
  have h := of_decide_eq_false h
  omega
theorem toldD_none : toldD none = 2143289344 := rfl

theorem half_link (a : Nat) : toldD ((Ieee.single.read a).quotient 25 (Ieee.single.read 1073741824)) = scaleV a (-1) := by
  rw [read_two]
  cases h : nanN a
  · rcases cases32 h with g | g
    · rw [read_fin32 g, quo_power _ (mag_lt32 _)]
      by_cases z : rung32 a = 0
      · rw [scaleV_zero z, z, show mag32 0 = 0 from by decide, rungOf_zero]
      · rw [scaleV_fin z g]
        refine congrArg (Ieee.single.word _) ?_
        congr 1; omega
    · rw [read_inf32 g, scaleV_inf g, show (Ieee.Datum.infinity (sgn32 a)).quotient 25 (.number false 8388608 (-22)) = some (.infinity (sgn32 a ^^ false)) from rfl, toldD_inf, xor_f]
  · obtain ⟨s, t, e⟩ := isNaN_cases (read32_nan h)
    rw [e, scaleV_nan h]; rfl
theorem mulhalf_link (a : Nat) : toldD ((Ieee.single.read a).product (Ieee.single.read 1056964608)) = scaleV a (-1) := by
  rw [read_half]
  cases h : nanN a
  · rcases cases32 h with g | g
    · rw [read_fin32 g, mul_power]
      by_cases z : rung32 a = 0
      · rw [scaleV_zero z, z, show mag32 0 = 0 from by decide, rungOf_zero]
      · rw [scaleV_fin z g]
        refine congrArg (Ieee.single.word _) ?_
        congr 1; omega
    · rw [read_inf32 g, scaleV_inf g, show (Ieee.Datum.infinity (sgn32 a)).product (.number false 8388608 (-24)) = some (.infinity (sgn32 a ^^ false)) from rfl, toldD_inf, xor_f]
  · obtain ⟨s, t, e⟩ := isNaN_cases (read32_nan h)
    rw [e, scaleV_nan h]; rfl
theorem mul_one {a : Nat} (ha : a < 4294967296) : toldD ((Ieee.single.read a).product (Ieee.single.read 1065353216)) = madeN a := by
  rw [read_one32]
  cases h : nanN a
  · rw [madeN_of h]
    rcases cases32 h with g | g
    · rw [read_fin32 g, mul_power, show -149 + (plc32 (rung32 a) : Int) + -23 + 23 = -149 + (plc32 (rung32 a) : Int) by omega, told_self ha g]
    · rw [read_inf32 g, show (Ieee.Datum.infinity (sgn32 a)).product (.number false 8388608 (-23)) = some (.infinity (sgn32 a ^^ false)) from rfl, toldD_inf, xor_f, told_sinf ha g]
  · obtain ⟨s, t, e⟩ := isNaN_cases (read32_nan h)
    rw [e, madeN_nan h]; rfl
theorem div_one {a : Nat} (ha : a < 4294967296) : toldD ((Ieee.single.read a).quotient 25 (Ieee.single.read 1065353216)) = madeN a := by
  rw [read_one32]
  cases h : nanN a
  · rw [madeN_of h]
    rcases cases32 h with g | g
    · rw [read_fin32 g, quo_power _ (mag_lt32 _), show -149 + (plc32 (rung32 a) : Int) - -23 - 23 = -149 + (plc32 (rung32 a) : Int) by omega, told_self ha g]
    · rw [read_inf32 g, show (Ieee.Datum.infinity (sgn32 a)).quotient 25 (.number false 8388608 (-23)) = some (.infinity (sgn32 a ^^ false)) from rfl, toldD_inf, xor_f, told_sinf ha g]
  · obtain ⟨s, t, e⟩ := isNaN_cases (read32_nan h)
    rw [e, madeN_nan h]; rfl
theorem signed_zero (s : Bool) (k : Nat) : Ieee.signed s 0 k = 0 := by unfold Ieee.signed; rw [Nat.shiftLeft_eq, Nat.zero_mul]; cases s <;> rfl
theorem add_minus_fin (s : Bool) (m : Nat) (p : Int) (hp : -1074 ≤ p) : toldD ((Ieee.Datum.number s m p).sum (.number true 0 (-149))) = Ieee.single.word s (rungOf Ieee.single m p) := by
  obtain ⟨N, b, e1, e2⟩ := sum_units s true m 0 p (-149) hp (by decide)
  rw [signed_zero, Int.add_zero] at e1 e2
  rw [e1, toldD_num, e2, signed_abs, rung_scale, show -1074 + (((p + 1074).toNat : Nat) : Int) = p by omega]
  congr 1
  unfold sg
  by_cases h : Ieee.signed s m (p + 1074).toNat = 0
  · rw [if_pos h, Bool.and_true]
  · rw [if_neg h]; exact (signed_sign h).symm
theorem add_nought {a : Nat} (ha : a < 4294967296) : toldD ((Ieee.single.read a).sum (Ieee.single.read 2147483648)) = madeN a := by
  rw [read_minus]
  cases h : nanN a
  · rw [madeN_of h]
    rcases cases32 h with g | g
    · rw [read_fin32 g, add_minus_fin _ _ _ (by omega), told_self ha g]
    · rw [read_inf32 g, show (Ieee.Datum.infinity (sgn32 a)).sum (.number true 0 (-149)) = some (.infinity (sgn32 a)) from rfl, toldD_inf, told_sinf ha g]
  · obtain ⟨s, t, e⟩ := isNaN_cases (read32_nan h)
    rw [e, madeN_nan h]; rfl
theorem sub_nought {a : Nat} (ha : a < 4294967296) : toldD ((Ieee.single.read a).sum (Ieee.single.read 0).opposite) = madeN a := by
  rw [show (Ieee.single.read 0).opposite = Ieee.single.read 2147483648 from by rw [read_plus, read_minus]; rfl, add_nought ha]
theorem nought_sub {a : Nat} (h : nanN a = false) : toldD ((Ieee.single.read 0).sum (Ieee.single.read a).opposite) % 2147483648 = a % 2147483648 := by
  rw [read_plus]
  rcases cases32 h with g | g
  · rw [read_fin32 g]
    obtain ⟨N, b, e1, e2⟩ := sum_units false (!sgn32 a) 0 (mag32 (rung32 a)) (-149) (-149 + (plc32 (rung32 a) : Int)) (by decide) (by omega)
    rw [signed_zero, Int.zero_add] at e1 e2
    show toldD ((Ieee.Datum.number false 0 (-149)).sum (.number (!sgn32 a) (mag32 (rung32 a)) (-149 + (plc32 (rung32 a) : Int)))) % _ = _
    rw [e1, toldD_num, e2, signed_abs, rung_scale, show -1074 + (((-149 + (plc32 (rung32 a) : Int) + 1074).toNat : Nat) : Int) = -149 + (plc32 (rung32 a) : Int) by omega, self32 g]
    exact (sgn_word32 _ (by omega)).2
  · rw [read_inf32 g]
    show toldD (some (.infinity (!sgn32 a))) % _ = _
    rw [toldD_inf]
    have := (sgn_word32 (!sgn32 a) (r := 2139095040) (by decide)).2
    unfold rung32 at this g
    rw [this, g]
theorem narrow_wide {a : Nat} (ha : a < 4294967296) : toldD (some (Ieee.double.read (wideW a))) = madeN a := by
  cases h : nanN a
  · have e0 : wideW a = wideN a := by unfold wideW; rw [h]; rfl
    rw [e0, madeN_of h]
    rcases cases32 h with g | g
    · obtain ⟨r, s, v⟩ := wide_fin g
      have e := val_abs (wideN a)
      rw [v] at e
      unfold sampleZ at e
      rw [signed_abs] at e
      rw [read_fin64 r, toldD_num, rung_word64, ← e, s, rung_scale, show (-1074 : Int) + ((plc32 (rung32 a) + 925 : Nat) : Int) = -149 + (plc32 (rung32 a) : Int) by omega, told_self ha g]
    · rw [wide_read_inf g, toldD_inf, told_sinf ha g]
  · have e0 : wideW a = 9221120237041090560 := by unfold wideW; rw [h]; rfl
    rw [e0, madeN_nan h]; decide +kernel
theorem sum_num_inf (s : Bool) (m : Nat) (p : Int) (t : Bool) : (Ieee.Datum.number s m p).sum (.infinity t) = some (.infinity t) := rfl
theorem fma_one (a b : Nat) : toldD (fmaD a 1065353216 b) = toldD ((Ieee.single.read a).sum (Ieee.single.read b)) := by
  unfold fmaD
  rw [read_one32]
  cases h : nanN a
  · rcases cases32 h with g | g
    · rw [read_fin32 g]
      show toldD ((Ieee.Datum.number (sgn32 a ^^ false) (mag32 (rung32 a) * 8388608) (-149 + (plc32 (rung32 a) : Int) + -23)).sum (Ieee.single.read b)) = _
      rw [xor_f]
      cases hb : nanN b
      · rcases cases32 hb with k | k
        · rw [read_fin32 k]
          obtain ⟨N, c, e1, e2⟩ := sum_units (sgn32 a) (sgn32 b) (mag32 (rung32 a) * 8388608) (mag32 (rung32 b)) (-149 + (plc32 (rung32 a) : Int) + -23) (-149 + (plc32 (rung32 b) : Int)) (by omega) (by omega)
          obtain ⟨N', c', f1, f2⟩ := sum_units (sgn32 a) (sgn32 b) (mag32 (rung32 a)) (mag32 (rung32 b)) (-149 + (plc32 (rung32 a) : Int)) (-149 + (plc32 (rung32 b) : Int)) (by omega) (by omega)
          have ez : Ieee.signed (sgn32 a) (mag32 (rung32 a) * 8388608) (-149 + (plc32 (rung32 a) : Int) + -23 + 1074).toNat = Ieee.signed (sgn32 a) (mag32 (rung32 a)) (-149 + (plc32 (rung32 a) : Int) + 1074).toNat := by
            unfold Ieee.signed
            rw [Nat.shiftLeft_eq, Nat.shiftLeft_eq, Nat.mul_assoc, show (8388608 : Nat) = 2 ^ 23 from rfl, ← Nat.pow_add, show 23 + (-149 + (plc32 (rung32 a) : Int) + -23 + 1074).toNat = (-149 + (plc32 (rung32 a) : Int) + 1074).toNat by omega]
          rw [ez] at e1 e2
          rw [e1, f1, toldD_num, toldD_num, e2, f2]
        · rw [read_inf32 k, sum_num_inf, sum_num_inf]
      · rw [sum_nan2 (read32_nan hb), sum_nan2 (read32_nan hb)]
    · rw [read_inf32 g]
      show toldD ((Ieee.Datum.infinity (sgn32 a ^^ false)).sum (Ieee.single.read b)) = _
      rw [xor_f]
  · rw [product_nan1 (read32_nan h), sum_nan1 (read32_nan h)]; rfl
theorem fma_nought {a b : Nat} (hp : toldD ((Ieee.single.read a).product (Ieee.single.read b)) % 2147483648 ≠ 0) : toldD (fmaD a b 2147483648) = toldD ((Ieee.single.read a).product (Ieee.single.read b)) := by
  unfold fmaD
  rw [read_minus]
  cases hd : (Ieee.single.read a).product (Ieee.single.read b) with
  | none => rfl
  | some d =>
    rw [hd] at hp
    show toldD (d.sum (.number true 0 (-149))) = _
    cases d with
    | nan s t => exact absurd (product_num hd) (by simp [Ieee.Datum.isNaN])
    | infinity s => rfl
    | number s m p =>
      have hpl : -1074 ≤ p := by
        cases ha : nanN a
        · cases hb : nanN b
          · rcases cases32 ha with g | g
            · rcases cases32 hb with k | k
              · rw [read_fin32 g, read_fin32 k] at hd
                have hd : some (Ieee.Datum.number (sgn32 a ^^ sgn32 b) (mag32 (rung32 a) * mag32 (rung32 b)) (-149 + (plc32 (rung32 a) : Int) + (-149 + (plc32 (rung32 b) : Int)))) = some (.number s m p) := hd
                injection hd with hd
                injection hd with h1 h2 h3
                omega
              · rw [read_fin32 g, read_inf32 k] at hd
                have hd : (if mag32 (rung32 a) = 0 then none else some (Ieee.Datum.infinity (sgn32 b ^^ sgn32 a))) = some (.number s m p) := hd
                split at hd
                · cases hd
                · injection hd with hd; cases hd
            · rcases cases32 hb with k | k
              · rw [read_inf32 g, read_fin32 k] at hd
                have hd : (if mag32 (rung32 b) = 0 then none else some (Ieee.Datum.infinity (sgn32 a ^^ sgn32 b))) = some (.number s m p) := hd
                split at hd
                · cases hd
                · injection hd with hd; cases hd
              · rw [read_inf32 g, read_inf32 k] at hd
                have hd : some (Ieee.Datum.infinity (sgn32 a ^^ sgn32 b)) = some (.number s m p) := hd
                injection hd with hd; cases hd
          · rw [product_nan2 (read32_nan hb)] at hd; cases hd
        · rw [product_nan1 (read32_nan ha)] at hd; cases hd
      rw [add_minus_fin _ _ _ hpl, toldD_num]
end Go.Proofs.YtnjagokojdpgpabDoor

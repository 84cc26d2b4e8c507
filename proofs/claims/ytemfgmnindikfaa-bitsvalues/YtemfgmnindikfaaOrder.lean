/- Plain facts: the order of binary32 words as values, told by their rungs (the bits below the sign). -/
import Ieee.Arith
import Derived.Test.YtemfgmnindikfaaMath
namespace Go.Proofs.Ytemfgmnindikfaa
open Go.RowKit

/-- The place of a rung above the least one, and its magnitude there. -/
def plc (r : Nat) : Nat := r / 8388608 - 1
def mag (r : Nat) : Nat := r - plc r * 8388608
def val (r : Nat) : Nat := mag r * 2 ^ plc r

theorem mag_lt (r : Nat) : mag r < 16777216 := by unfold mag plc; omega
theorem mag_ge {r : Nat} (h : 0 < plc r) : 8388608 ≤ mag r := by unfold mag; unfold plc at h ⊢; omega
theorem val_mono {r s : Nat} (h : r < s) : val r < val s := by
  have hk : plc r ≤ plc s := by
    have : r / 8388608 ≤ s / 8388608 := Nat.div_le_div_right (Nat.le_of_lt h)
    unfold plc; omega
  rcases Nat.lt_or_ge (plc r) (plc s) with hlt | hge
  · obtain ⟨d, hd⟩ : ∃ d, plc s = plc r + 1 + d := ⟨plc s - plc r - 1, by omega⟩
    have h1 : val r < 16777216 * 2 ^ plc r := by unfold val; exact Nat.mul_lt_mul_of_pos_right (mag_lt r) (Nat.two_pow_pos _)
    have h2 : 8388608 * 2 ^ plc s ≤ val s := by unfold val; exact Nat.mul_le_mul_right _ (mag_ge (by omega))
    have h3 : 16777216 * 2 ^ plc r ≤ 8388608 * 2 ^ plc s := by
      rw [hd, Nat.pow_add, Nat.pow_succ]
      have : 1 ≤ 2 ^ d := Nat.two_pow_pos d
      have h4 : 16777216 * 2 ^ plc r * 1 ≤ 16777216 * 2 ^ plc r * 2 ^ d := Nat.mul_le_mul_left _ this
      have h5 : 8388608 * (2 ^ plc r * 2 * 2 ^ d) = 16777216 * 2 ^ plc r * 2 ^ d := by
        rw [← Nat.mul_assoc, ← Nat.mul_assoc, Nat.mul_right_comm 8388608 _ 2]
      omega
    omega
  · have e : plc r = plc s := by omega
    unfold val
    rw [← e]
    refine Nat.mul_lt_mul_of_pos_right ?_ (Nat.two_pow_pos _)
    have b1 : plc r * 8388608 ≤ r := by unfold plc; omega
    unfold mag; rw [← e]; omega
theorem val_zero : val 0 = 0 := by decide

/-- The sign bit of a word and its rung. -/
def sgn (x : Nat) : Bool := x / 2147483648 % 2 == 1
def rung (x : Nat) : Nat := x % 2147483648
/-- The signed rung. -/
def srung (x : Nat) : Int := if sgn x = true then -(rung x : Int) else rung x

theorem single_sign : Ieee.single.signWeight = 2147483648 := by decide
theorem single_binade : Ieee.single.binade = 8388608 := by decide
theorem single_inf : Ieee.single.infRung = 2139095040 := by decide
theorem single_least : Ieee.single.leastPlace = -149 := by decide

theorem read_fin {x : Nat} (h : rung x < 2139095040) : Ieee.single.read x = .number (sgn x) (mag (rung x)) (-149 + (plc (rung x) : Int)) := by
  unfold Ieee.Format.read
  rw [single_sign, single_binade, single_inf, single_least]
  show (if rung x < 8388608 then Ieee.Datum.number (sgn x) (rung x) (-149) else if rung x < 2139095040 then _ else _) = _
  by_cases c : rung x < 8388608
  · rw [if_pos c]
    have e1 : plc (rung x) = 0 := by unfold plc; omega
    have e2 : mag (rung x) = rung x := by unfold mag; rw [e1]; omega
    rw [e1, e2]; rfl
  · rw [if_neg c, if_pos h]
    have e2 : 8388608 + rung x % 8388608 = mag (rung x) := by unfold mag plc; omega
    show Ieee.Datum.number (sgn x) (8388608 + rung x % 8388608) (-149 + ((rung x / 8388608 - 1 : Nat) : Int)) = _
    rw [e2]; rfl
theorem read_inf {x : Nat} (h : rung x = 2139095040) : Ieee.single.read x = .infinity (sgn x) := by
  unfold Ieee.Format.read
  rw [single_sign, single_binade, single_inf, single_least]
  show (if rung x < 8388608 then _ else if rung x < 2139095040 then _ else if rung x = 2139095040 then Ieee.Datum.infinity (sgn x) else _) = _
  rw [if_neg (by omega), if_neg (by omega), if_pos h]
theorem read_nan {x : Nat} (h : 2139095040 < rung x) : Ieee.single.read x = .nan (sgn x) (rung x - 2139095040) := by
  unfold Ieee.Format.read
  rw [single_sign, single_binade, single_inf, single_least]
  show (if rung x < 8388608 then _ else if rung x < 2139095040 then _ else if rung x = 2139095040 then _ else Ieee.Datum.nan (sgn x) (rung x - 2139095040)) = _
  rw [if_neg (by omega), if_neg (by omega), if_neg (by omega)]

theorem cmp_of {a b : Int} {o : Ordering} (h : (a < b ∧ o = .lt) ∨ (a = b ∧ o = .eq) ∨ (b < a ∧ o = .gt)) : compare a b = o := by
  rcases h with ⟨h, rfl⟩ | ⟨h, rfl⟩ | ⟨h, rfl⟩
  · exact Int.compare_eq_lt.2 h
  · exact Int.compare_eq_eq.2 h
  · exact Int.compare_eq_gt.2 h
/-- Two pairs of numbers that stand alike compare alike. -/
theorem cmp_alike {a b c d : Int} (h1 : c < d → a < b) (h2 : c = d → a = b) (h3 : d < c → b < a) : compare a b = compare c d := by
  rcases Int.lt_trichotomy c d with h | h | h
  · rw [Int.compare_eq_lt.2 h, Int.compare_eq_lt.2 (h1 h)]
  · rw [Int.compare_eq_eq.2 h, Int.compare_eq_eq.2 (h2 h)]
  · rw [Int.compare_eq_gt.2 h, Int.compare_eq_gt.2 (h3 h)]

/-- The signed value in units of the least place. -/
def sval (x : Nat) : Int := if sgn x = true then -(val (rung x) : Int) else val (rung x)
theorem val_inj_lt {r s : Nat} : val r < val s ↔ r < s := by
  constructor
  · intro h
    rcases Nat.lt_trichotomy r s with g | g | g
    · exact g
    · subst g; omega
    · have := val_mono g; omega
  · exact val_mono
theorem val_pos {r : Nat} (h : 0 < r) : 0 < val r := by have := val_mono h; rw [val_zero] at this; exact this
theorem sval_srung (x y : Nat) : compare (sval x) (sval y) = compare (srung x) (srung y) := by
  unfold sval srung
  have l1 := @val_inj_lt (rung x) (rung y)
  have l2 := @val_inj_lt (rung y) (rung x)
  have z1 : 0 < rung x → 0 < val (rung x) := val_pos
  have z2 : 0 < rung y → 0 < val (rung y) := val_pos
  have z3 : rung x = 0 → val (rung x) = 0 := fun h => by rw [h]; exact val_zero
  have z4 : rung y = 0 → val (rung y) = 0 := fun h => by rw [h]; exact val_zero
  have z5 : rung x = rung y → val (rung x) = val (rung y) := fun h => by rw [h]
  generalize val (rung x) = vx at *
  generalize val (rung y) = vy at *
  generalize rung x = rx at *
  generalize rung y = ry at *
  refine cmp_alike ?_ ?_ ?_ <;> split <;> split <;> omega

theorem signed_shift (s : Bool) (m k j : Nat) : Ieee.signed s m k * 2 ^ j = Ieee.signed s (m * 2 ^ (k + j)) 0 := by
  unfold Ieee.signed
  rw [Nat.shiftLeft_eq, Nat.shiftLeft_eq, Nat.pow_add]
  cases s <;> simp [Int.mul_assoc, Int.neg_mul]

theorem cmp_scale {a b p : Int} (h : 0 < p) : compare (a * p) (b * p) = compare a b := by
  refine cmp_alike (fun g => Int.mul_lt_mul_of_pos_right g h) (fun g => by rw [g]) (fun g => Int.mul_lt_mul_of_pos_right g h)

theorem order_fin {x y : Nat} (hx : rung x < 2139095040) (hy : rung y < 2139095040) : Ieee.single.order x y = some (compare (srung x) (srung y)) := by
  unfold Ieee.Format.order
  rw [read_fin hx, read_fin hy]
  show some (compare (Ieee.signed (sgn x) (mag (rung x)) (-149 + (plc (rung x) : Int) - min (-149 + (plc (rung x) : Int)) (-149 + (plc (rung y) : Int))).toNat) (Ieee.signed (sgn y) (mag (rung y)) (-149 + (plc (rung y) : Int) - min (-149 + (plc (rung x) : Int)) (-149 + (plc (rung y) : Int))).toNat)) = _
  congr 1
  generalize hk : min (plc (rung x)) (plc (rung y)) = k
  have e1 : (-149 + (plc (rung x) : Int) - min (-149 + (plc (rung x) : Int)) (-149 + (plc (rung y) : Int))).toNat = plc (rung x) - k := by omega
  have e2 : (-149 + (plc (rung y) : Int) - min (-149 + (plc (rung x) : Int)) (-149 + (plc (rung y) : Int))).toNat = plc (rung y) - k := by omega
  rw [e1, e2, ← sval_srung]
  have hp : (0 : Int) < 2 ^ k := Int.pow_pos (by decide)
  rw [← cmp_scale hp, signed_shift, signed_shift]
  rw [show plc (rung x) - k + k = plc (rung x) by omega, show plc (rung y) - k + k = plc (rung y) by omega]
  unfold Ieee.signed sval val
  simp

theorem order_num {x y : Nat} (hx : rung x ≤ 2139095040) (hy : rung y ≤ 2139095040) : Ieee.single.order x y = some (compare (srung x) (srung y)) := by
  rcases Nat.lt_or_ge (rung x) 2139095040 with gx | gx
  · rcases Nat.lt_or_ge (rung y) 2139095040 with gy | gy
    · exact order_fin gx gy
    · unfold Ieee.Format.order
      rw [read_fin gx, read_inf (by omega)]
      show some (if sgn y = true then Ordering.gt else Ordering.lt) = _
      congr 1
      symm
      unfold srung
      cases sgn x <;> cases sgn y <;> (refine cmp_of ?_; simp; omega)
  · rcases Nat.lt_or_ge (rung y) 2139095040 with gy | gy
    · unfold Ieee.Format.order
      rw [read_fin gy, read_inf (by omega)]
      show some (if sgn x = true then Ordering.lt else Ordering.gt) = _
      congr 1
      symm
      unfold srung
      cases sgn x <;> cases sgn y <;> (refine cmp_of ?_; simp; omega)
    · unfold Ieee.Format.order
      have e1 : rung x = 2139095040 := by omega
      have e2 : rung y = 2139095040 := by omega
      rw [read_inf e1, read_inf e2]
      show some (compare (sgn y).toNat (sgn x).toNat) = _
      congr 1
      unfold srung
      rw [e1, e2]
      cases sgn x <;> cases sgn y <;> rfl
theorem order_nan_left {x y : Nat} (h : 2139095040 < rung x) : Ieee.single.order x y = none := by
  unfold Ieee.Format.order; rw [read_nan h]; rfl
theorem order_nan_right {x y : Nat} (h : 2139095040 < rung y) : Ieee.single.order x y = none := by
  unfold Ieee.Format.order; rw [read_nan h]
  cases Ieee.single.read x <;> rfl
end Go.Proofs.Ytemfgmnindikfaa

/- What the library's Ldexp returns of a binary64 number and a power that keeps it normal, and package arith's Scale; what was in memory stays as it was. -/
import Derived.Test.YtfolecnjaaakeaaCodeC
import Derived.Test.YtfolecnjaaakeaaDbl
namespace Go.Proofs.Ytfolecnjaaakeaa
open Go.RowKit

theorem i64_and (a b : Nat) (ha : a < 9223372036854775808) (hb : b < 9223372036854775808) : bits .and .i64 (a : Int) (b : Int) = ((a &&& b : Nat) : Int) := by
  have hx : a &&& b < 2 ^ 63 := Nat.and_lt_two_pow _ (by omega)
  show IntKind.i64.wrap ((BitVec.ofInt 64 (a : Int) &&& BitVec.ofInt 64 (b : Int)).toNat : Int) = _
  rw [BitVec.toNat_and, ofInt_u64 a (by omega), ofInt_u64 b (by omega), IntKind.wrap_i64]
  omega
theorem top_off (r : Int) (h0 : 0 ≤ r) (h1 : r < 9223372036854775808) : bits .andNot .u64 (9223372036854775808 + r) 9223372036854775808 = r := by go_bits2
theorem top_off' (r : Int) (h0 : 0 ≤ r) (h1 : r < 9223372036854775808) : bits .andNot .u64 r 9223372036854775808 = r := by go_bits2
theorem nat_clear (x : Nat) : x &&& 9227875636482146303 = x / 9223372036854775808 % 2 * 9223372036854775808 + x % 4503599627370496 := by
  have e : (9227875636482146303 : Nat) = 2 ^ 63 ||| (2 ^ 52 - 1) := by decide
  rw [e, Nat.and_or_distrib_left, nat_bit 63 x, Nat.and_two_pow_sub_one_eq_mod]
  exact nat_join 63 _ _ (Nat.mul_mod_left _ _) (Nat.lt_trans (Nat.mod_lt _ (by decide)) (by decide))
theorem nat_lay (s q f : Nat) (hq : q < 2048) (hf : f < 4503599627370496) : (s * 9223372036854775808 + f) ||| (q * 4503599627370496) = s * 9223372036854775808 + (q * 4503599627370496 + f) := by
  have e1 : s * 9223372036854775808 + f = s * 9223372036854775808 ||| f := (nat_join 63 _ _ (by show s * 2 ^ 63 % 2 ^ 63 = 0; exact Nat.mul_mod_left _ _) (by omega)).symm
  have e2 : f ||| q * 4503599627370496 = q * 4503599627370496 + f := by
    rw [Nat.or_comm]; exact nat_join 52 _ _ (by show q * 2 ^ 52 % 2 ^ 52 = 0; exact Nat.mul_mod_left _ _) (by omega)
  rw [e1, Nat.or_assoc, e2]
  exact nat_join 63 _ _ (by show s * 2 ^ 63 % 2 ^ 63 = 0; exact Nat.mul_mod_left _ _) (by omega)

/-- The word as sign, exponent and the rest. -/
theorem wd_form (neg : Bool) (m : Nat) (p : Int) : wd neg m p = neg.toNat * 9223372036854775808 + ((p + 1074).toNat * 4503599627370496 + m) := by
  unfold wd; cases neg <;> simp
theorem wd_lt {neg : Bool} {m : Nat} {p : Int} (h1 : m < 9007199254740992) (p1 : p ≤ 971) : wd neg m p < 18446744073709551616 := by
  rw [wd_form]; have := Bool.toNat_lt neg; omega
theorem wd_exp {neg : Bool} {m : Nat} {p : Int} (h0 : 4503599627370496 ≤ m) (h1 : m < 9007199254740992) (p0 : -1074 ≤ p) (p1 : p ≤ 971) : bits .and .i64 ((wd neg m p : Int) / 4503599627370496) 2047 = p + 1075 := by
  have e1 : (wd neg m p : Int) / 4503599627370496 = ((wd neg m p / 4503599627370496 : Nat) : Int) := by omega
  have hlt := wd_lt (neg := neg) h1 p1
  rw [e1, show (2047 : Int) = ((2047 : Nat) : Int) from rfl, i64_and _ _ (by omega) (by omega), nat_mask11]
  have hb := Bool.toNat_lt neg
  rw [wd_form]
  omega
theorem wd_clear {neg : Bool} {m : Nat} {p : Int} (h0 : 4503599627370496 ≤ m) (h1 : m < 9007199254740992) (p1 : p ≤ 971) : bits .andNot .u64 (wd neg m p : Int) 9218868437227405312 = ((neg.toNat * 9223372036854775808 + (m - 4503599627370496) : Nat) : Int) := by
  have hlt := wd_lt (neg := neg) h1 p1
  rw [u64_andNot _ _ (by omega) (by omega) (by omega) (by omega)]
  rw [show (18446744073709551615 - (9218868437227405312 : Int).toNat) = 9227875636482146303 from rfl, nat_clear, Int.toNat_natCast]
  have hb := Bool.toNat_lt neg
  rw [wd_form]
  omega
theorem wd_lay {neg : Bool} {m : Nat} {x : Int} (h0 : 4503599627370496 ≤ m) (h1 : m < 9007199254740992) (x0 : 1 ≤ x) (x1 : x ≤ 2046) : bits .or .u64 ((neg.toNat * 9223372036854775808 + (m - 4503599627370496) : Nat) : Int) (x * 4503599627370496) = (wd neg m (x - 1075) : Int) := by
  have hb := Bool.toNat_lt neg
  obtain ⟨q, rfl⟩ := Int.eq_ofNat_of_zero_le (show 0 ≤ x by omega)
  rw [show ((q : Int) * 4503599627370496) = ((q * 4503599627370496 : Nat) : Int) by omega, u64_or_nat _ _ (by omega) (by omega), nat_lay _ _ _ (by omega) (by omega), wd_form]
  omega

theorem abs_bits {x : Nat} (hx : x < 18446744073709551616) : bits .andNot .u64 (x : Int) 9223372036854775808 = (rung64 x : Int) := by
  unfold rung64
  rcases Nat.lt_or_ge x 9223372036854775808 with g | g
  · rw [top_off' _ (by omega) (by omega)]; omega
  · obtain ⟨r, rfl⟩ : ∃ r, x = 9223372036854775808 + r := ⟨x - 9223372036854775808, by omega⟩
    rw [show ((9223372036854775808 + r : Nat) : Int) = 9223372036854775808 + (r : Int) by omega, top_off _ (by omega) (by omega)]; omega
theorem rung_rung (x : Nat) : rung64 (rung64 x) = rung64 x ∧ sgn64 (rung64 x) = false := by
  unfold rung64 sgn64
  exact ⟨by omega, by rw [beq_eq_false_iff_ne]; omega⟩
theorem order_max (x : Nat) : (Ieee.double.order (rung64 x) 9218868437227405311 == some Ordering.gt) = decide (rung64 x = 9218868437227405312) := by
  obtain ⟨r1, r2⟩ := rung_rung x
  rcases Nat.lt_or_ge 9218868437227405312 (rung64 x) with g | g
  · rw [order_nan1 _ (read64_nan (by rw [nan64_rung, r1]; exact decide_eq_true g)), decide_eq_false (by omega)]; rfl
  · rw [order_num64 (by rw [r1]; exact g) (by decide)]
    have e1 : srung64 (rung64 x) = rung64 x := by unfold srung64; rw [r1, r2]; rfl
    have e2 : srung64 9218868437227405311 = 9218868437227405311 := by decide
    rw [e1, e2]
    rcases Nat.lt_or_ge 9218868437227405311 (rung64 x) with k | k
    · rw [Int.compare_eq_gt.2 (by omega), decide_eq_true (by omega)]; rfl
    · rw [decide_eq_false (by omega)]
      rcases Nat.lt_or_ge (rung64 x) 9218868437227405311 with j | j
      · rw [Int.compare_eq_lt.2 (by omega)]; rfl
      · rw [Int.compare_eq_eq.2 (by omega)]; rfl
theorem order_least (x : Nat) (h : 4503599627370496 ≤ rung64 x) : (Ieee.double.order (rung64 x) 4503599627370496 == some Ordering.lt) = false := by
  obtain ⟨r1, r2⟩ := rung_rung x
  rcases Nat.lt_or_ge 9218868437227405312 (rung64 x) with g | g
  · rw [order_nan1 _ (read64_nan (by rw [nan64_rung, r1]; exact decide_eq_true g))]; rfl
  · rw [order_num64 (by rw [r1]; exact g) (by decide)]
    have e1 : srung64 (rung64 x) = rung64 x := by unfold srung64; rw [r1, r2]; rfl
    have e2 : srung64 4503599627370496 = 4503599627370496 := by decide
    rw [e1, e2, cmp_lt, decide_eq_false (by omega)]
theorem order_self64 (x : Nat) : (Ieee.double.order x x != some Ordering.eq) = nan64 x := by
  cases h : nan64 x
  · rw [nan64_rung] at h
    have h := of_decide_eq_false h
    rw [order_num64 (by omega) (by omega), Int.compare_eq_eq.2 rfl]; rfl
  · rw [order_nan1 _ (read64_nan h)]; rfl
theorem ord_zero64 (b : Nat) : (Ieee.double.order b 0 == some Ordering.eq) = decide (rung64 b = 0) := by
  cases h : nan64 b
  · rw [nan64_rung] at h
    have h := of_decide_eq_false h
    rw [order_num64 (by omega) (by decide), cmp_eq, show srung64 0 = 0 from by decide]
    unfold srung64
    rw [decide_eq_decide]
    split <;> omega
  · rw [order_nan1 _ (read64_nan h)]
    rw [nan64_rung] at h
    have h := of_decide_eq_true h
    rw [decide_eq_false (by omega)]; rfl
/-- A binary64 times a power of two. -/
def ldV (y : Nat) (x : Int) : Nat := if rung64 y = 0 ∨ 9218868437227405312 ≤ rung64 y then y else ((y : Int) + x * 4503599627370496).toNat
theorem ldV_wd {neg : Bool} {m : Nat} {p x : Int} (h0 : 4503599627370496 ≤ m) (h1 : m < 9007199254740992) (p0 : -1074 ≤ p) (p1 : p ≤ 970) (q0 : -1074 ≤ p + x) : ldV (wd neg m p) x = wd neg m (p + x) := by
  obtain ⟨r1, r2⟩ := wd_rung (neg := neg) h1 (show p ≤ 971 by omega)
  unfold ldV
  rw [if_neg (by rw [r1]; omega)]
  exact wd_sum p0 q0
/-- A power, not too far. -/
def clampV (n : Int) : Int := if n < -300 then -300 else if 300 < n then 300 else n
theorem clamp_bd (n : Int) : -300 ≤ clampV n ∧ clampV n ≤ 300 := by unfold clampV; split <;> (try split) <;> omega
/-- A sample times a power of two. -/
def scaleV (a : Nat) (n : Int) : Nat := if nanN a = true then 2143289344 else toldD (some (Ieee.double.read (ldV (wideN a) (clampV n))))
end Go.Proofs.Ytfolecnjaaakeaa

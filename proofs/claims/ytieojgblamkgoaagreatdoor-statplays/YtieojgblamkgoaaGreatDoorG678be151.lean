/- What the library's Ldexp returns of a binary64 number and a power that keeps it normal, and package arith's Scale; what was in memory stays as it was. -/
import Derived.Test.YtieojgblamkgoaaGreatDoorGc1d968df
namespace Go.Proofs.YtieojgblamkgoaaGreatDoor
open Go.RowKit

theorem i64_and (a b : Nat) (ha : a < 9223372036854775808) (hb : b < 9223372036854775808) : bits .and .i64 (a : Int) (b : Int) = ((a &&& b : Nat) : Int) := by
  have hx : a &&& b < 2 ^ 63 := Nat.and_lt_two_pow _ (by omega)
  show IntKind.i64.wrap ((BitVec.ofInt 64 (a : Int) &&& BitVec.ofInt 64 (b : Int)).toNat : Int) = _
  rw [BitVec.toNat_and, ofInt_u64 a (by omega), ofInt_u64 b (by omega), IntKind.wrap_i64]
  omega
theorem top_off (r : Int) (h0 : 0 ≤ r) (h1 : r < 9223372036854775808) : bits .andNot .u64 (9223372036854775808 + r) 9223372036854775808 = r := by go_bits2
theorem top_off' (r : Int) (h0 : 0 ≤ r) (h1 : r < 9223372036854775808) : bits .andNot .u64 r 9223372036854775808 = r := by go_bits2
theorem nat_clear (x : Nat) : x &&& 9227875636482146303 = x / 9223372036854775808 % 2 * 9223372036854775808 + x % 4503599627370496 := by
  have e : (9227875636482146303 : Nat) = 2 ^ 63 ||| (2 ^ 52 - 1) := by decide
  rw [e, Nat.and_or_distrib_left, nat_bit 63 x, Nat.and_two_pow_sub_one_eq_mod]
  exact nat_join 63 _ _ (Nat.mul_mod_left _ _) (Nat.lt_trans (Nat.mod_lt _ (by decide)) (by decide))
theorem nat_lay (s q f : Nat) (hq : q < 2048) (hf : f < 4503599627370496) : (s * 9223372036854775808 + f) ||| (q * 4503599627370496) = s * 9223372036854775808 + (q * 4503599627370496 + f) := by
  have e1 : s * 9223372036854775808 + f = s * 9223372036854775808 ||| f := (nat_join 63 _ _ (by show s * 2 ^ 63 % 2 ^ 63 = 0; exact Nat.mul_mod_left _ _) (by omega)).symm
  have e2 : f ||| q * 4503599627370496 = q * 4503599627370496 + f := by
    rw [Nat.or_comm]; exact nat_join 52 _ _ (by show q * 2 ^ 52 % 2 ^ 52 = 0; exact Nat.mul_mod_left _ _) (by omega)
  rw [e1, Nat.or_assoc, e2]
  exact nat_join 63 _ _ (by show s * 2 ^ 63 % 2 ^ 63 = 0; exact Nat.mul_mod_left _ _) (by omega)

/-- The word as sign, exponent and the rest. -/
theorem wd_form (neg : Bool) (m : Nat) (p : Int) : wd neg m p = neg.toNat * 9223372036854775808 + ((p + 1074).toNat * 4503599627370496 + m) := by
  unfold wd; cases neg <;> simp
theorem wd_lt {neg : Bool} {m : Nat} {p : Int} (h1 : m < 9007199254740992) (p1 : p ≤ 971) : wd neg m p < 18446744073709551616 := by
  rw [wd_form]; have := Bool.toNat_lt neg; omega
theorem wd_exp {neg : Bool} {m : Nat} {p : Int} (h0 : 4503599627370496 ≤ m) (h1 : m < 9007199254740992) (p0 : -1074 ≤ p) (p1 : p ≤ 971) : bits .and .i64 ((wd neg m p : Int) / 4503599627370496) 2047 = p + 1075 := by
  have e1 : (wd neg m p : Int) / 4503599627370496 = ((wd neg m p / 4503599627370496 : Nat) : Int) := by omega
  have hlt := wd_lt (neg := neg) h1 p1
  rw [e1, show (2047 : Int) = ((2047 : Nat) : Int) from rfl, i64_and _ _ (by omega) (by omega), nat_mask11]
  have hb := Bool.toNat_lt neg
  rw [wd_form]
  omega
theorem wd_clear {neg : Bool} {m : Nat} {p : Int} (h0 : 4503599627370496 ≤ m) (h1 : m < 9007199254740992) (p1 : p ≤ 971) : bits .andNot .u64 (wd neg m p : Int) 9218868437227405312 = ((neg.toNat * 9223372036854775808 + (m - 4503599627370496) : Nat) : Int) := by
  have hlt := wd_lt (neg := neg) h1 p1
  rw [u64_andNot _ _ (by omega) (by omega) (by omega) (by omega)]
  rw [show (18446744073709551615 - (9218868437227405312 : Int).toNat) = 9227875636482146303 from rfl, nat_clear, Int.toNat_natCast]
  have hb := Bool.toNat_lt neg
  rw [wd_form]
  omega
theorem wd_lay {neg : Bool} {m : Nat} {x : Int} (h0 : 4503599627370496 ≤ m) (h1 : m < 9007199254740992) (x0 : 1 ≤ x) (x1 : x ≤ 2046) : bits .or .u64 ((neg.toNat * 9223372036854775808 + (m - 4503599627370496) : Nat) : Int) (x * 4503599627370496) = (wd neg m (x - 1075) : Int) := by
  have hb := Bool.toNat_lt neg
  obtain ⟨q, rfl⟩ := Int.eq_ofNat_of_zero_le (show 0 ≤ x by omega)
  rw [show ((q : Int) * 4503599627370496) = ((q * 4503599627370496 : Nat) : Int) by omega, u64_or_nat _ _ (by omega) (by omega), nat_lay _ _ _ (by omega) (by omega), wd_form]
  omega

theorem abs_bits {x : Nat} (hx : x < 18446744073709551616) : bits .andNot .u64 (x : Int) 9223372036854775808 = (rung64 x : Int) := by
  unfold rung64
  rcases Nat.lt_or_ge x 9223372036854775808 with g | g
  · rw [top_off' _ (by omega) (by omega)]; omega
  · obtain ⟨r, rfl⟩ : ∃ r, x = 9223372036854775808 + r := ⟨x - 9223372036854775808, by omega⟩
    rw [show ((9223372036854775808 + r : Nat) : Int) = 9223372036854775808 + (r : Int) by omega, top_off _ (by omega) (by omega)]; omega
set_option maxHeartbeats 400000 in
theorem abs_any (x : Nat) (hx : x < 18446744073709551616) (w : World) :
    Calls Tryz.prog 166 #[.float .f64 x] w fun e w' => e = .returned (.float .f64 (rung64 x)) ∧ w' = w := by
  have l1 := f64bits
  have l2 := f64from
  have e1 := abs_bits hx
  go_enter Tryz.func166, Tryz.ntmps166
  go_wp2_with fail
  go_ret
  exact ⟨rfl, rfl⟩
theorem rung_rung (x : Nat) : rung64 (rung64 x) = rung64 x ∧ sgn64 (rung64 x) = false := by
  unfold rung64 sgn64
  exact ⟨by omega, by rw [beq_eq_false_iff_ne]; omega⟩
theorem order_max (x : Nat) : (Ieee.double.order (rung64 x) 9218868437227405311 == some Ordering.gt) = decide (rung64 x = 9218868437227405312) := by
  obtain ⟨r1, r2⟩ := rung_rung x
  rcases Nat.lt_or_ge 9218868437227405312 (rung64 x) with g | g
  · rw [order_nan1 _ (read64_nan (by rw [nan64_rung, r1]; exact decide_eq_true g)), decide_eq_false (by omega)]; rfl
  · rw [order_num64 (by rw [r1]; exact g) (by decide)]
    have e1 : srung64 (rung64 x) = rung64 x := by unfold srung64; rw [r1, r2]; rfl
    have e2 : srung64 9218868437227405311 = 9218868437227405311 := by decide
    rw [e1, e2]
    rcases Nat.lt_or_ge 9218868437227405311 (rung64 x) with k | k
    · rw [Int.compare_eq_gt.2 (by omega), decide_eq_true (by omega)]; rfl
    · rw [decide_eq_false (by omega)]
      rcases Nat.lt_or_ge (rung64 x) 9218868437227405311 with j | j
      · rw [Int.compare_eq_lt.2 (by omega)]; rfl
      · rw [Int.compare_eq_eq.2 (by omega)]; rfl
theorem order_least (x : Nat) (h : 4503599627370496 ≤ rung64 x) : (Ieee.double.order (rung64 x) 4503599627370496 == some Ordering.lt) = false := by
  obtain ⟨r1, r2⟩ := rung_rung x
  rcases Nat.lt_or_ge 9218868437227405312 (rung64 x) with g | g
  · rw [order_nan1 _ (read64_nan (by rw [nan64_rung, r1]; exact decide_eq_true g))]; rfl
  · rw [order_num64 (by rw [r1]; exact g) (by decide)]
    have e1 : srung64 (rung64 x) = rung64 x := by unfold srung64; rw [r1, r2]; rfl
    have e2 : srung64 4503599627370496 = 4503599627370496 := by decide
    rw [e1, e2, cmp_lt, decide_eq_false (by omega)]
theorem order_self64 (x : Nat) : (Ieee.double.order x x != some Ordering.eq) = nan64 x := by
  cases h : nan64 x
  · rw [nan64_rung] at h
    have h := of_decide_eq_false h
    rw [order_num64 (by omega) (by omega), Int.compare_eq_eq.2 rfl]; rfl
  · rw [order_nan1 _ (read64_nan h)]; rfl
set_option maxHeartbeats 400000 in
theorem isinf_any (x : Nat) (hx : x < 18446744073709551616) (w : World) :
    Calls Tryz.prog 161 #[.float .f64 x, .int .i64 0] w fun e w' => e = .returned (.bool (decide (rung64 x = 9218868437227405312))) ∧ w' = w := by
  have e1 : (FloatKind.f64.format.order (rung64 x) 9218868437227405311 == some Ordering.gt) = decide (rung64 x = 9218868437227405312) := order_max x
  go_enter Tryz.func161, Tryz.ntmps161
  go_wp2_with fail
  refine (abs_any x hx _).mono ?_
  rintro e v ⟨rfl, rfl⟩
  go_wp2_with fail
  go_ret
  exact ⟨by rw [← order_max]; rfl, rfl⟩
set_option maxHeartbeats 400000 in
theorem isnan64_any (x : Nat) (w : World) :
    Calls Tryz.prog 162 #[.float .f64 x] w fun e w' => e = .returned (.bool (nan64 x)) ∧ w' = w := by
  go_enter Tryz.func162, Tryz.ntmps162
  go_wp2_with fail
  go_ret
  exact ⟨by rw [← order_self64]; rfl, rfl⟩
set_option maxHeartbeats 400000 in
theorem normal_any (x : Nat) (hx : x < 18446744073709551616) (h : 4503599627370496 ≤ rung64 x) (w : World) :
    Calls Tryz.prog 163 #[.float .f64 x] w fun e w' => e = .returned (.tuple #[.float .f64 x, .int .i64 0]) ∧ w' = w := by
  have e1 : (FloatKind.f64.format.order (rung64 x) 4503599627370496 == some Ordering.lt) = false := order_least x h
  go_enter Tryz.func163, Tryz.ntmps163
  go_wp2_with fail
  refine (abs_any x hx _).mono ?_
  rintro e v ⟨rfl, rfl⟩
  go_wp2_with fail
  go_ret2
  exact ⟨rfl, rfl⟩

set_option maxHeartbeats 1000000 in
theorem ldexp_any (neg : Bool) (m : Nat) (p x : Int) (h0 : 4503599627370496 ≤ m) (h1 : m < 9007199254740992) (p0 : -201 ≤ p) (p1 : p ≤ 75) (x0 : -300 ≤ x) (x1 : x ≤ 300) (w : World) :
    Calls Tryz.prog 159 #[.float .f64 (wd neg m p), .int .i64 x] w fun e w' => e = .returned (.float .f64 (wd neg m (p + x))) ∧ w' = w := by
  have l1 := f64bits
  have l2 := f64from
  obtain ⟨r1, r2⟩ := wd_rung (neg := neg) h1 (show p ≤ 971 by omega)
  have hl := wd_lt (neg := neg) h1 (show p ≤ 971 by omega)
  have hNo : 4503599627370496 ≤ rung64 (wd neg m p) := by rw [r1]; omega
  have hI : decide (rung64 (wd neg m p) = 9218868437227405312) = false := by rw [r1]; exact decide_eq_false (by omega)
  have hN : nan64 (wd neg m p) = false := by rw [nan64_rung, r1]; exact decide_eq_false (by omega)
  clear r1 r2
  have e1 : (FloatKind.f64.format.order (wd neg m p) 0 == some Ordering.eq) = false := order_wd_zero h0 h1 (by omega) (by omega)
  have e2 : bits .and .i64 (wrap64 ((wd neg m p : Int) / 4503599627370496)) 2047 = p + 1075 := by
    rw [show wrap64 ((wd neg m p : Int) / 4503599627370496) = (wd neg m p : Int) / 4503599627370496 by unfold wrap64; omega]
    exact wd_exp h0 h1 (by omega) (by omega)
  have e4 : bits .or .u64 ((neg.toNat : Int) * 9223372036854775808 + ((m - 4503599627370496 : Nat) : Int)) ((x + (p + 1075 - 1023) + 1023) * 4503599627370496) = (wd neg m (p + x) : Int) := by
    have h := wd_lay (neg := neg) (x := x + (p + 1075 - 1023) + 1023) h0 h1 (by omega) (by omega)
    rw [show x + (p + 1075 - 1023) + 1023 - 1075 = p + x by omega] at h
    rw [← h, show ((neg.toNat : Int) * 9223372036854775808 + ((m - 4503599627370496 : Nat) : Int)) = ((neg.toNat * 9223372036854775808 + (m - 4503599627370496) : Nat) : Int) by omega]
  have l3 := fun (w : World) => run_float_arith (P := Tryz.prog) w .mul 108 .f64 4607182418800017408 (wd neg m (p + x)) (wd neg m (p + x)) (one_mul_wd h0 h1 (by omega) (by omega))
  have e3 := wd_clear (neg := neg) (p := p) h0 h1 (by omega)
  go_enter Tryz.func159, Tryz.ntmps159
  go_wp2_with fail
  refine (isinf_any _ hl _).mono ?_
  rintro e v ⟨rfl, rfl⟩
  go_wp2_with fail
  refine (isnan64_any _ _).mono ?_
  rintro e v ⟨rfl, rfl⟩
  go_wp2_with fail
  refine (normal_any _ hl hNo _).mono ?_
  rintro e v ⟨rfl, rfl⟩
  clear hl hNo hI hN
  go_wp2_with fail
  go_ret
  exact ⟨rfl, rfl⟩

end Go.Proofs.YtieojgblamkgoaaGreatDoor
/- What package arith's Fma returns, by its steps in binary64, in the model's own words of floats; what was in memory stays as it was. -/
namespace Go.Proofs.YtieojgblamkgoaaGreatDoor
open Go.RowKit

end Go.Proofs.YtieojgblamkgoaaGreatDoor
/- Plain facts: a sample times a power of two by way of binary64. -/
namespace Go.Proofs.YtieojgblamkgoaaGreatDoor
open Go.RowKit

theorem toldD_num (s : Bool) (m : Nat) (p : Int) : toldD (some (.number s m p)) = Ieee.single.word s (rungOf Ieee.single m p) := nearest_rung _ _ _ _
end Go.Proofs.YtieojgblamkgoaaGreatDoor
/- Plain facts: numbers of binary64 in its least units: rounding, what it keeps, sums and differences; what is lost of a sum is told exactly. -/
namespace Go.Proofs.YtieojgblamkgoaaGreatDoor
open Go.RowKit

/-- The sign of a sum. -/
def sg (s t : Bool) (Z : Int) : Bool := if Z = 0 then s && t else decide (Z < 0)
end Go.Proofs.YtieojgblamkgoaaGreatDoor
/- Plain facts: what is lost of a sum in binary64 is told exactly by five steps; the sum made odd, made narrow, is the exact sum rounded once. -/
namespace Go.Proofs.YtieojgblamkgoaaGreatDoor
open Go.RowKit

/-- The size. -/
def ab (z : Int) : Nat := z.natAbs
end Go.Proofs.YtieojgblamkgoaaGreatDoor
/- Plain facts: the program's product and sum in binary64, the sum made odd, made narrow: the exact number rounded once. -/
namespace Go.Proofs.YtieojgblamkgoaaGreatDoor
open Go.RowKit

end Go.Proofs.YtieojgblamkgoaaGreatDoor
/- What package arith's Fma returns: of numbers without an answer, and of others by its steps in binary64; what was in memory stays as it was. -/
namespace Go.Proofs.YtieojgblamkgoaaGreatDoor
open Go.RowKit

end Go.Proofs.YtieojgblamkgoaaGreatDoor
/- What package arith's Fma returns of whatever samples: the exact product and sum, rounded once. -/
namespace Go.Proofs.YtieojgblamkgoaaGreatDoor
open Go.RowKit

end Go.Proofs.YtieojgblamkgoaaGreatDoor
/- Plain facts: orders of two, ones, noughts and halves, in the model's own words of floats. -/
namespace Go.Proofs.YtieojgblamkgoaaGreatDoor
open Go.RowKit

end Go.Proofs.YtieojgblamkgoaaGreatDoor
/- Plain facts: a quotient with its rest told by one bit. -/
namespace Go.Proofs.YtieojgblamkgoaaGreatDoor
open Go.RowKit

/-- A quotient's digits, and one more that tells of a rest. -/
def sqV (m n A : Nat) : Nat := 2 * (m * 2 ^ A / n) + if m * 2 ^ A % n = 0 then 0 else 1
theorem sq_stick {m n B k : Nat} (hn : 0 < n) : stick (sqV m n (B + k)) (k + 1) = sqV m n B := by
  have hk := Nat.two_pow_pos k
  have e0 : m * 2 ^ (B + k) = m * 2 ^ B * 2 ^ k := by rw [Nat.pow_add, Nat.mul_assoc]
  -- the great quotient, cut, is the small one
  have e1 : m * 2 ^ (B + k) / n / 2 ^ k = m * 2 ^ B / n := by
    rw [Nat.div_div_eq_div_mul, e0, Nat.mul_div_mul_right _ _ hk]
  have d1 := Nat.div_add_mod (m * 2 ^ (B + k)) n
  have d2 := Nat.div_add_mod (m * 2 ^ B) n
  have d3 := Nat.div_add_mod (m * 2 ^ (B + k) / n) (2 ^ k)
  have r1 := Nat.mod_lt (m * 2 ^ (B + k)) hn
  have r2 := Nat.mod_lt (m * 2 ^ B) hn
  rw [e1] at d3
  obtain ⟨q, hq⟩ : ∃ q, q = m * 2 ^ B / n := ⟨_, rfl⟩
  obtain ⟨Q', hQ⟩ : ∃ Q', Q' = m * 2 ^ (B + k) / n := ⟨_, rfl⟩
  obtain ⟨r, hr⟩ : ∃ r, r = m * 2 ^ B % n := ⟨_, rfl⟩
  obtain ⟨R, hR⟩ : ∃ R, R = m * 2 ^ (B + k) % n := ⟨_, rfl⟩
  obtain ⟨t, ht⟩ : ∃ t, t = Q' % 2 ^ k := ⟨_, rfl⟩
  unfold stick sqV
  rw [← hQ, ← hR, ← hq, ← hr]
  rw [← hQ, ← hq, ← ht] at d3
  rw [← hQ, ← hR] at d1
  rw [← hq, ← hr] at d2
  have htk : t < 2 ^ k := by rw [ht]; exact Nat.mod_lt _ hk
  -- r * 2^k = n * t + R
  have key : r * 2 ^ k = n * t + R := by
    have a1 : n * Q' + R = (n * q + r) * 2 ^ k := by rw [d1, d2, e0]
    rw [← d3] at a1
    rw [Nat.mul_add, Nat.add_mul] at a1
    have a2 : n * (2 ^ k * q) = n * q * 2 ^ k := by rw [Nat.mul_comm (2 ^ k) q, Nat.mul_assoc]
    omega
  have hzero : r = 0 ↔ t = 0 ∧ R = 0 := by
    constructor
    · intro h
      rw [h, Nat.zero_mul] at key
      have k1 : n * t = 0 := by omega
      rcases Nat.mul_eq_zero.1 k1 with h' | h'
      · omega
      · exact ⟨h', by omega⟩
    · rintro ⟨h1, h2⟩
      rw [h1, h2, Nat.mul_zero] at key
      rcases Nat.mul_eq_zero.1 key with h' | h'
      · exact h'
      · omega
  have ep : 2 ^ (k + 1) = 2 * 2 ^ k := by rw [Nat.pow_succ]; omega
  obtain ⟨b, hb⟩ : ∃ b, b = if R = 0 then 0 else 1 := ⟨_, rfl⟩
  have hb2 : b < 2 := by rw [hb]; split <;> omega
  rw [← hb]
  have f1 : (2 * Q' + b) / 2 ^ (k + 1) = q := by
    rw [ep, ← Nat.div_div_eq_div_mul, show (2 * Q' + b) / 2 = Q' by omega, hQ, e1, hq]
  have f2 : (2 * Q' + b) % 2 ^ (k + 1) = 2 * t + b := by
    have g := Nat.div_add_mod (2 * Q' + b) (2 ^ (k + 1))
    rw [f1, ep] at g
    rw [ep]
    have g2 : 2 * 2 ^ k * q = 2 * (2 ^ k * q) := Nat.mul_assoc _ _ _
    omega
  rw [f1, f2]
  have hbR : b = 0 ↔ R = 0 := by rw [hb]; split <;> omega
  by_cases h : r = 0
  · obtain ⟨h1, h2⟩ := hzero.1 h
    rw [if_pos h, if_pos (by have := hbR.2 h2; omega)]
  · rw [if_neg h, if_neg]
    intro h'
    exact h (hzero.2 ⟨by omega, hbR.1 (by omega)⟩)
theorem sq_link (f : Ieee.Format) {m n A B : Nat} (x : Int) (hn : 0 < n) (hA : B ≤ A) (hq : 2 ^ (f.fractionBits + 1) ≤ m * 2 ^ B / n) :
    rungOf f (sqV m n A) (x - A - 1) = rungOf f (sqV m n B) (x - B - 1) := by
  obtain ⟨k, rfl⟩ : ∃ k, A = B + k := ⟨A - B, by omega⟩
  have e1 : m * 2 ^ (B + k) / n / 2 ^ k = m * 2 ^ B / n := by
    rw [Nat.div_div_eq_div_mul, Nat.pow_add, ← Nat.mul_assoc, Nat.mul_div_mul_right _ _ (Nat.two_pow_pos k)]
  have h1 : 2 ^ (f.fractionBits + 1 + k) ≤ m * 2 ^ (B + k) / n := by
    rw [Nat.pow_add]
    rw [← e1] at hq
    exact (Nat.le_div_iff_mul_le (Nat.two_pow_pos k)).1 hq
  have h2 : 2 ^ (f.fractionBits + 2 + k) ≤ sqV m n (B + k) := by
    unfold sqV
    rw [show f.fractionBits + 2 + k = f.fractionBits + 1 + k + 1 by omega, Nat.pow_succ]
    omega
  have hM : sqV m n (B + k) ≠ 0 := by have := Nat.two_pow_pos (f.fractionBits + 2 + k); omega
  have hlog : f.fractionBits + 2 + k ≤ (sqV m n (B + k)).log2 := (Nat.le_log2 hM).2 h2
  have := rung_stick f (M := sqV m n (B + k)) (k := k + 1) (x - (B + k : Nat) - 1) (by omega) hM (by unfold lastOf; omega)
  rw [sq_stick hn] at this
  rw [← this]
  congr 1; omega
end Go.Proofs.YtieojgblamkgoaaGreatDoor
/- Plain facts: a quotient with its rest told by one bit, rounded: how many digits it has does not matter; the reference's quotients are the model's. -/
namespace Go.Proofs.YtieojgblamkgoaaGreatDoor
open Go.RowKit

theorem zeroB_fin (s : Bool) (n : Nat) (e : Int) : zeroB (.fin s n e false) = decide (n = 0) := by
  unfold zeroB; cases n <;> rfl
end Go.Proofs.YtieojgblamkgoaaGreatDoor

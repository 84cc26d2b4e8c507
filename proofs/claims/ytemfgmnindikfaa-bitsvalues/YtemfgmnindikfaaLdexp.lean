/- What the library's Ldexp returns of a normal binary64 number and a power that keeps it normal; nothing in memory changes. -/
import Derived.Test.YtemfgmnindikfaaRows
import Derived.Test.YtemfgmnindikfaaDouble
import Derived.WalkKit
import Derived.WalkSpells
import Derived.WalkLawsBesides
import Derived.Laws.BitsAll
namespace Go.Proofs.Ytemfgmnindikfaa
open Go.RowKit

theorem f32from (n : Int) (w : World) : (callFunc 40 #[.int .u32 n]).run Try.prog w = .ok (.value (.float .f32 n.toNat)) w := by
  rw [run_callFunc_extern (e := Extern.MathFloatBits.float32frombits) Try.func40 (by kernel_rfl) (by kernel_rfl) (by kernel_rfl) (by kernel_rfl)]
  rfl
theorem f64bits (x : Nat) (w : World) : (callFunc 52 #[.float .f64 x]).run Try.prog w = .ok (.value (.int .u64 x)) w := by
  rw [run_callFunc_extern (e := Extern.MathFloatBits.float64bits) Try.func52 (by kernel_rfl) (by kernel_rfl) (by kernel_rfl) (by kernel_rfl)]
  rfl
theorem f64from (n : Int) (w : World) : (callFunc 55 #[.int .u64 n]).run Try.prog w = .ok (.value (.float .f64 n.toNat)) w := by
  rw [run_callFunc_extern (e := Extern.MathFloatBits.float64frombits) Try.func55 (by kernel_rfl) (by kernel_rfl) (by kernel_rfl) (by kernel_rfl)]
  rfl

theorem i64_and (a b : Nat) (ha : a < 9223372036854775808) (hb : b < 9223372036854775808) : bits .and .i64 (a : Int) (b : Int) = ((a &&& b : Nat) : Int) := by
  have hx : a &&& b < 2 ^ 63 := Nat.and_lt_two_pow _ (by omega)
  show IntKind.i64.wrap ((BitVec.ofInt 64 (a : Int) &&& BitVec.ofInt 64 (b : Int)).toNat : Int) = _
  rw [BitVec.toNat_and, ofInt_u64 a (by omega), ofInt_u64 b (by omega), IntKind.wrap_i64]
  omega
theorem top_off (r : Int) (h0 : 0 ≤ r) (h1 : r < 9223372036854775808) : bits .andNot .u64 (9223372036854775808 + r) 9223372036854775808 = r := by go_bits2
theorem top_off' (r : Int) (h0 : 0 ≤ r) (h1 : r < 9223372036854775808) : bits .andNot .u64 r 9223372036854775808 = r := by go_bits2
theorem nat_clear (x : Nat) : x &&& 9227875636482146303 = x / 9223372036854775808 % 2 * 9223372036854775808 + x % 4503599627370496 := by
  have e : (9227875636482146303 : Nat) = 2 ^ 63 ||| (2 ^ 52 - 1) := by decide
  rw [e, Nat.and_or_distrib_left, nat_bit 63 x, Nat.and_two_pow_sub_one_eq_mod]
  exact nat_join 63 _ _ (Nat.mul_mod_left _ _) (Nat.lt_trans (Nat.mod_lt _ (by decide)) (by decide))
theorem nat_lay (s q f : Nat) (hq : q < 2048) (hf : f < 4503599627370496) : (s * 9223372036854775808 + f) ||| (q * 4503599627370496) = s * 9223372036854775808 + (q * 4503599627370496 + f) := by
  have e1 : s * 9223372036854775808 + f = s * 9223372036854775808 ||| f := (nat_join 63 _ _ (by show s * 2 ^ 63 % 2 ^ 63 = 0; exact Nat.mul_mod_left _ _) (by omega)).symm
  have e2 : f ||| q * 4503599627370496 = q * 4503599627370496 + f := by
    rw [Nat.or_comm]; exact nat_join 52 _ _ (by show q * 2 ^ 52 % 2 ^ 52 = 0; exact Nat.mul_mod_left _ _) (by omega)
  rw [e1, Nat.or_assoc, e2]
  exact nat_join 63 _ _ (by show s * 2 ^ 63 % 2 ^ 63 = 0; exact Nat.mul_mod_left _ _) (by omega)

/-- The word as sign, exponent and the rest. -/
theorem wd_form (neg : Bool) (m : Nat) (p : Int) : wd neg m p = neg.toNat * 9223372036854775808 + ((p + 1074).toNat * 4503599627370496 + m) := by
  unfold wd; cases neg <;> simp
theorem wd_lt {neg : Bool} {m : Nat} {p : Int} (h1 : m < 9007199254740992) (p1 : p ≤ 971) : wd neg m p < 18446744073709551616 := by
  rw [wd_form]; have := Bool.toNat_lt neg; omega
theorem wd_abs {neg : Bool} {m : Nat} {p : Int} (h1 : m < 9007199254740992) (p1 : p ≤ 971) : bits .andNot .u64 (wd neg m p : Int) 9223372036854775808 = (wd false m p : Int) := by
  cases neg
  · exact top_off' _ (by omega) (by have := wd_form false m p; simp at this; omega)
  · have e : (wd true m p : Int) = 9223372036854775808 + (wd false m p : Int) := by
      rw [wd_form, wd_form]; simp
    rw [e]
    exact top_off _ (by omega) (by have := wd_form false m p; simp at this; omega)
theorem wd_exp {neg : Bool} {m : Nat} {p : Int} (h0 : 4503599627370496 ≤ m) (h1 : m < 9007199254740992) (p0 : -1074 ≤ p) (p1 : p ≤ 971) : bits .and .i64 ((wd neg m p : Int) / 4503599627370496) 2047 = p + 1075 := by
  have e1 : (wd neg m p : Int) / 4503599627370496 = ((wd neg m p / 4503599627370496 : Nat) : Int) := by omega
  have hlt := wd_lt (neg := neg) h1 p1
  rw [e1, show (2047 : Int) = ((2047 : Nat) : Int) from rfl, i64_and _ _ (by omega) (by omega), nat_mask11]
  have hb := Bool.toNat_lt neg
  rw [wd_form]
  omega
theorem wd_clear {neg : Bool} {m : Nat} {p : Int} (h0 : 4503599627370496 ≤ m) (h1 : m < 9007199254740992) (p1 : p ≤ 971) : bits .andNot .u64 (wd neg m p : Int) 9218868437227405312 = ((neg.toNat * 9223372036854775808 + (m - 4503599627370496) : Nat) : Int) := by
  have hlt := wd_lt (neg := neg) h1 p1
  rw [u64_andNot _ _ (by omega) (by omega) (by omega) (by omega)]
  rw [show (18446744073709551615 - (9218868437227405312 : Int).toNat) = 9227875636482146303 from rfl, nat_clear, Int.toNat_natCast]
  have hb := Bool.toNat_lt neg
  rw [wd_form]
  omega
theorem wd_lay {neg : Bool} {m : Nat} {x : Int} (h0 : 4503599627370496 ≤ m) (h1 : m < 9007199254740992) (x0 : 1 ≤ x) (x1 : x ≤ 2046) : bits .or .u64 ((neg.toNat * 9223372036854775808 + (m - 4503599627370496) : Nat) : Int) (x * 4503599627370496) = (wd neg m (x - 1075) : Int) := by
  have hb := Bool.toNat_lt neg
  obtain ⟨q, rfl⟩ := Int.eq_ofNat_of_zero_le (show 0 ≤ x by omega)
  rw [show ((q : Int) * 4503599627370496) = ((q * 4503599627370496 : Nat) : Int) by omega, u64_or_nat _ _ (by omega) (by omega), nat_lay _ _ _ (by omega) (by omega), wd_form]
  omega

set_option maxHeartbeats 400000 in
theorem abs_any (neg : Bool) (m : Nat) (p : Int) (h1 : m < 9007199254740992) (p1 : p ≤ 971) (w : World) :
    Calls Try.prog 56 #[.float .f64 (wd neg m p)] w fun e w' => e = .returned (.float .f64 (wd false m p)) ∧ w' = w := by
  have l1 := f64bits
  have l2 := f64from
  have e1 := wd_abs (neg := neg) h1 p1
  go_enter Try.func56, Try.ntmps56
  go_wp2_with fail
  go_ret
  exact ⟨by simp, rfl⟩

set_option maxHeartbeats 400000 in
theorem isinf_any (neg : Bool) (m : Nat) (p : Int) (h0 : 4503599627370496 ≤ m) (h1 : m < 9007199254740992) (p0 : -1074 ≤ p) (p1 : p ≤ 971) (w : World) :
    Calls Try.prog 49 #[.float .f64 (wd neg m p), .int .i64 0] w fun e w' => e = .returned (.bool false) ∧ w' = w := by
  have e1 : (FloatKind.f64.format.order (wd false m p) 9218868437227405311 == some Ordering.gt) = false := order_wd_max h0 h1 p0 p1
  go_enter Try.func49, Try.ntmps49
  go_wp2_with fail
  refine (abs_any neg m p h1 p1 _).mono ?_
  rintro e v ⟨rfl, rfl⟩
  go_wp2_with fail
  go_ret
  exact ⟨rfl, rfl⟩

set_option maxHeartbeats 400000 in
theorem isnan64_any (neg : Bool) (m : Nat) (p : Int) (h0 : 4503599627370496 ≤ m) (h1 : m < 9007199254740992) (p0 : -1074 ≤ p) (p1 : p ≤ 971) (w : World) :
    Calls Try.prog 50 #[.float .f64 (wd neg m p)] w fun e w' => e = .returned (.bool false) ∧ w' = w := by
  have e1 : (FloatKind.f64.format.order (wd neg m p) (wd neg m p) != some Ordering.eq) = false := by
    show (Ieee.double.order (wd neg m p) (wd neg m p) != some Ordering.eq) = false
    rw [order_wd_self h0 h1 p0 p1]; rfl
  go_enter Try.func50, Try.ntmps50
  go_wp2_with fail
  go_ret
  exact ⟨rfl, rfl⟩

set_option maxHeartbeats 400000 in
theorem normal_any (neg : Bool) (m : Nat) (p : Int) (h0 : 4503599627370496 ≤ m) (h1 : m < 9007199254740992) (p0 : -1074 ≤ p) (p1 : p ≤ 971) (w : World) :
    Calls Try.prog 51 #[.float .f64 (wd neg m p)] w fun e w' => e = .returned (.tuple #[.float .f64 (wd neg m p), .int .i64 0]) ∧ w' = w := by
  have e1 : (FloatKind.f64.format.order (wd false m p) 4503599627370496 == some Ordering.lt) = false := order_wd_least h0 h1 p0 p1
  go_enter Try.func51, Try.ntmps51
  go_wp2_with fail
  refine (abs_any neg m p h1 p1 _).mono ?_
  rintro e v ⟨rfl, rfl⟩
  go_wp2_with fail
  go_ret2
  exact ⟨rfl, rfl⟩

set_option maxHeartbeats 1000000 in
theorem ldexp_any (neg : Bool) (m : Nat) (p x : Int) (h0 : 4503599627370496 ≤ m) (h1 : m < 9007199254740992) (p0 : -52 ≤ p) (p1 : p ≤ 1) (x0 : -300 ≤ x) (x1 : x ≤ 300) (w : World) :
    Calls Try.prog 48 #[.float .f64 (wd neg m p), .int .i64 x] w fun e w' => e = .returned (.float .f64 (wd neg m (p + x))) ∧ w' = w := by
  have l1 := f64bits
  have l2 := f64from
  have e1 : (FloatKind.f64.format.order (wd neg m p) 0 == some Ordering.eq) = false := order_wd_zero h0 h1 (by omega) (by omega)
  have e2 : bits .and .i64 (wrap64 ((wd neg m p : Int) / 4503599627370496)) 2047 = p + 1075 := by
    have hl := wd_lt (neg := neg) h1 (show p ≤ 971 by omega)
    rw [show wrap64 ((wd neg m p : Int) / 4503599627370496) = (wd neg m p : Int) / 4503599627370496 by unfold wrap64; omega]
    exact wd_exp h0 h1 (by omega) (by omega)
  have e4 : bits .or .u64 ((neg.toNat : Int) * 9223372036854775808 + ((m - 4503599627370496 : Nat) : Int)) ((x + (p + 1075 - 1023) + 1023) * 4503599627370496) = (wd neg m (p + x) : Int) := by
    have h := wd_lay (neg := neg) (x := x + (p + 1075 - 1023) + 1023) h0 h1 (by omega) (by omega)
    rw [show x + (p + 1075 - 1023) + 1023 - 1075 = p + x by omega] at h
    rw [← h, show ((neg.toNat : Int) * 9223372036854775808 + ((m - 4503599627370496 : Nat) : Int)) = ((neg.toNat * 9223372036854775808 + (m - 4503599627370496) : Nat) : Int) by omega]
  have l3 := fun (w : World) => run_float_arith (P := Try.prog) w .mul 40 .f64 4607182418800017408 (wd neg m (p + x)) (wd neg m (p + x)) (one_mul_wd h0 h1 (by omega) (by omega))
  have e3 := wd_clear (neg := neg) (p := p) h0 h1 (by omega)
  go_enter Try.func48, Try.ntmps48
  go_wp2_with fail
  refine (isinf_any neg m p h0 h1 (by omega) (by omega) _).mono ?_
  rintro e v ⟨rfl, rfl⟩
  go_wp2_with fail
  refine (isnan64_any neg m p h0 h1 (by omega) (by omega) _).mono ?_
  rintro e v ⟨rfl, rfl⟩
  go_wp2_with fail
  refine (normal_any neg m p h0 h1 (by omega) (by omega) _).mono ?_
  rintro e v ⟨rfl, rfl⟩
  go_wp2_with fail
  go_ret
  exact ⟨rfl, rfl⟩

set_option maxHeartbeats 400000 in
theorem ldexp0_any (x : Int) (w : World) :
    Calls Try.prog 48 #[.float .f64 0, .int .i64 x] w fun e w' => e = .returned (.float .f64 0) ∧ w' = w := by
  have e1 : (FloatKind.f64.format.order 0 0 == some Ordering.eq) = true := by decide
  go_enter Try.func48, Try.ntmps48
  go_wp2_with fail
  go_ret
  exact ⟨rfl, rfl⟩

set_option maxHeartbeats 400000 in
theorem lib_any (neg : Bool) (m : Nat) (p x : Int) (h0 : 4503599627370496 ≤ m) (h1 : m < 9007199254740992) (p0 : -52 ≤ p) (p1 : p ≤ 1) (x0 : -300 ≤ x) (x1 : x ≤ 300) (w : World) :
    Calls Try.prog 41 #[.float .f64 (wd neg m p), .int .i64 x] w fun e w' => e = .returned (.float .f64 (wd neg m (p + x))) ∧ w' = w := by
  go_enter Try.func41, Try.ntmps41
  go_wp2_with fail
  refine (ldexp_any neg m p x h0 h1 p0 p1 x0 x1 _).mono ?_
  rintro e v ⟨rfl, rfl⟩
  go_wp2_with fail
  go_ret
  exact ⟨rfl, rfl⟩

set_option maxHeartbeats 400000 in
theorem lib0_any (x : Int) (w : World) :
    Calls Try.prog 41 #[.float .f64 0, .int .i64 x] w fun e w' => e = .returned (.float .f64 0) ∧ w' = w := by
  go_enter Try.func41, Try.ntmps41
  go_wp2_with fail
  refine (ldexp0_any x _).mono ?_
  rintro e v ⟨rfl, rfl⟩
  go_wp2_with fail
  go_ret
  exact ⟨rfl, rfl⟩
end Go.Proofs.Ytemfgmnindikfaa

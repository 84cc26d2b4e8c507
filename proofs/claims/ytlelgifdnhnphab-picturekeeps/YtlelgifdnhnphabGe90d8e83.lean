/- What the library's Ldexp returns of a binary64 number and a power that keeps it normal, and package arith's Scale; what was in memory stays as it was. -/
import Derived.Test.YtlelgifdnhnphabGb17ebe9c
namespace Go.Proofs.Ytlelgifdnhnphab
open Go.RowKit

theorem i64_and (a b : Nat) (ha : a < 9223372036854775808) (hb : b < 9223372036854775808) : bits .and .i64 (a : Int) (b : Int) = ((a &&& b : Nat) : Int) := by
  have hx : a &&& b < 2 ^ 63 := Nat.and_lt_two_pow _ (by omega)
  show IntKind.i64.wrap ((BitVec.ofInt 64 (a : Int) &&& BitVec.ofInt 64 (b : Int)).toNat : Int) = _
  rw [BitVec.toNat_and, ofInt_u64 a (by omega), ofInt_u64 b (by omega), IntKind.wrap_i64]
  omega
theorem top_off (r : Int) (h0 : 0 ≤ r) (h1 : r < 9223372036854775808) : bits .andNot .u64 (9223372036854775808 + r) 9223372036854775808 = r := by go_bits2
theorem top_off' (r : Int) (h0 : 0 ≤ r) (h1 : r < 9223372036854775808) : bits .andNot .u64 r 9223372036854775808 = r := by go_bits2
theorem nat_clear (x : Nat) : x &&& 9227875636482146303 = x / 9223372036854775808 % 2 * 9223372036854775808 + x % 4503599627370496 := by
  have e : (9227875636482146303 : Nat) = 2 ^ 63 ||| (2 ^ 52 - 1) := by decide
  rw [e, Nat.and_or_distrib_left, nat_bit 63 x, Nat.and_two_pow_sub_one_eq_mod]
  exact nat_join 63 _ _ (Nat.mul_mod_left _ _) (Nat.lt_trans (Nat.mod_lt _ (by decide)) (by decide))
theorem nat_lay (s q f : Nat) (hq : q < 2048) (hf : f < 4503599627370496) : (s * 9223372036854775808 + f) ||| (q * 4503599627370496) = s * 9223372036854775808 + (q * 4503599627370496 + f) := by
  have e1 : s * 9223372036854775808 + f = s * 9223372036854775808 ||| f := (nat_join 63 _ _ (by show s * 2 ^ 63 % 2 ^ 63 = 0; exact Nat.mul_mod_left _ _) (by omega)).symm
  have e2 : f ||| q * 4503599627370496 = q * 4503599627370496 + f := by
    rw [Nat.or_comm]; exact nat_join 52 _ _ (by show q * 2 ^ 52 % 2 ^ 52 = 0; exact Nat.mul_mod_left _ _) (by omega)
  rw [e1, Nat.or_assoc, e2]
  exact nat_join 63 _ _ (by show s * 2 ^ 63 % 2 ^ 63 = 0; exact Nat.mul_mod_left _ _) (by omega)

/-- The word as sign, exponent and the rest. -/
theorem wd_form (neg : Bool) (m : Nat) (p : Int) : wd neg m p = neg.toNat * 9223372036854775808 + ((p + 1074).toNat * 4503599627370496 + m) := by
  unfold wd; cases neg <;> simp
theorem wd_lt {neg : Bool} {m : Nat} {p : Int} (h1 : m < 9007199254740992) (p1 : p ≤ 971) : wd neg m p < 18446744073709551616 := by
  rw [wd_form]; have := Bool.toNat_lt neg; omega
theorem wd_exp {neg : Bool} {m : Nat} {p : Int} (h0 : 4503599627370496 ≤ m) (h1 : m < 9007199254740992) (p0 : -1074 ≤ p) (p1 : p ≤ 971) : bits .and .i64 ((wd neg m p : Int) / 4503599627370496) 2047 = p + 1075 := by
  have e1 : (wd neg m p : Int) / 4503599627370496 = ((wd neg m p / 4503599627370496 : Nat) : Int) := by omega
  have hlt := wd_lt (neg := neg) h1 p1
  rw [e1, show (2047 : Int) = ((2047 : Nat) : Int) from rfl, i64_and _ _ (by omega) (by omega), nat_mask11]
  have hb := Bool.toNat_lt neg
  rw [wd_form]
  omega
theorem wd_clear {neg : Bool} {m : Nat} {p : Int} (h0 : 4503599627370496 ≤ m) (h1 : m < 9007199254740992) (p1 : p ≤ 971) : bits .andNot .u64 (wd neg m p : Int) 9218868437227405312 = ((neg.toNat * 9223372036854775808 + (m - 4503599627370496) : Nat) : Int) := by
  have hlt := wd_lt (neg := neg) h1 p1
  rw [u64_andNot _ _ (by omega) (by omega) (by omega) (by omega)]
  rw [show (18446744073709551615 - (9218868437227405312 : Int).toNat) = 9227875636482146303 from rfl, nat_clear, Int.toNat_natCast]
  have hb := Bool.toNat_lt neg
  rw [wd_form]
  omega
theorem wd_lay {neg : Bool} {m : Nat} {x : Int} (h0 : 4503599627370496 ≤ m) (h1 : m < 9007199254740992) (x0 : 1 ≤ x) (x1 : x ≤ 2046) : bits .or .u64 ((neg.toNat * 9223372036854775808 + (m - 4503599627370496) : Nat) : Int) (x * 4503599627370496) = (wd neg m (x - 1075) : Int) := by
  have hb := Bool.toNat_lt neg
  obtain ⟨q, rfl⟩ := Int.eq_ofNat_of_zero_le (show 0 ≤ x by omega)
  rw [show ((q : Int) * 4503599627370496) = ((q * 4503599627370496 : Nat) : Int) by omega, u64_or_nat _ _ (by omega) (by omega), nat_lay _ _ _ (by omega) (by omega), wd_form]
  omega

theorem abs_bits {x : Nat} (hx : x < 18446744073709551616) : bits .andNot .u64 (x : Int) 9223372036854775808 = (rung64 x : Int) := by
  unfold rung64
  rcases Nat.lt_or_ge x 9223372036854775808 with g | g
  · rw [top_off' _ (by omega) (by omega)]; omega
  · obtain ⟨r, rfl⟩ : ∃ r, x = 9223372036854775808 + r := ⟨x - 9223372036854775808, by omega⟩
    rw [show ((9223372036854775808 + r : Nat) : Int) = 9223372036854775808 + (r : Int) by omega, top_off _ (by omega) (by omega)]; omega
theorem rung_rung (x : Nat) : rung64 (rung64 x) = rung64 x ∧ sgn64 (rung64 x) = false := by
  unfold rung64 sgn64
  exact ⟨by omega, by rw [beq_eq_false_iff_ne]; omega⟩
theorem order_max (x : Nat) : (Ieee.double.order (rung64 x) 9218868437227405311 == some Ordering.gt) = decide (rung64 x = 9218868437227405312) := by
  obtain ⟨r1, r2⟩ := rung_rung x
  rcases Nat.lt_or_ge 9218868437227405312 (rung64 x) with g | g
  · rw [order_nan1 _ (read64_nan (by rw [nan64_rung, r1]; exact decide_eq_true g)), decide_eq_false (by omega)]; rfl
  · rw [order_num64 (by rw [r1]; exact g) (by decide)]
    have e1 : srung64 (rung64 x) = rung64 x := by unfold srung64; rw [r1, r2]; rfl
    have e2 : srung64 9218868437227405311 = 9218868437227405311 := by decide
    rw [e1, e2]
    rcases Nat.lt_or_ge 9218868437227405311 (rung64 x) with k | k
    · rw [Int.compare_eq_gt.2 (by omega), decide_eq_true (by omega)]; rfl
    · rw [decide_eq_false (by omega)]
      rcases Nat.lt_or_ge (rung64 x) 9218868437227405311 with j | j
      · rw [Int.compare_eq_lt.2 (by omega)]; rfl
      · rw [Int.compare_eq_eq.2 (by omega)]; rfl
theorem order_least (x : Nat) (h : 4503599627370496 ≤ rung64 x) : (Ieee.double.order (rung64 x) 4503599627370496 == some Ordering.lt) = false := by
  obtain ⟨r1, r2⟩ := rung_rung x
  rcases Nat.lt_or_ge 9218868437227405312 (rung64 x) with g | g
  · rw [order_nan1 _ (read64_nan (by rw [nan64_rung, r1]; exact decide_eq_true g))]; rfl
  · rw [order_num64 (by rw [r1]; exact g) (by decide)]
    have e1 : srung64 (rung64 x) = rung64 x := by unfold srung64; rw [r1, r2]; rfl
    have e2 : srung64 4503599627370496 = 4503599627370496 := by decide
    rw [e1, e2, cmp_lt, decide_eq_false (by omega)]
theorem order_self64 (x : Nat) : (Ieee.double.order x x != some Ordering.eq) = nan64 x := by
  cases h : nan64 x
  · rw [nan64_rung] at h
    have h := of_decide_eq_false h
    rw [order_num64 (by omega) (by omega), Int.compare_eq_eq.2 rfl]; rfl
  · rw [order_nan1 _ (read64_nan h)]; rfl
theorem ord_zero64 (b : Nat) : (Ieee.double.order b 0 == some Ordering.eq) = decide (rung64 b = 0) := by
  cases h : nan64 b
  · rw [nan64_rung] at h
    have h := of_decide_eq_false h
    rw [order_num64 (by omega) (by decide), cmp_eq, show srung64 0 = 0 from by decide]
    unfold srung64
    rw [decide_eq_decide]
    split <;> omega
  · rw [order_nan1 _ (read64_nan h)]
    rw [nan64_rung] at h
    have h := of_decide_eq_true h
    rw [decide_eq_false (by omega)]; rfl
set_option maxHeartbeats 400000 in
theorem isnan64_any (x : Nat) (w : World) :
    Calls Try.prog 58 #[.float .f64 x] w fun e w' => e = .returned (.bool (nan64 x)) ∧ w' = w := by
  go_enter Try.func58, Try.ntmps58
  go_wp2_with fail
  go_ret
  exact ⟨by rw [← order_self64]; rfl, rfl⟩
/-- A binary64 times a power of two. -/
def ldV (y : Nat) (x : Int) : Nat := if rung64 y = 0 ∨ 9218868437227405312 ≤ rung64 y then y else ((y : Int) + x * 4503599627370496).toNat
theorem ldV_wd {neg : Bool} {m : Nat} {p x : Int} (h0 : 4503599627370496 ≤ m) (h1 : m < 9007199254740992) (p0 : -1074 ≤ p) (p1 : p ≤ 970) (q0 : -1074 ≤ p + x) : ldV (wd neg m p) x = wd neg m (p + x) := by
  obtain ⟨r1, r2⟩ := wd_rung (neg := neg) h1 (show p ≤ 971 by omega)
  unfold ldV
  rw [if_neg (by rw [r1]; omega)]
  exact wd_sum p0 q0
/-- A power, not too far. -/
def clampV (n : Int) : Int := if n < -300 then -300 else if 300 < n then 300 else n
theorem clamp_bd (n : Int) : -300 ≤ clampV n ∧ clampV n ≤ 300 := by unfold clampV; split <;> (try split) <;> omega
/-- A sample times a power of two. -/
def scaleV (a : Nat) (n : Int) : Nat := if nanN a = true then 2143289344 else toldD (some (Ieee.double.read (ldV (wideN a) (clampV n))))
end Go.Proofs.Ytlelgifdnhnphab
/- What package arith's Fma returns, by its steps in binary64, in the model's own words of floats; what was in memory stays as it was. -/
namespace Go.Proofs.Ytlelgifdnhnphab
open Go.RowKit

theorem sum_nan1 {a : Ieee.Datum} (h : a.isNaN = true) (b : Ieee.Datum) : a.sum b = none := by
  obtain ⟨s, t, rfl⟩ := isNaN_cases h; cases b <;> rfl
theorem sum_nan2 {b : Ieee.Datum} (h : b.isNaN = true) (a : Ieee.Datum) : a.sum b = none := by
  obtain ⟨s, t, rfl⟩ := isNaN_cases h; cases a <;> rfl
theorem product_nan1 {a : Ieee.Datum} (h : a.isNaN = true) (b : Ieee.Datum) : a.product b = none := by
  obtain ⟨s, t, rfl⟩ := isNaN_cases h; cases b <;> rfl
theorem product_nan2 {b : Ieee.Datum} (h : b.isNaN = true) (a : Ieee.Datum) : a.product b = none := by
  obtain ⟨s, t, rfl⟩ := isNaN_cases h; cases a <;> rfl
theorem opp_nan {a : Ieee.Datum} (h : a.isNaN = true) : a.opposite.isNaN = true := by
  obtain ⟨s, t, rfl⟩ := isNaN_cases h; rfl
theorem add_nan1 {x : Nat} (h : nan64 x = true) (y : Nat) : floatBits .add .f64 x y = none := by
  show ((Ieee.double.read x).sum (Ieee.double.read y)).map _ = none
  rw [sum_nan1 (read64_nan h)]; rfl
theorem add_nan2 {y : Nat} (h : nan64 y = true) (x : Nat) : floatBits .add .f64 x y = none := by
  show ((Ieee.double.read x).sum (Ieee.double.read y)).map _ = none
  rw [sum_nan2 (read64_nan h)]; rfl
theorem sub_nan1 {x : Nat} (h : nan64 x = true) (y : Nat) : floatBits .sub .f64 x y = none := by
  show ((Ieee.double.read x).sum (Ieee.double.read y).opposite).map _ = none
  rw [sum_nan1 (read64_nan h)]; rfl
theorem sub_nan2 {y : Nat} (h : nan64 y = true) (x : Nat) : floatBits .sub .f64 x y = none := by
  show ((Ieee.double.read x).sum (Ieee.double.read y).opposite).map _ = none
  rw [sum_nan2 (opp_nan (read64_nan h))]; rfl
theorem mul_nan1 {x : Nat} (h : nan64 x = true) (y : Nat) : floatBits .mul .f64 x y = none := by
  show ((Ieee.double.read x).product (Ieee.double.read y)).map _ = none
  rw [product_nan1 (read64_nan h)]; rfl
theorem mul_nan2 {y : Nat} (h : nan64 y = true) (x : Nat) : floatBits .mul .f64 x y = none := by
  show ((Ieee.double.read x).product (Ieee.double.read y)).map _ = none
  rw [product_nan2 (read64_nan h)]; rfl
theorem same64 (x : Nat) (w : World) : (convert 37 37 (.float .f64 x)).run Try.prog w = .ok (.float .f64 x) w :=
  run_convert_float_float w 37 37 .f64 .f64 x x (by kernel_rfl) Try.underlying37 rfl

/-- What is drawn of a NaN goes on as one. -/
theorem go_sub1 (a b : Nat) (u : World) (y : Nat) (w : World) : (binOp .sub 37 (.float .f64 (nanw .f64 a b u)) (.float .f64 y)).run Try.prog w = .ok (.float .f64 (nanw .f64 (nanw .f64 a b u) y w)) w.drew :=
  run_arith_none .sub (by simp) 37 .f64 _ y (sub_nan1 (nanw64 a b u).1 y) Try.prog w
theorem go_sub2 (a b : Nat) (u : World) (x : Nat) (w : World) : (binOp .sub 37 (.float .f64 x) (.float .f64 (nanw .f64 a b u))).run Try.prog w = .ok (.float .f64 (nanw .f64 x (nanw .f64 a b u) w)) w.drew :=
  run_arith_none .sub (by simp) 37 .f64 x _ (sub_nan2 (nanw64 a b u).1 x) Try.prog w
theorem go_add1 (a b : Nat) (u : World) (y : Nat) (w : World) : (binOp .add 37 (.float .f64 (nanw .f64 a b u)) (.float .f64 y)).run Try.prog w = .ok (.float .f64 (nanw .f64 (nanw .f64 a b u) y w)) w.drew :=
  run_arith_none .add (by simp) 37 .f64 _ y (add_nan1 (nanw64 a b u).1 y) Try.prog w

set_option maxHeartbeats 400000 in
/-- Of a sum that is a NaN. -/
theorem lost_nan (x y a b : Nat) (u : World) (w : World) : Calls Try.prog 57 #[.float .f64 x, .float .f64 y, .float .f64 (nanw .f64 a b u)] w fun e w' => ∃ l, e = .returned (.float .f64 l) ∧ nan64 l = true ∧ Q w w' := by
  have l1 := go_sub1
  have l2 := go_sub2
  have l3 := go_add1
  go_enter Try.func57, Try.ntmps57
  go_wp2_with fail
  go_ret
  exact ⟨_, rfl, (nanw64 _ _ _).1, (Q.refl _).drew.drew.drew.drew.drew⟩
set_option maxHeartbeats 400000 in
/-- Of an infinity and whatever it is added to. -/
theorem lost_inf1 (x y s : Nat) (h : floatBits .sub .f64 s x = none) (w : World) : Calls Try.prog 57 #[.float .f64 x, .float .f64 y, .float .f64 s] w fun e w' => ∃ l, e = .returned (.float .f64 l) ∧ nan64 l = true ∧ Q w w' := by
  have l0 := fun w => run_arith_none .sub (by simp) 37 .f64 s x h Try.prog w
  have l2 := go_sub2
  have l3 := go_add1
  clear h
  go_enter Try.func57, Try.ntmps57
  go_wp2_with fail
  go_ret
  exact ⟨_, rfl, (nanw64 _ _ _).1, (Q.refl _).drew.drew.drew.drew.drew⟩
set_option maxHeartbeats 400000 in
theorem lost_inf2 (x y s : Nat) (h : floatBits .sub .f64 s x = some s) (g : floatBits .sub .f64 s s = none) (k : floatBits .sub .f64 y s = none) (w : World) : Calls Try.prog 57 #[.float .f64 x, .float .f64 y, .float .f64 s] w fun e w' => ∃ l, e = .returned (.float .f64 l) ∧ nan64 l = true ∧ Q w w' := by
  have l0 := fun w => run_float_arith (P := Try.prog) w .sub 37 .f64 s x _ h
  have l1 := fun w => run_arith_none .sub (by simp) 37 .f64 s s g Try.prog w
  have l4 := fun w => run_arith_none .sub (by simp) 37 .f64 y s k Try.prog w
  have l2 := go_sub2
  have l3 := go_add1
  clear h g k
  go_enter Try.func57, Try.ntmps57
  go_wp2_with fail
  go_ret
  exact ⟨_, rfl, (nanw64 _ _ _).1, (Q.refl _).drew.drew.drew.drew⟩
set_option maxHeartbeats 400000 in
theorem lost_fin (x y s p q t u l : Nat) (h1 : floatBits .sub .f64 s x = some p) (h2 : floatBits .sub .f64 s p = some q) (h3 : floatBits .sub .f64 x q = some t) (h4 : floatBits .sub .f64 y p = some u) (h5 : floatBits .add .f64 t u = some l) (w : World) :
    Calls Try.prog 57 #[.float .f64 x, .float .f64 y, .float .f64 s] w fun e w' => e = .returned (.float .f64 l) ∧ w' = w := by
  have l1 := fun w => run_float_arith (P := Try.prog) w .sub 37 .f64 s x _ h1
  have l2 := fun w => run_float_arith (P := Try.prog) w .sub 37 .f64 s p _ h2
  have l3 := fun w => run_float_arith (P := Try.prog) w .sub 37 .f64 x q _ h3
  have l4 := fun w => run_float_arith (P := Try.prog) w .sub 37 .f64 y p _ h4
  have l5 := fun w => run_float_arith (P := Try.prog) w .add 37 .f64 t u _ h5
  clear h1 h2 h3 h4 h5
  go_enter Try.func57, Try.ntmps57
  go_wp2_with fail
  go_ret
  exact ⟨rfl, rfl⟩

set_option maxHeartbeats 800000 in
/-- A sum that has no answer. -/
theorem odd_nan (x y : Nat) (h : floatBits .add .f64 x y = none) (w : World) : Calls Try.prog 50 #[.float .f64 x, .float .f64 y] w fun e w' => ∃ z, e = .returned (.float .f64 z) ∧ nan64 z = true ∧ Q w w' := by
  have l0 := fun w => run_arith_none .add (by simp) 37 .f64 x y h Try.prog w
  have l1 := f64bits
  have hlt := (nanw64 x y w).2
  have hN := (nanw64 x y w).1
  clear h
  by_cases hp : nanw .f64 x y w % 2 = 1
  · have ht : ((nanw .f64 x y w : Int) % 2 == 1) = true := by rw [beq_iff_eq]; omega
    clear hp
    go_enter Try.func50, Try.ntmps50
    go_wp2_with fail
    go_ret
    exact ⟨_, rfl, (nanw64 _ _ _).1, (Q.refl _).drew⟩
  · have ht : ((nanw .f64 x y w : Int) % 2 == 1) = false := by rw [beq_eq_false_iff_ne]; omega
    clear hp
    go_enter Try.func50, Try.ntmps50
    go_wp2_with fail
    refine (lost_nan x y x y w _).mono ?_
    rintro e w1 ⟨l, rfl, hl, q1⟩
    have hz : (FloatKind.f64.format.order l 0 == some Ordering.eq) = false := by
      have : FloatKind.f64.format.order l 0 = none := order_nan1 _ (read64_nan hl)
      rw [this]; rfl
    go_wp2_with fail
    refine (isnan64_any l _).mono ?_
    rintro e w2 ⟨rfl, rfl⟩
    go_wp2_with fail
    go_ret
    exact ⟨_, rfl, (nanw64 _ _ _).1, (Q.refl _).drew.trans q1⟩

set_option maxHeartbeats 800000 in
/-- A sum of which nothing is lost that can be told. -/
theorem odd_inf (x y s : Nat) (hs : s < 18446744073709551616) (h2 : s % 2 = 0) (h : floatBits .add .f64 x y = some s)
    (hL : ∀ w, Calls Try.prog 57 #[.float .f64 x, .float .f64 y, .float .f64 s] w fun e w' => ∃ l, e = .returned (.float .f64 l) ∧ nan64 l = true ∧ Q w w') (w : World) :
    Calls Try.prog 50 #[.float .f64 x, .float .f64 y] w fun e w' => e = .returned (.float .f64 s) ∧ Q w w' := by
  have l0 := fun w => run_float_arith (P := Try.prog) w .add 37 .f64 x y _ h
  have l1 := f64bits
  have ht : ((s : Int) % 2 == 1) = false := by rw [beq_eq_false_iff_ne]; omega
  clear h h2
  go_enter Try.func50, Try.ntmps50
  go_wp2_with fail
  refine (hL _).mono ?_
  rintro e w1 ⟨l, rfl, hl, q1⟩
  have hz : (FloatKind.f64.format.order l 0 == some Ordering.eq) = false := by
    have : FloatKind.f64.format.order l 0 = none := order_nan1 _ (read64_nan hl)
    rw [this]; rfl
  go_wp2_with fail
  refine (isnan64_any l _).mono ?_
  rintro e w2 ⟨rfl, rfl⟩
  go_wp2_with fail
  go_ret
  exact ⟨rfl, q1⟩

/-- The sum, or where something is lost the one of the two about it that is odd. -/
def oddV (s l : Nat) : Nat := if s % 2 = 1 ∨ rung64 l = 0 then s else if (Ieee.double.order l 0 == some Ordering.lt) = (Ieee.double.order s 0 == some Ordering.lt) then s + 1 else s - 1
set_option maxHeartbeats 800000 in
theorem odd_fin (x y s l : Nat) (hs : s < 18446744073709551615) (hs0 : rung64 l = 0 ∨ 0 < s) (hl : nan64 l = false) (h : floatBits .add .f64 x y = some s)
    (hL : ∀ w, Calls Try.prog 57 #[.float .f64 x, .float .f64 y, .float .f64 s] w fun e w' => e = .returned (.float .f64 l) ∧ w' = w) (w : World) :
    Calls Try.prog 50 #[.float .f64 x, .float .f64 y] w fun e w' => e = .returned (.float .f64 (oddV s l)) ∧ Q w w' := by
  have l0 := fun w => run_float_arith (P := Try.prog) w .add 37 .f64 x y _ h
  have l1 := f64bits
  have l2 := f64from
  have hz : (FloatKind.f64.format.order l 0 == some Ordering.eq) = decide (rung64 l = 0) := ord_zero64 l
  by_cases hp : s % 2 = 1
  · have ht : ((s : Int) % 2 == 1) = true := by rw [beq_iff_eq]; omega
    have e1 : oddV s l = s := by unfold oddV; rw [if_pos (Or.inl hp)]
    rw [e1]
    clear h hp hz e1
    go_enter Try.func50, Try.ntmps50
    go_wp2_with fail
    go_ret
    exact ⟨rfl, Q.refl _⟩
  · have ht : ((s : Int) % 2 == 1) = false := by rw [beq_eq_false_iff_ne]; omega
    by_cases g : rung64 l = 0
    · have e1 : oddV s l = s := by unfold oddV; rw [if_pos (Or.inr g)]
      rw [e1]
      rw [decide_eq_true g] at hz
      clear h hp e1 g hs0
      go_enter Try.func50, Try.ntmps50
      go_wp2_with fail
      refine (hL _).mono ?_
      rintro e w1 ⟨rfl, rfl⟩
      go_wp2_with fail
      go_ret
      exact ⟨rfl, Q.refl _⟩
    · rw [decide_eq_false g] at hz
      have hs1 : 0 < s := by omega
      cases b1 : (Ieee.double.order l 0 == some Ordering.lt) <;> cases b2 : (Ieee.double.order s 0 == some Ordering.lt)
      · have e1 : oddV s l = s + 1 := by unfold oddV; rw [if_neg (by omega), b1, b2, if_pos rfl]
        rw [e1]
        have c1 : (FloatKind.f64.format.order l 0 == some Ordering.lt) = _ := b1
        have c2 : (FloatKind.f64.format.order s 0 == some Ordering.lt) = _ := b2
        have l3 := f64from (s + 1)
        rw [show ((s + 1 : Nat) : Int) = (s : Int) + 1 by omega] at l3
        clear h hp e1 g b1 b2 hs0 l2
        go_enter Try.func50, Try.ntmps50
        go_wp2_with fail
        refine (hL _).mono ?_
        rintro e w1 ⟨rfl, rfl⟩
        go_wp2_with fail
        refine (isnan64_any l _).mono ?_
        rintro e w2 ⟨rfl, rfl⟩
        go_wp2_with fail
        go_ret
        exact ⟨rfl, Q.refl _⟩
      · have e1 : oddV s l = s - 1 := by unfold oddV; rw [if_neg (by omega), b1, b2, if_neg (by decide)]
        rw [e1]
        have c1 : (FloatKind.f64.format.order l 0 == some Ordering.lt) = _ := b1
        have c2 : (FloatKind.f64.format.order s 0 == some Ordering.lt) = _ := b2
        have l3 := f64from (s - 1)
        rw [show ((s - 1 : Nat) : Int) = (s : Int) - 1 by omega] at l3
        clear h hp e1 g b1 b2 hs0 l2
        go_enter Try.func50, Try.ntmps50
        go_wp2_with fail
        refine (hL _).mono ?_
        rintro e w1 ⟨rfl, rfl⟩
        go_wp2_with fail
        refine (isnan64_any l _).mono ?_
        rintro e w2 ⟨rfl, rfl⟩
        go_wp2_with fail
        go_ret
        exact ⟨rfl, Q.refl _⟩
      · have e1 : oddV s l = s - 1 := by unfold oddV; rw [if_neg (by omega), b1, b2, if_neg (by decide)]
        rw [e1]
        have c1 : (FloatKind.f64.format.order l 0 == some Ordering.lt) = _ := b1
        have c2 : (FloatKind.f64.format.order s 0 == some Ordering.lt) = _ := b2
        have l3 := f64from (s - 1)
        rw [show ((s - 1 : Nat) : Int) = (s : Int) - 1 by omega] at l3
        clear h hp e1 g b1 b2 hs0 l2
        go_enter Try.func50, Try.ntmps50
        go_wp2_with fail
        refine (hL _).mono ?_
        rintro e w1 ⟨rfl, rfl⟩
        go_wp2_with fail
        refine (isnan64_any l _).mono ?_
        rintro e w2 ⟨rfl, rfl⟩
        go_wp2_with fail
        go_ret
        exact ⟨rfl, Q.refl _⟩
      · have e1 : oddV s l = s + 1 := by unfold oddV; rw [if_neg (by omega), b1, b2, if_pos rfl]
        rw [e1]
        have c1 : (FloatKind.f64.format.order l 0 == some Ordering.lt) = _ := b1
        have c2 : (FloatKind.f64.format.order s 0 == some Ordering.lt) = _ := b2
        have l3 := f64from (s + 1)
        rw [show ((s + 1 : Nat) : Int) = (s : Int) + 1 by omega] at l3
        clear h hp e1 g b1 b2 hs0 l2
        go_enter Try.func50, Try.ntmps50
        go_wp2_with fail
        refine (hL _).mono ?_
        rintro e w1 ⟨rfl, rfl⟩
        go_wp2_with fail
        refine (isnan64_any l _).mono ?_
        rintro e w2 ⟨rfl, rfl⟩
        go_wp2_with fail
        go_ret
        exact ⟨rfl, Q.refl _⟩
end Go.Proofs.Ytlelgifdnhnphab
/- Plain facts: a sample times a power of two by way of binary64. -/
namespace Go.Proofs.Ytlelgifdnhnphab
open Go.RowKit

theorem toldD_num (s : Bool) (m : Nat) (p : Int) : toldD (some (.number s m p)) = Ieee.single.word s (rungOf Ieee.single m p) := nearest_rung _ _ _ _
theorem rung_big {m : Nat} {p : Int} (hm : m ≠ 0) (hp : 128 ≤ p) : rungOf Ieee.single m p = 2139095040 := by
  have h1 : rungOf Ieee.single 1 128 ≤ rungOf Ieee.single (m * 2 ^ (p - 128).toNat) 128 := rung_mono _ _ (Nat.mul_pos (by omega) (Nat.two_pow_pos _))
  rw [rung_scale, show (128 : Int) + (((p - 128).toNat : Nat) : Int) = p by omega] at h1
  have h2 : rungOf Ieee.single 1 128 = 2139095040 := by decide +kernel
  have h3 := rungOf_le Ieee.single m p
  rw [inf32] at h3
  omega
theorem rung_small {m : Nat} {p : Int} (hm : m < 16777216) (hp : p ≤ -174) : rungOf Ieee.single m p = 0 := by
  have h1 : rungOf Ieee.single m p ≤ rungOf Ieee.single (16777216 * 2 ^ (-174 - p).toNat) p := rung_mono _ _ (by
    have : 16777216 * 1 ≤ 16777216 * 2 ^ (-174 - p).toNat := Nat.mul_le_mul_left _ (Nat.two_pow_pos _)
    omega)
  rw [rung_scale, show p + (((-174 - p).toNat : Nat) : Int) = -174 by omega] at h1
  have h2 : rungOf Ieee.single 16777216 (-174) = 0 := by decide +kernel
  omega
theorem rungOf_zero (f : Ieee.Format) (p : Int) : rungOf f 0 p = 0 := by unfold rungOf; rw [if_pos rfl]
theorem read_word64 (s : Bool) : Ieee.double.read (Ieee.double.word s 0) = .number s 0 (-1074) := by
  obtain ⟨a, b⟩ := sgn_word64 s (r := 0) (by decide)
  rw [read_fin64 (by rw [b]; decide), a, b]; rfl
theorem read_winf64 (s : Bool) : Ieee.double.read (Ieee.double.word s 9218868437227405312) = .infinity s := by
  obtain ⟨a, b⟩ := sgn_word64 s (r := 9218868437227405312) (by decide)
  rw [read_inf64 b, a]
/-- What Scale tells of a sample that is no NaN: nought, infinity, or the number rounded. -/
theorem scaleV_fin {a : Nat} (h0 : rung32 a ≠ 0) (h : rung32 a < 2139095040) (n : Int) : scaleV a n = Ieee.single.word (sgn32 a) (rungOf Ieee.single (mag32 (rung32 a)) (-149 + (plc32 (rung32 a) : Int) + n)) := by
  have hn : nanN a = false := by rw [nanN_rung]; exact decide_eq_false (by omega)
  unfold scaleV
  rw [hn, if_neg (by decide)]
  obtain ⟨L, hL, m0, m1, e, hp⟩ := wide_wd h0 h
  obtain ⟨c0, c1⟩ := clamp_bd n
  have b0 : 4503599627370496 ≤ mag32 (rung32 a) * 2 ^ (52 - L) := by
    have := Nat.mul_le_mul_right (2 ^ (52 - L)) m0
    rw [← Nat.pow_add, show L + (52 - L) = 52 by omega] at this
    exact this
  have b1 : mag32 (rung32 a) * 2 ^ (52 - L) < 9007199254740992 := by
    have := Nat.mul_lt_mul_of_pos_right m1 (Nat.two_pow_pos (52 - L))
    rw [← Nat.pow_add, show L + 1 + (52 - L) = 53 by omega] at this
    exact this
  rw [e, ldV_wd b0 b1 (by omega) (by omega) (by omega), read_wd b0 b1 (by omega) (by omega)]
  rw [toldD_num, rung_scale, show -149 + (plc32 (rung32 a) : Int) + L - 52 + clampV n + ((52 - L : Nat) : Int) = -149 + (plc32 (rung32 a) : Int) + clampV n by omega]
  refine congrArg (Ieee.single.word (sgn32 a)) ?_
  have hm := mag_ne32 h0
  have hm1 := mag_lt32 (rung32 a)
  unfold clampV
  split
  · rw [rung_small hm1 (by omega), rung_small hm1 (by omega)]
  · split
    · rw [rung_big hm (by omega), rung_big hm (by omega)]
    · rfl
theorem scaleV_zero {a : Nat} (h : rung32 a = 0) (n : Int) : scaleV a n = Ieee.single.word (sgn32 a) 0 := by
  have hn : nanN a = false := by rw [nanN_rung]; exact decide_eq_false (by omega)
  unfold scaleV ldV
  rw [hn, if_neg (by decide), wide_zero h, if_pos (Or.inl (sgn_word64 _ (by decide)).2), read_word64]
  rw [toldD_num, rungOf_zero]
theorem scaleV_inf {a : Nat} (h : rung32 a = 2139095040) (n : Int) : scaleV a n = Ieee.single.word (sgn32 a) 2139095040 := by
  have hn : nanN a = false := by rw [nanN_rung]; exact decide_eq_false (by omega)
  unfold scaleV ldV
  rw [hn, if_neg (by decide), wide_inf h, if_pos (Or.inr (by rw [(sgn_word64 _ (by decide)).2]; exact Nat.le_refl _)), read_winf64]
  show Ieee.single.word _ Ieee.single.infRung = _
  rw [inf32]
theorem scaleV_nan {a : Nat} (h : nanN a = true) (n : Int) : scaleV a n = 2143289344 := by
  unfold scaleV; rw [h]; rfl
end Go.Proofs.Ytlelgifdnhnphab

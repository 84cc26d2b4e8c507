/- What package arith's Fma returns, by its steps in binary64, in the model's own words of floats; what was in memory stays as it was. -/
import Derived.Test.YtgpgjbgobaaohaaGae132719
namespace Go.Proofs.Ytgpgjbgobaaohaa
open Go.RowKit

theorem sum_nan1 {a : Ieee.Datum} (h : a.isNaN = true) (b : Ieee.Datum) : a.sum b = none := by
  obtain ⟨s, t, rfl⟩ := isNaN_cases h; cases b <;> rfl
theorem sum_nan2 {b : Ieee.Datum} (h : b.isNaN = true) (a : Ieee.Datum) : a.sum b = none := by
  obtain ⟨s, t, rfl⟩ := isNaN_cases h; cases a <;> rfl
theorem product_nan1 {a : Ieee.Datum} (h : a.isNaN = true) (b : Ieee.Datum) : a.product b = none := by
  obtain ⟨s, t, rfl⟩ := isNaN_cases h; cases b <;> rfl
theorem product_nan2 {b : Ieee.Datum} (h : b.isNaN = true) (a : Ieee.Datum) : a.product b = none := by
  obtain ⟨s, t, rfl⟩ := isNaN_cases h; cases a <;> rfl
theorem opp_nan {a : Ieee.Datum} (h : a.isNaN = true) : a.opposite.isNaN = true := by
  obtain ⟨s, t, rfl⟩ := isNaN_cases h; rfl
theorem add_nan1 {x : Nat} (h : nan64 x = true) (y : Nat) : floatBits .add .f64 x y = none := by
  show ((Ieee.double.read x).sum (Ieee.double.read y)).map _ = none
  rw [sum_nan1 (read64_nan h)]; rfl
theorem add_nan2 {y : Nat} (h : nan64 y = true) (x : Nat) : floatBits .add .f64 x y = none := by
  show ((Ieee.double.read x).sum (Ieee.double.read y)).map _ = none
  rw [sum_nan2 (read64_nan h)]; rfl
theorem sub_nan1 {x : Nat} (h : nan64 x = true) (y : Nat) : floatBits .sub .f64 x y = none := by
  show ((Ieee.double.read x).sum (Ieee.double.read y).opposite).map _ = none
  rw [sum_nan1 (read64_nan h)]; rfl
theorem sub_nan2 {y : Nat} (h : nan64 y = true) (x : Nat) : floatBits .sub .f64 x y = none := by
  show ((Ieee.double.read x).sum (Ieee.double.read y).opposite).map _ = none
  rw [sum_nan2 (opp_nan (read64_nan h))]; rfl
theorem mul_nan1 {x : Nat} (h : nan64 x = true) (y : Nat) : floatBits .mul .f64 x y = none := by
  show ((Ieee.double.read x).product (Ieee.double.read y)).map _ = none
  rw [product_nan1 (read64_nan h)]; rfl
theorem mul_nan2 {y : Nat} (h : nan64 y = true) (x : Nat) : floatBits .mul .f64 x y = none := by
  show ((Ieee.double.read x).product (Ieee.double.read y)).map _ = none
  rw [product_nan2 (read64_nan h)]; rfl
theorem same64 (x : Nat) (w : World) : (convert 62 62 (.float .f64 x)).run Try.prog w = .ok (.float .f64 x) w :=
  run_convert_float_float w 62 62 .f64 .f64 x x (by kernel_rfl) Try.underlying62 rfl

/-- What is drawn of a NaN goes on as one. -/
theorem go_sub1 (a b : Nat) (u : World) (y : Nat) (w : World) : (binOp .sub 62 (.float .f64 (nanw .f64 a b u)) (.float .f64 y)).run Try.prog w = .ok (.float .f64 (nanw .f64 (nanw .f64 a b u) y w)) w.drew :=
  run_arith_none .sub (by simp) 62 .f64 _ y (sub_nan1 (nanw64 a b u).1 y) Try.prog w
theorem go_sub2 (a b : Nat) (u : World) (x : Nat) (w : World) : (binOp .sub 62 (.float .f64 x) (.float .f64 (nanw .f64 a b u))).run Try.prog w = .ok (.float .f64 (nanw .f64 x (nanw .f64 a b u) w)) w.drew :=
  run_arith_none .sub (by simp) 62 .f64 x _ (sub_nan2 (nanw64 a b u).1 x) Try.prog w
theorem go_add1 (a b : Nat) (u : World) (y : Nat) (w : World) : (binOp .add 62 (.float .f64 (nanw .f64 a b u)) (.float .f64 y)).run Try.prog w = .ok (.float .f64 (nanw .f64 (nanw .f64 a b u) y w)) w.drew :=
  run_arith_none .add (by simp) 62 .f64 _ y (add_nan1 (nanw64 a b u).1 y) Try.prog w

set_option maxHeartbeats 400000 in
/-- Of a sum that is a NaN. -/
theorem lost_nan (x y a b : Nat) (u : World) (w : World) : Calls Try.prog 63 #[.float .f64 x, .float .f64 y, .float .f64 (nanw .f64 a b u)] w fun e w' => ∃ l, e = .returned (.float .f64 l) ∧ nan64 l = true ∧ Q w w' := by
  have l1 := go_sub1
  have l2 := go_sub2
  have l3 := go_add1
  go_enter Try.func63, Try.ntmps63
  go_wp2_with fail
  go_ret
  exact ⟨_, rfl, (nanw64 _ _ _).1, (Q.refl _).drew.drew.drew.drew.drew⟩
set_option maxHeartbeats 400000 in
/-- Of an infinity and whatever it is added to. -/
theorem lost_inf1 (x y s : Nat) (h : floatBits .sub .f64 s x = none) (w : World) : Calls Try.prog 63 #[.float .f64 x, .float .f64 y, .float .f64 s] w fun e w' => ∃ l, e = .returned (.float .f64 l) ∧ nan64 l = true ∧ Q w w' := by
  have l0 := fun w => run_arith_none .sub (by simp) 62 .f64 s x h Try.prog w
  have l2 := go_sub2
  have l3 := go_add1
  clear h
  go_enter Try.func63, Try.ntmps63
  go_wp2_with fail
  go_ret
  exact ⟨_, rfl, (nanw64 _ _ _).1, (Q.refl _).drew.drew.drew.drew.drew⟩
set_option maxHeartbeats 400000 in
theorem lost_inf2 (x y s : Nat) (h : floatBits .sub .f64 s x = some s) (g : floatBits .sub .f64 s s = none) (k : floatBits .sub .f64 y s = none) (w : World) : Calls Try.prog 63 #[.float .f64 x, .float .f64 y, .float .f64 s] w fun e w' => ∃ l, e = .returned (.float .f64 l) ∧ nan64 l = true ∧ Q w w' := by
  have l0 := fun w => run_float_arith (P := Try.prog) w .sub 62 .f64 s x _ h
  have l1 := fun w => run_arith_none .sub (by simp) 62 .f64 s s g Try.prog w
  have l4 := fun w => run_arith_none .sub (by simp) 62 .f64 y s k Try.prog w
  have l2 := go_sub2
  have l3 := go_add1
  clear h g k
  go_enter Try.func63, Try.ntmps63
  go_wp2_with fail
  go_ret
  exact ⟨_, rfl, (nanw64 _ _ _).1, (Q.refl _).drew.drew.drew.drew⟩
set_option maxHeartbeats 400000 in
theorem lost_fin (x y s p q t u l : Nat) (h1 : floatBits .sub .f64 s x = some p) (h2 : floatBits .sub .f64 s p = some q) (h3 : floatBits .sub .f64 x q = some t) (h4 : floatBits .sub .f64 y p = some u) (h5 : floatBits .add .f64 t u = some l) (w : World) :
    Calls Try.prog 63 #[.float .f64 x, .float .f64 y, .float .f64 s] w fun e w' => e = .returned (.float .f64 l) ∧ w' = w := by
  have l1 := fun w => run_float_arith (P := Try.prog) w .sub 62 .f64 s x _ h1
  have l2 := fun w => run_float_arith (P := Try.prog) w .sub 62 .f64 s p _ h2
  have l3 := fun w => run_float_arith (P := Try.prog) w .sub 62 .f64 x q _ h3
  have l4 := fun w => run_float_arith (P := Try.prog) w .sub 62 .f64 y p _ h4
  have l5 := fun w => run_float_arith (P := Try.prog) w .add 62 .f64 t u _ h5
  clear h1 h2 h3 h4 h5
  go_enter Try.func63, Try.ntmps63
  go_wp2_with fail
  go_ret
  exact ⟨rfl, rfl⟩

set_option maxHeartbeats 800000 in
/-- A sum that has no answer. -/
theorem odd_nan (x y : Nat) (h : floatBits .add .f64 x y = none) (w : World) : Calls Try.prog 45 #[.float .f64 x, .float .f64 y] w fun e w' => ∃ z, e = .returned (.float .f64 z) ∧ nan64 z = true ∧ Q w w' := by
  have l0 := fun w => run_arith_none .add (by simp) 62 .f64 x y h Try.prog w
  have l1 := f64bits
  have hlt := (nanw64 x y w).2
  have hN := (nanw64 x y w).1
  clear h
  by_cases hp : nanw .f64 x y w % 2 = 1
  · have ht : ((nanw .f64 x y w : Int) % 2 == 1) = true := by rw [beq_iff_eq]; omega
    clear hp
    go_enter Try.func45, Try.ntmps45
    go_wp2_with fail
    go_ret
    exact ⟨_, rfl, (nanw64 _ _ _).1, (Q.refl _).drew⟩
  · have ht : ((nanw .f64 x y w : Int) % 2 == 1) = false := by rw [beq_eq_false_iff_ne]; omega
    clear hp
    go_enter Try.func45, Try.ntmps45
    go_wp2_with fail
    refine (lost_nan x y x y w _).mono ?_
    rintro e w1 ⟨l, rfl, hl, q1⟩
    have hz : (FloatKind.f64.format.order l 0 == some Ordering.eq) = false := by
      have : FloatKind.f64.format.order l 0 = none := order_nan1 _ (read64_nan hl)
      rw [this]; rfl
    go_wp2_with fail
    refine (isnan64_any l _).mono ?_
    rintro e w2 ⟨rfl, rfl⟩
    go_wp2_with fail
    go_ret
    exact ⟨_, rfl, (nanw64 _ _ _).1, (Q.refl _).drew.trans q1⟩

set_option maxHeartbeats 800000 in
/-- A sum of which nothing is lost that can be told. -/
theorem odd_inf (x y s : Nat) (hs : s < 18446744073709551616) (h2 : s % 2 = 0) (h : floatBits .add .f64 x y = some s)
    (hL : ∀ w, Calls Try.prog 63 #[.float .f64 x, .float .f64 y, .float .f64 s] w fun e w' => ∃ l, e = .returned (.float .f64 l) ∧ nan64 l = true ∧ Q w w') (w : World) :
    Calls Try.prog 45 #[.float .f64 x, .float .f64 y] w fun e w' => e = .returned (.float .f64 s) ∧ Q w w' := by
  have l0 := fun w => run_float_arith (P := Try.prog) w .add 62 .f64 x y _ h
  have l1 := f64bits
  have ht : ((s : Int) % 2 == 1) = false := by rw [beq_eq_false_iff_ne]; omega
  clear h h2
  go_enter Try.func45, Try.ntmps45
  go_wp2_with fail
  refine (hL _).mono ?_
  rintro e w1 ⟨l, rfl, hl, q1⟩
  have hz : (FloatKind.f64.format.order l 0 == some Ordering.eq) = false := by
    have : FloatKind.f64.format.order l 0 = none := order_nan1 _ (read64_nan hl)
    rw [this]; rfl
  go_wp2_with fail
  refine (isnan64_any l _).mono ?_
  rintro e w2 ⟨rfl, rfl⟩
  go_wp2_with fail
  go_ret
  exact ⟨rfl, q1⟩

/-- The sum, or where something is lost the one of the two about it that is odd. -/
def oddV (s l : Nat) : Nat := if s % 2 = 1 ∨ rung64 l = 0 then s else if (Ieee.double.order l 0 == some Ordering.lt) = (Ieee.double.order s 0 == some Ordering.lt) then s + 1 else s - 1
set_option maxHeartbeats 800000 in
theorem odd_fin (x y s l : Nat) (hs : s < 18446744073709551615) (hs0 : rung64 l = 0 ∨ 0 < s) (hl : nan64 l = false) (h : floatBits .add .f64 x y = some s)
    (hL : ∀ w, Calls Try.prog 63 #[.float .f64 x, .float .f64 y, .float .f64 s] w fun e w' => e = .returned (.float .f64 l) ∧ w' = w) (w : World) :
    Calls Try.prog 45 #[.float .f64 x, .float .f64 y] w fun e w' => e = .returned (.float .f64 (oddV s l)) ∧ Q w w' := by
  have l0 := fun w => run_float_arith (P := Try.prog) w .add 62 .f64 x y _ h
  have l1 := f64bits
  have l2 := f64from
  have hz : (FloatKind.f64.format.order l 0 == some Ordering.eq) = decide (rung64 l = 0) := ord_zero64 l
  by_cases hp : s % 2 = 1
  · have ht : ((s : Int) % 2 == 1) = true := by rw [beq_iff_eq]; omega
    have e1 : oddV s l = s := by unfold oddV; rw [if_pos (Or.inl hp)]
    rw [e1]
    clear h hp hz e1
    go_enter Try.func45, Try.ntmps45
    go_wp2_with fail
    go_ret
    exact ⟨rfl, Q.refl _⟩
  · have ht : ((s : Int) % 2 == 1) = false := by rw [beq_eq_false_iff_ne]; omega
    by_cases g : rung64 l = 0
    · have e1 : oddV s l = s := by unfold oddV; rw [if_pos (Or.inr g)]
      rw [e1]
      rw [decide_eq_true g] at hz
      clear h hp e1 g hs0
      go_enter Try.func45, Try.ntmps45
      go_wp2_with fail
      refine (hL _).mono ?_
      rintro e w1 ⟨rfl, rfl⟩
      go_wp2_with fail
      go_ret
      exact ⟨rfl, Q.refl _⟩
    · rw [decide_eq_false g] at hz
      have hs1 : 0 < s := by omega
      cases b1 : (Ieee.double.order l 0 == some Ordering.lt) <;> cases b2 : (Ieee.double.order s 0 == some Ordering.lt)
      · have e1 : oddV s l = s + 1 := by unfold oddV; rw [if_neg (by omega), b1, b2, if_pos rfl]
        rw [e1]
        have c1 : (FloatKind.f64.format.order l 0 == some Ordering.lt) = _ := b1
        have c2 : (FloatKind.f64.format.order s 0 == some Ordering.lt) = _ := b2
        have l3 := f64from (s + 1)
        rw [show ((s + 1 : Nat) : Int) = (s : Int) + 1 by omega] at l3
        clear h hp e1 g b1 b2 hs0 l2
        go_enter Try.func45, Try.ntmps45
        go_wp2_with fail
        refine (hL _).mono ?_
        rintro e w1 ⟨rfl, rfl⟩
        go_wp2_with fail
        refine (isnan64_any l _).mono ?_
        rintro e w2 ⟨rfl, rfl⟩
        go_wp2_with fail
        go_ret
        exact ⟨rfl, Q.refl _⟩
      · have e1 : oddV s l = s - 1 := by unfold oddV; rw [if_neg (by omega), b1, b2, if_neg (by decide)]
        rw [e1]
        have c1 : (FloatKind.f64.format.order l 0 == some Ordering.lt) = _ := b1
        have c2 : (FloatKind.f64.format.order s 0 == some Ordering.lt) = _ := b2
        have l3 := f64from (s - 1)
        rw [show ((s - 1 : Nat) : Int) = (s : Int) - 1 by omega] at l3
        clear h hp e1 g b1 b2 hs0 l2
        go_enter Try.func45, Try.ntmps45
        go_wp2_with fail
        refine (hL _).mono ?_
        rintro e w1 ⟨rfl, rfl⟩
        go_wp2_with fail
        refine (isnan64_any l _).mono ?_
        rintro e w2 ⟨rfl, rfl⟩
        go_wp2_with fail
        go_ret
        exact ⟨rfl, Q.refl _⟩
      · have e1 : oddV s l = s - 1 := by unfold oddV; rw [if_neg (by omega), b1, b2, if_neg (by decide)]
        rw [e1]
        have c1 : (FloatKind.f64.format.order l 0 == some Ordering.lt) = _ := b1
        have c2 : (FloatKind.f64.format.order s 0 == some Ordering.lt) = _ := b2
        have l3 := f64from (s - 1)
        rw [show ((s - 1 : Nat) : Int) = (s : Int) - 1 by omega] at l3
        clear h hp e1 g b1 b2 hs0 l2
        go_enter Try.func45, Try.ntmps45
        go_wp2_with fail
        refine (hL _).mono ?_
        rintro e w1 ⟨rfl, rfl⟩
        go_wp2_with fail
        refine (isnan64_any l _).mono ?_
        rintro e w2 ⟨rfl, rfl⟩
        go_wp2_with fail
        go_ret
        exact ⟨rfl, Q.refl _⟩
      · have e1 : oddV s l = s + 1 := by unfold oddV; rw [if_neg (by omega), b1, b2, if_pos rfl]
        rw [e1]
        have c1 : (FloatKind.f64.format.order l 0 == some Ordering.lt) = _ := b1
        have c2 : (FloatKind.f64.format.order s 0 == some Ordering.lt) = _ := b2
        have l3 := f64from (s + 1)
        rw [show ((s + 1 : Nat) : Int) = (s : Int) + 1 by omega] at l3
        clear h hp e1 g b1 b2 hs0 l2
        go_enter Try.func45, Try.ntmps45
        go_wp2_with fail
        refine (hL _).mono ?_
        rintro e w1 ⟨rfl, rfl⟩
        go_wp2_with fail
        refine (isnan64_any l _).mono ?_
        rintro e w2 ⟨rfl, rfl⟩
        go_wp2_with fail
        go_ret
        exact ⟨rfl, Q.refl _⟩
end Go.Proofs.Ytgpgjbgobaaohaa
/- What package arith's Fma returns: of numbers without an answer, and of others by its steps in binary64; what was in memory stays as it was. -/
namespace Go.Proofs.Ytgpgjbgobaaohaa
open Go.RowKit

theorem go_mul1 (a : Nat) (u : World) (y : Nat) (w : World) : (binOp .mul 62 (.float .f64 (nanc .f64 a u)) (.float .f64 y)).run Try.prog w = .ok (.float .f64 (nanw .f64 (nanc .f64 a u) y w)) w.drew :=
  run_arith_none .mul (by simp) 62 .f64 _ y (mul_nan1 (nanc64 a u).1 y) Try.prog w
theorem go_mul2 (a : Nat) (u : World) (x : Nat) (w : World) : (binOp .mul 62 (.float .f64 x) (.float .f64 (nanc .f64 a u))).run Try.prog w = .ok (.float .f64 (nanw .f64 x (nanc .f64 a u) w)) w.drew :=
  run_arith_none .mul (by simp) 62 .f64 x _ (mul_nan2 (nanc64 a u).1 x) Try.prog w
theorem wide_nan {a : Nat} (h : nanN a = true) (w : World) : (convert 60 62 (.float .f32 a)).run Try.prog w = .ok (.float .f64 (nanc .f64 a w)) w.drew :=
  run_conv_nan (P := Try.prog) 60 62 .f32 .f64 a (by decide) (by kernel_rfl) Try.underlying62 (read32_nan h) w
theorem wide_num {a : Nat} (h : nanN a = false) (w : World) : (convert 60 62 (.float .f32 a)).run Try.prog w = .ok (.float .f64 (wideN a)) w :=
  run_convert_float_float (P := Try.prog) w 60 62 .f32 .f64 a _ (by kernel_rfl) Try.underlying62 (wide_conv h)

set_option maxHeartbeats 800000 in
theorem fma_nnn (a b c : Nat) (ha : nanN a = true) (hb : nanN b = true) (hc : nanN c = true) (w : World) :
    Calls Try.prog 15 #[.int .u32 (a : Int), .int .u32 (b : Int), .int .u32 (c : Int)] w fun e w' => e = .returned (.int .u32 (2143289344 : Nat)) ∧ Q w w' := by
  have l0 := same64
  have la := fun w => wide_nan ha w
  have lb := fun w => wide_nan hb w
  have lc := fun w => wide_nan hc w
  have lm := go_mul1
  clear ha hb hc
  go_enter Try.func15, Try.ntmps15
  go_wp2_with fail
  refine (number_any a _).mono ?_
  rintro e w1 ⟨rfl, rfl⟩
  go_wp2_with fail
  refine (number_any b _).mono ?_
  rintro e w1 ⟨rfl, rfl⟩
  go_wp2_with fail
  refine (number_any c _).mono ?_
  rintro e w1 ⟨rfl, rfl⟩
  go_wp2_with fail
  refine (odd_nan _ _ (add_nan1 (nanw64 _ _ _).1 _) _).mono ?_
  rintro e w2 ⟨z, rfl, hz, q2⟩
  go_wp2_with fail
  refine (narrowed_any z _).mono ?_
  rintro e w3 ⟨rfl, q3⟩
  go_wp2_with fail
  go_ret
  exact ⟨ret_int (by rw [nar_nan hz]), ((Q.refl _).drew.drew.drew.drew.trans q2).trans q3⟩

set_option maxHeartbeats 800000 in
theorem fma_nnf (a b c : Nat) (ha : nanN a = true) (hb : nanN b = true) (hc : nanN c = false) (w : World) :
    Calls Try.prog 15 #[.int .u32 (a : Int), .int .u32 (b : Int), .int .u32 (c : Int)] w fun e w' => e = .returned (.int .u32 (2143289344 : Nat)) ∧ Q w w' := by
  have l0 := same64
  have la := fun w => wide_nan ha w
  have lb := fun w => wide_nan hb w
  have lc := fun w => wide_num hc w
  have lm := go_mul1
  clear ha hb hc
  go_enter Try.func15, Try.ntmps15
  go_wp2_with fail
  refine (number_any a _).mono ?_
  rintro e w1 ⟨rfl, rfl⟩
  go_wp2_with fail
  refine (number_any b _).mono ?_
  rintro e w1 ⟨rfl, rfl⟩
  go_wp2_with fail
  refine (number_any c _).mono ?_
  rintro e w1 ⟨rfl, rfl⟩
  go_wp2_with fail
  refine (odd_nan _ _ (add_nan1 (nanw64 _ _ _).1 _) _).mono ?_
  rintro e w2 ⟨z, rfl, hz, q2⟩
  go_wp2_with fail
  refine (narrowed_any z _).mono ?_
  rintro e w3 ⟨rfl, q3⟩
  go_wp2_with fail
  go_ret
  exact ⟨ret_int (by rw [nar_nan hz]), ((Q.refl _).drew.drew.drew.trans q2).trans q3⟩

set_option maxHeartbeats 800000 in
theorem fma_nfn (a b c : Nat) (ha : nanN a = true) (hb : nanN b = false) (hc : nanN c = true) (w : World) :
    Calls Try.prog 15 #[.int .u32 (a : Int), .int .u32 (b : Int), .int .u32 (c : Int)] w fun e w' => e = .returned (.int .u32 (2143289344 : Nat)) ∧ Q w w' := by
  have l0 := same64
  have la := fun w => wide_nan ha w
  have lb := fun w => wide_num hb w
  have lc := fun w => wide_nan hc w
  have lm := go_mul1
  clear ha hb hc
  go_enter Try.func15, Try.ntmps15
  go_wp2_with fail
  refine (number_any a _).mono ?_
  rintro e w1 ⟨rfl, rfl⟩
  go_wp2_with fail
  refine (number_any b _).mono ?_
  rintro e w1 ⟨rfl, rfl⟩
  go_wp2_with fail
  refine (number_any c _).mono ?_
  rintro e w1 ⟨rfl, rfl⟩
  go_wp2_with fail
  refine (odd_nan _ _ (add_nan1 (nanw64 _ _ _).1 _) _).mono ?_
  rintro e w2 ⟨z, rfl, hz, q2⟩
  go_wp2_with fail
  refine (narrowed_any z _).mono ?_
  rintro e w3 ⟨rfl, q3⟩
  go_wp2_with fail
  go_ret
  exact ⟨ret_int (by rw [nar_nan hz]), ((Q.refl _).drew.drew.drew.trans q2).trans q3⟩

set_option maxHeartbeats 800000 in
theorem fma_nff (a b c : Nat) (ha : nanN a = true) (hb : nanN b = false) (hc : nanN c = false) (w : World) :
    Calls Try.prog 15 #[.int .u32 (a : Int), .int .u32 (b : Int), .int .u32 (c : Int)] w fun e w' => e = .returned (.int .u32 (2143289344 : Nat)) ∧ Q w w' := by
  have l0 := same64
  have la := fun w => wide_nan ha w
  have lb := fun w => wide_num hb w
  have lc := fun w => wide_num hc w
  have lm := go_mul1
  clear ha hb hc
  go_enter Try.func15, Try.ntmps15
  go_wp2_with fail
  refine (number_any a _).mono ?_
  rintro e w1 ⟨rfl, rfl⟩
  go_wp2_with fail
  refine (number_any b _).mono ?_
  rintro e w1 ⟨rfl, rfl⟩
  go_wp2_with fail
  refine (number_any c _).mono ?_
  rintro e w1 ⟨rfl, rfl⟩
  go_wp2_with fail
  refine (odd_nan _ _ (add_nan1 (nanw64 _ _ _).1 _) _).mono ?_
  rintro e w2 ⟨z, rfl, hz, q2⟩
  go_wp2_with fail
  refine (narrowed_any z _).mono ?_
  rintro e w3 ⟨rfl, q3⟩
  go_wp2_with fail
  go_ret
  exact ⟨ret_int (by rw [nar_nan hz]), ((Q.refl _).drew.drew.trans q2).trans q3⟩

set_option maxHeartbeats 800000 in
theorem fma_fnn (a b c : Nat) (ha : nanN a = false) (hb : nanN b = true) (hc : nanN c = true) (w : World) :
    Calls Try.prog 15 #[.int .u32 (a : Int), .int .u32 (b : Int), .int .u32 (c : Int)] w fun e w' => e = .returned (.int .u32 (2143289344 : Nat)) ∧ Q w w' := by
  have l0 := same64
  have la := fun w => wide_num ha w
  have lb := fun w => wide_nan hb w
  have lc := fun w => wide_nan hc w
  have lm := go_mul2
  clear ha hb hc
  go_enter Try.func15, Try.ntmps15
  go_wp2_with fail
  refine (number_any a _).mono ?_
  rintro e w1 ⟨rfl, rfl⟩
  go_wp2_with fail
  refine (number_any b _).mono ?_
  rintro e w1 ⟨rfl, rfl⟩
  go_wp2_with fail
  refine (number_any c _).mono ?_
  rintro e w1 ⟨rfl, rfl⟩
  go_wp2_with fail
  refine (odd_nan _ _ (add_nan1 (nanw64 _ _ _).1 _) _).mono ?_
  rintro e w2 ⟨z, rfl, hz, q2⟩
  go_wp2_with fail
  refine (narrowed_any z _).mono ?_
  rintro e w3 ⟨rfl, q3⟩
  go_wp2_with fail
  go_ret
  exact ⟨ret_int (by rw [nar_nan hz]), ((Q.refl _).drew.drew.drew.trans q2).trans q3⟩

set_option maxHeartbeats 800000 in
theorem fma_fnf (a b c : Nat) (ha : nanN a = false) (hb : nanN b = true) (hc : nanN c = false) (w : World) :
    Calls Try.prog 15 #[.int .u32 (a : Int), .int .u32 (b : Int), .int .u32 (c : Int)] w fun e w' => e = .returned (.int .u32 (2143289344 : Nat)) ∧ Q w w' := by
  have l0 := same64
  have la := fun w => wide_num ha w
  have lb := fun w => wide_nan hb w
  have lc := fun w => wide_num hc w
  have lm := go_mul2
  clear ha hb hc
  go_enter Try.func15, Try.ntmps15
  go_wp2_with fail
  refine (number_any a _).mono ?_
  rintro e w1 ⟨rfl, rfl⟩
  go_wp2_with fail
  refine (number_any b _).mono ?_
  rintro e w1 ⟨rfl, rfl⟩
  go_wp2_with fail
  refine (number_any c _).mono ?_
  rintro e w1 ⟨rfl, rfl⟩
  go_wp2_with fail
  refine (odd_nan _ _ (add_nan1 (nanw64 _ _ _).1 _) _).mono ?_
  rintro e w2 ⟨z, rfl, hz, q2⟩
  go_wp2_with fail
  refine (narrowed_any z _).mono ?_
  rintro e w3 ⟨rfl, q3⟩
  go_wp2_with fail
  go_ret
  exact ⟨ret_int (by rw [nar_nan hz]), ((Q.refl _).drew.drew.trans q2).trans q3⟩

set_option maxHeartbeats 800000 in
theorem fma_pn (a b c : Nat) (ha : nanN a = false) (hb : nanN b = false) (hc : nanN c = true) (hm : floatBits .mul .f64 (wideN a) (wideN b) = none) (w : World) :
    Calls Try.prog 15 #[.int .u32 (a : Int), .int .u32 (b : Int), .int .u32 (c : Int)] w fun e w' => e = .returned (.int .u32 (2143289344 : Nat)) ∧ Q w w' := by
  have l0 := same64
  have la := fun w => wide_num ha w
  have lb := fun w => wide_num hb w
  have lc := fun w => wide_nan hc w
  have lm := fun w => run_arith_none .mul (by simp) 62 .f64 _ _ hm Try.prog w
  clear ha hb hc hm
  go_enter Try.func15, Try.ntmps15
  go_wp2_with fail
  refine (number_any a _).mono ?_
  rintro e w1 ⟨rfl, rfl⟩
  go_wp2_with fail
  refine (number_any b _).mono ?_
  rintro e w1 ⟨rfl, rfl⟩
  go_wp2_with fail
  refine (number_any c _).mono ?_
  rintro e w1 ⟨rfl, rfl⟩
  go_wp2_with fail
  refine (odd_nan _ _ (add_nan1 (nanw64 _ _ _).1 _) _).mono ?_
  rintro e w2 ⟨z, rfl, hz, q2⟩
  go_wp2_with fail
  refine (narrowed_any z _).mono ?_
  rintro e w3 ⟨rfl, q3⟩
  go_wp2_with fail
  go_ret
  exact ⟨ret_int (by rw [nar_nan hz]), ((Q.refl _).drew.drew.trans q2).trans q3⟩

set_option maxHeartbeats 800000 in
theorem fma_pf (a b c : Nat) (ha : nanN a = false) (hb : nanN b = false) (hc : nanN c = false) (hm : floatBits .mul .f64 (wideN a) (wideN b) = none) (w : World) :
    Calls Try.prog 15 #[.int .u32 (a : Int), .int .u32 (b : Int), .int .u32 (c : Int)] w fun e w' => e = .returned (.int .u32 (2143289344 : Nat)) ∧ Q w w' := by
  have l0 := same64
  have la := fun w => wide_num ha w
  have lb := fun w => wide_num hb w
  have lc := fun w => wide_num hc w
  have lm := fun w => run_arith_none .mul (by simp) 62 .f64 _ _ hm Try.prog w
  clear ha hb hc hm
  go_enter Try.func15, Try.ntmps15
  go_wp2_with fail
  refine (number_any a _).mono ?_
  rintro e w1 ⟨rfl, rfl⟩
  go_wp2_with fail
  refine (number_any b _).mono ?_
  rintro e w1 ⟨rfl, rfl⟩
  go_wp2_with fail
  refine (number_any c _).mono ?_
  rintro e w1 ⟨rfl, rfl⟩
  go_wp2_with fail
  refine (odd_nan _ _ (add_nan1 (nanw64 _ _ _).1 _) _).mono ?_
  rintro e w2 ⟨z, rfl, hz, q2⟩
  go_wp2_with fail
  refine (narrowed_any z _).mono ?_
  rintro e w3 ⟨rfl, q3⟩
  go_wp2_with fail
  go_ret
  exact ⟨ret_int (by rw [nar_nan hz]), ((Q.refl _).drew.trans q2).trans q3⟩

set_option maxHeartbeats 800000 in
theorem fma_sn (a b c : Nat) (p : Nat) (ha : nanN a = false) (hb : nanN b = false) (hc : nanN c = true) (hm : floatBits .mul .f64 (wideN a) (wideN b) = some p) (w : World) :
    Calls Try.prog 15 #[.int .u32 (a : Int), .int .u32 (b : Int), .int .u32 (c : Int)] w fun e w' => e = .returned (.int .u32 (2143289344 : Nat)) ∧ Q w w' := by
  have l0 := same64
  have la := fun w => wide_num ha w
  have lb := fun w => wide_num hb w
  have lc := fun w => wide_nan hc w
  have lm := fun w => run_float_arith (P := Try.prog) w .mul 62 .f64 _ _ _ hm
  clear ha hb hc hm
  go_enter Try.func15, Try.ntmps15
  go_wp2_with fail
  refine (number_any a _).mono ?_
  rintro e w1 ⟨rfl, rfl⟩
  go_wp2_with fail
  refine (number_any b _).mono ?_
  rintro e w1 ⟨rfl, rfl⟩
  go_wp2_with fail
  refine (number_any c _).mono ?_
  rintro e w1 ⟨rfl, rfl⟩
  go_wp2_with fail
  refine (odd_nan _ _ (add_nan2 (nanc64 c _).1 _) _).mono ?_
  rintro e w2 ⟨z, rfl, hz, q2⟩
  go_wp2_with fail
  refine (narrowed_any z _).mono ?_
  rintro e w3 ⟨rfl, q3⟩
  go_wp2_with fail
  go_ret
  exact ⟨ret_int (by rw [nar_nan hz]), ((Q.refl _).drew.trans q2).trans q3⟩

set_option maxHeartbeats 800000 in
theorem fma_sf (a b c : Nat) (p : Nat) (ha : nanN a = false) (hb : nanN b = false) (hc : nanN c = false) (hm : floatBits .mul .f64 (wideN a) (wideN b) = some p) (hs : floatBits .add .f64 p (wideN c) = none) (w : World) :
    Calls Try.prog 15 #[.int .u32 (a : Int), .int .u32 (b : Int), .int .u32 (c : Int)] w fun e w' => e = .returned (.int .u32 (2143289344 : Nat)) ∧ Q w w' := by
  have l0 := same64
  have la := fun w => wide_num ha w
  have lb := fun w => wide_num hb w
  have lc := fun w => wide_num hc w
  have lm := fun w => run_float_arith (P := Try.prog) w .mul 62 .f64 _ _ _ hm
  clear ha hb hc hm
  go_enter Try.func15, Try.ntmps15
  go_wp2_with fail
  refine (number_any a _).mono ?_
  rintro e w1 ⟨rfl, rfl⟩
  go_wp2_with fail
  refine (number_any b _).mono ?_
  rintro e w1 ⟨rfl, rfl⟩
  go_wp2_with fail
  refine (number_any c _).mono ?_
  rintro e w1 ⟨rfl, rfl⟩
  go_wp2_with fail
  refine (odd_nan _ _ hs _).mono ?_
  rintro e w2 ⟨z, rfl, hz, q2⟩
  go_wp2_with fail
  refine (narrowed_any z _).mono ?_
  rintro e w3 ⟨rfl, q3⟩
  go_wp2_with fail
  go_ret
  exact ⟨ret_int (by rw [nar_nan hz]), ((Q.refl _).trans q2).trans q3⟩

/-- One that is a NaN, or a product or a sum without an answer. -/
theorem cfma_nan (a b c : Nat) (h : nanN a = true ∨ nanN b = true ∨ nanN c = true ∨ floatBits .mul .f64 (wideN a) (wideN b) = none ∨ ∃ p, floatBits .mul .f64 (wideN a) (wideN b) = some p ∧ floatBits .add .f64 p (wideN c) = none) (w : World) :
    Calls Try.prog 15 #[.int .u32 (a : Int), .int .u32 (b : Int), .int .u32 (c : Int)] w fun e w' => e = .returned (.int .u32 (2143289344 : Nat)) ∧ Q w w' := by
  cases ha : nanN a <;> cases hb : nanN b <;> cases hc : nanN c
  · rcases h with h | h | h | h | ⟨p, h, g⟩
    · rw [ha] at h; cases h
    · rw [hb] at h; cases h
    · rw [hc] at h; cases h
    · exact fma_pf a b c ha hb hc h w
    · exact fma_sf a b c p ha hb hc h g w
  · cases hm : floatBits .mul .f64 (wideN a) (wideN b) with
    | none => exact fma_pn a b c ha hb hc hm w
    | some p => exact fma_sn a b c p ha hb hc hm w
  · exact fma_fnf a b c ha hb hc w
  · exact fma_fnn a b c ha hb hc w
  · exact fma_nff a b c ha hb hc w
  · exact fma_nfn a b c ha hb hc w
  · exact fma_nnf a b c ha hb hc w
  · exact fma_nnn a b c ha hb hc w

set_option maxHeartbeats 800000 in
theorem cfma_odd (a b c p z : Nat) (ha : nanN a = false) (hb : nanN b = false) (hc : nanN c = false) (hm : floatBits .mul .f64 (wideN a) (wideN b) = some p)
    (hO : ∀ w, Calls Try.prog 45 #[.float .f64 p, .float .f64 (wideN c)] w fun e w' => e = .returned (.float .f64 z) ∧ Q w w') (w : World) :
    Calls Try.prog 15 #[.int .u32 (a : Int), .int .u32 (b : Int), .int .u32 (c : Int)] w fun e w' => e = .returned (.int .u32 (toldD (some (Ieee.double.read z)) : Nat)) ∧ Q w w' := by
  have l0 := same64
  have la := fun w => wide_num ha w
  have lb := fun w => wide_num hb w
  have lc := fun w => wide_num hc w
  have lm := fun w => run_float_arith (P := Try.prog) w .mul 62 .f64 _ _ _ hm
  clear ha hb hc hm
  go_enter Try.func15, Try.ntmps15
  go_wp2_with fail
  refine (number_any a _).mono ?_
  rintro e w1 ⟨rfl, rfl⟩
  go_wp2_with fail
  refine (number_any b _).mono ?_
  rintro e w1 ⟨rfl, rfl⟩
  go_wp2_with fail
  refine (number_any c _).mono ?_
  rintro e w1 ⟨rfl, rfl⟩
  go_wp2_with fail
  refine (hO _).mono ?_
  rintro e w2 ⟨rfl, q2⟩
  go_wp2_with fail
  refine (narrowed_any z _).mono ?_
  rintro e w3 ⟨rfl, q3⟩
  go_wp2_with fail
  go_ret
  exact ⟨rfl, q2.trans q3⟩
end Go.Proofs.Ytgpgjbgobaaohaa

/- What package arith's Fma returns, by its steps in binary64, in the model's own words of floats; what was in memory stays as it was. -/
import Derived.Test.YtfolecnjaaakeaaCodeE
namespace Go.Proofs.Ytfolecnjaaakeaa
open Go.RowKit

theorem sum_nan1 {a : Ieee.Datum} (h : a.isNaN = true) (b : Ieee.Datum) : a.sum b = none := by
  obtain ⟨s, t, rfl⟩ := isNaN_cases h; cases b <;> rfl
theorem sum_nan2 {b : Ieee.Datum} (h : b.isNaN = true) (a : Ieee.Datum) : a.sum b = none := by
  obtain ⟨s, t, rfl⟩ := isNaN_cases h; cases a <;> rfl
theorem product_nan1 {a : Ieee.Datum} (h : a.isNaN = true) (b : Ieee.Datum) : a.product b = none := by
  obtain ⟨s, t, rfl⟩ := isNaN_cases h; cases b <;> rfl
theorem product_nan2 {b : Ieee.Datum} (h : b.isNaN = true) (a : Ieee.Datum) : a.product b = none := by
  obtain ⟨s, t, rfl⟩ := isNaN_cases h; cases a <;> rfl
theorem opp_nan {a : Ieee.Datum} (h : a.isNaN = true) : a.opposite.isNaN = true := by
  obtain ⟨s, t, rfl⟩ := isNaN_cases h; rfl
theorem add_nan1 {x : Nat} (h : nan64 x = true) (y : Nat) : floatBits .add .f64 x y = none := by
  show ((Ieee.double.read x).sum (Ieee.double.read y)).map _ = none
  rw [sum_nan1 (read64_nan h)]; rfl
theorem add_nan2 {y : Nat} (h : nan64 y = true) (x : Nat) : floatBits .add .f64 x y = none := by
  show ((Ieee.double.read x).sum (Ieee.double.read y)).map _ = none
  rw [sum_nan2 (read64_nan h)]; rfl
theorem sub_nan1 {x : Nat} (h : nan64 x = true) (y : Nat) : floatBits .sub .f64 x y = none := by
  show ((Ieee.double.read x).sum (Ieee.double.read y).opposite).map _ = none
  rw [sum_nan1 (read64_nan h)]; rfl
theorem sub_nan2 {y : Nat} (h : nan64 y = true) (x : Nat) : floatBits .sub .f64 x y = none := by
  show ((Ieee.double.read x).sum (Ieee.double.read y).opposite).map _ = none
  rw [sum_nan2 (opp_nan (read64_nan h))]; rfl
theorem mul_nan1 {x : Nat} (h : nan64 x = true) (y : Nat) : floatBits .mul .f64 x y = none := by
  show ((Ieee.double.read x).product (Ieee.double.read y)).map _ = none
  rw [product_nan1 (read64_nan h)]; rfl
theorem mul_nan2 {y : Nat} (h : nan64 y = true) (x : Nat) : floatBits .mul .f64 x y = none := by
  show ((Ieee.double.read x).product (Ieee.double.read y)).map _ = none
  rw [product_nan2 (read64_nan h)]; rfl
theorem same64 (x : Nat) (w : World) : (convert 85 85 (.float .f64 x)).run Try.prog w = .ok (.float .f64 x) w :=
  run_convert_float_float w 85 85 .f64 .f64 x x (by kernel_rfl) Try.underlying85 rfl

/-- What is drawn of a NaN goes on as one. -/
theorem go_sub1 (a b : Nat) (u : World) (y : Nat) (w : World) : (binOp .sub 85 (.float .f64 (nanw .f64 a b u)) (.float .f64 y)).run Try.prog w = .ok (.float .f64 (nanw .f64 (nanw .f64 a b u) y w)) w.drew :=
  run_arith_none .sub (by simp) 85 .f64 _ y (sub_nan1 (nanw64 a b u).1 y) Try.prog w
theorem go_sub2 (a b : Nat) (u : World) (x : Nat) (w : World) : (binOp .sub 85 (.float .f64 x) (.float .f64 (nanw .f64 a b u))).run Try.prog w = .ok (.float .f64 (nanw .f64 x (nanw .f64 a b u) w)) w.drew :=
  run_arith_none .sub (by simp) 85 .f64 x _ (sub_nan2 (nanw64 a b u).1 x) Try.prog w
theorem go_add1 (a b : Nat) (u : World) (y : Nat) (w : World) : (binOp .add 85 (.float .f64 (nanw .f64 a b u)) (.float .f64 y)).run Try.prog w = .ok (.float .f64 (nanw .f64 (nanw .f64 a b u) y w)) w.drew :=
  run_arith_none .add (by simp) 85 .f64 _ y (add_nan1 (nanw64 a b u).1 y) Try.prog w

/-- The sum, or where something is lost the one of the two about it that is odd. -/
def oddV (s l : Nat) : Nat := if s % 2 = 1 ∨ rung64 l = 0 then s else if (Ieee.double.order l 0 == some Ordering.lt) = (Ieee.double.order s 0 == some Ordering.lt) then s + 1 else s - 1
end Go.Proofs.Ytfolecnjaaakeaa

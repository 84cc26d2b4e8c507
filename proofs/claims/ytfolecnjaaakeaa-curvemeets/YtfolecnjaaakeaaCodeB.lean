/- What package arith's Add, Sub, Mul, Div, Half, Less, Equal, Least, Greatest and Wide return, in the model's own words of floats; what was in memory stays as it was. -/
import Derived.Test.YtfolecnjaaakeaaCodeA
import Derived.Test.YtfolecnjaaakeaaTold
namespace Go.Proofs.Ytfolecnjaaakeaa
open Go.RowKit

theorem f32from (a : Nat) (w : World) : (callFunc 33 #[.int .u32 (a : Int)]).run Try.prog w = .ok (.value (.float .f32 a)) w := by
  rw [run_callFunc_extern (e := Extern.MathFloatBits.float32frombits) Try.func33 (by kernel_rfl) (by kernel_rfl) (by kernel_rfl) (by kernel_rfl)]
  rfl
theorem f32bits (x : Nat) (w : World) : (callFunc 59 #[.float .f32 x]).run Try.prog w = .ok (.value (.int .u32 (x : Int))) w := by
  rw [run_callFunc_extern (e := Extern.MathFloatBits.float32bits) Try.func59 (by kernel_rfl) (by kernel_rfl) (by kernel_rfl) (by kernel_rfl)]
  rfl
theorem f64bits (x : Nat) (w : World) : (callFunc 57 #[.float .f64 x]).run Try.prog w = .ok (.value (.int .u64 (x : Int))) w := by
  rw [run_callFunc_extern (e := Extern.MathFloatBits.float64bits) Try.func57 (by kernel_rfl) (by kernel_rfl) (by kernel_rfl) (by kernel_rfl)]
  rfl
theorem f64from (a : Nat) (w : World) : (callFunc 69 #[.int .u64 (a : Int)]).run Try.prog w = .ok (.value (.float .f64 a)) w := by
  rw [run_callFunc_extern (e := Extern.MathFloatBits.float64frombits) Try.func69 (by kernel_rfl) (by kernel_rfl) (by kernel_rfl) (by kernel_rfl)]
  rfl
theorem same32 (x : Nat) (w : World) : (convert 65 65 (.float .f32 x)).run Try.prog w = .ok (.float .f32 x) w :=
  run_convert_float_float w 65 65 .f32 .f32 x x (by kernel_rfl) Try.underlying65 rfl

set_option maxHeartbeats 400000 in
theorem number_any (a : Nat) (w : World) : Calls Try.prog 54 #[.int .u32 (a : Int)] w fun e w' => e = .returned (.float .f32 a) ∧ w' = w := by
  have l1 := f32from
  go_enter Try.func54, Try.ntmps54
  go_wp2_with fail
  go_ret
  exact ⟨rfl, rfl⟩

set_option maxHeartbeats 400000 in
theorem sample_any (x : Nat) (hx : x < 4294967296) (w : World) : Calls Try.prog 72 #[.float .f32 x] w fun e w' => e = .returned (.int .u32 (madeN x : Nat)) ∧ Q w w' := by
  have l1 := f32bits
  go_enter Try.func72, Try.ntmps72
  go_wp2_with fail
  refine (made_any x hx _).mono ?_
  rintro e w1 ⟨rfl, q1⟩
  go_wp2_with fail
  go_ret
  exact ⟨rfl, q1⟩

set_option maxHeartbeats 400000 in
theorem cless_any (a b : Nat) (w : World) : Calls Try.prog 40 #[.int .u32 (a : Int), .int .u32 (b : Int)] w fun e w' => e = .returned (.bool (Ieee.single.order a b == some Ordering.lt)) ∧ w' = w := by
  go_enter Try.func40, Try.ntmps40
  go_wp2_with fail
  refine (number_any a _).mono ?_
  rintro e w1 ⟨rfl, rfl⟩
  go_wp2_with fail
  refine (number_any b _).mono ?_
  rintro e w1 ⟨rfl, rfl⟩
  go_wp2_with fail
  go_ret
  exact ⟨rfl, rfl⟩

set_option maxHeartbeats 400000 in
theorem cequal_any (a b : Nat) (w : World) : Calls Try.prog 41 #[.int .u32 (a : Int), .int .u32 (b : Int)] w fun e w' => e = .returned (.bool (Ieee.single.order a b == some Ordering.eq)) ∧ w' = w := by
  go_enter Try.func41, Try.ntmps41
  go_wp2_with fail
  refine (number_any a _).mono ?_
  rintro e w1 ⟨rfl, rfl⟩
  go_wp2_with fail
  refine (number_any b _).mono ?_
  rintro e w1 ⟨rfl, rfl⟩
  go_wp2_with fail
  go_ret
  exact ⟨rfl, rfl⟩

end Go.Proofs.Ytfolecnjaaakeaa

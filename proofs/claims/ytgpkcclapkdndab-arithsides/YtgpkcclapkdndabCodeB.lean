/- What package arith's Add, Sub, Mul, Div, Half, Less, Equal, Least, Greatest and Wide return, in the model's own words of floats; what was in memory stays as it was. -/
import Derived.Test.YtgpkcclapkdndabCodeA
import Derived.Test.YtgpkcclapkdndabTold
namespace Go.Proofs.Ytgpkcclapkdndab
open Go.RowKit

theorem f32from (a : Nat) (w : World) : (callFunc 78 #[.int .u32 (a : Int)]).run Try.prog w = .ok (.value (.float .f32 a)) w := by
  rw [run_callFunc_extern (e := Extern.MathFloatBits.float32frombits) Try.func78 (by kernel_rfl) (by kernel_rfl) (by kernel_rfl) (by kernel_rfl)]
  rfl
theorem f32bits (x : Nat) (w : World) : (callFunc 83 #[.float .f32 x]).run Try.prog w = .ok (.value (.int .u32 (x : Int))) w := by
  rw [run_callFunc_extern (e := Extern.MathFloatBits.float32bits) Try.func83 (by kernel_rfl) (by kernel_rfl) (by kernel_rfl) (by kernel_rfl)]
  rfl
theorem f64bits (x : Nat) (w : World) : (callFunc 57 #[.float .f64 x]).run Try.prog w = .ok (.value (.int .u64 (x : Int))) w := by
  rw [run_callFunc_extern (e := Extern.MathFloatBits.float64bits) Try.func57 (by kernel_rfl) (by kernel_rfl) (by kernel_rfl) (by kernel_rfl)]
  rfl
theorem f64from (a : Nat) (w : World) : (callFunc 61 #[.int .u64 (a : Int)]).run Try.prog w = .ok (.value (.float .f64 a)) w := by
  rw [run_callFunc_extern (e := Extern.MathFloatBits.float64frombits) Try.func61 (by kernel_rfl) (by kernel_rfl) (by kernel_rfl) (by kernel_rfl)]
  rfl
theorem same32 (x : Nat) (w : World) : (convert 61 61 (.float .f32 x)).run Try.prog w = .ok (.float .f32 x) w :=
  run_convert_float_float w 61 61 .f32 .f32 x x (by kernel_rfl) Try.underlying61 rfl

set_option maxHeartbeats 400000 in
theorem number_any (a : Nat) (w : World) : Calls Try.prog 46 #[.int .u32 (a : Int)] w fun e w' => e = .returned (.float .f32 a) ∧ w' = w := by
  have l1 := f32from
  go_enter Try.func46, Try.ntmps46
  go_wp2_with fail
  go_ret
  exact ⟨rfl, rfl⟩

set_option maxHeartbeats 400000 in
theorem sample_any (x : Nat) (hx : x < 4294967296) (w : World) : Calls Try.prog 54 #[.float .f32 x] w fun e w' => e = .returned (.int .u32 (madeN x : Nat)) ∧ Q w w' := by
  have l1 := f32bits
  go_enter Try.func54, Try.ntmps54
  go_wp2_with fail
  refine (made_any x hx _).mono ?_
  rintro e w1 ⟨rfl, q1⟩
  go_wp2_with fail
  go_ret
  exact ⟨rfl, q1⟩

set_option maxHeartbeats 400000 in
theorem cadd_any (a b : Nat) (w : World) : Calls Try.prog 26 #[.int .u32 (a : Int), .int .u32 (b : Int)] w fun e w' => e = .returned (.int .u32 (toldD ((Ieee.single.read a).sum (Ieee.single.read b)) : Nat)) ∧ Q w w' := by
  cases hd : (Ieee.single.read a).sum (Ieee.single.read b) with
  | none =>
    have hf : floatBits .add .f32 a b = none := by
      show ((Ieee.single.read a).sum (Ieee.single.read b)).map Ieee.single.write = none
      rw [hd]; rfl
    have l1 := fun w => run_arith_none .add (by simp) 61 .f32 a b hf Try.prog w
    have l2 := same32
    clear hd hf
    go_enter Try.func26, Try.ntmps26
    go_wp2_with fail
    refine (number_any a _).mono ?_
    rintro e w1 ⟨rfl, rfl⟩
    go_wp2_with fail
    refine (number_any b _).mono ?_
    rintro e w1 ⟨rfl, rfl⟩
    go_wp2_with fail
    refine (sample_any _ (nanw32 a b _).2 _).mono ?_
    rintro e w1 ⟨rfl, q1⟩
    go_wp2_with fail
    go_ret
    exact ⟨ret_int (by rw [madeN_nan (nanw32 a b _).1]; rfl), ((Q.refl _).drew.trans q1)⟩
  | some d =>
    have hf : floatBits .add .f32 a b = some (Ieee.single.write d) := by
      show ((Ieee.single.read a).sum (Ieee.single.read b)).map Ieee.single.write = _
      rw [hd]; rfl
    have l1 := fun w => run_float_arith (P := Try.prog) w .add 61 .f32 a b _ hf
    have l2 := same32
    have hn : Hid (d.isNaN = false) := sum_num hd
    clear hd hf
    go_enter Try.func26, Try.ntmps26
    go_wp2_with fail
    refine (number_any a _).mono ?_
    rintro e w1 ⟨rfl, rfl⟩
    go_wp2_with fail
    refine (number_any b _).mono ?_
    rintro e w1 ⟨rfl, rfl⟩
    go_wp2_with fail
    refine (sample_any _ (write32_lt d) _).mono ?_
    rintro e w1 ⟨rfl, q1⟩
    go_wp2_with fail
    go_ret
    exact ⟨ret_int (by rw [madeN_of (nanN_write hn.out), toldD_some hn.out]), q1⟩

set_option maxHeartbeats 400000 in
theorem csub_any (a b : Nat) (w : World) : Calls Try.prog 27 #[.int .u32 (a : Int), .int .u32 (b : Int)] w fun e w' => e = .returned (.int .u32 (toldD ((Ieee.single.read a).sum (Ieee.single.read b).opposite) : Nat)) ∧ Q w w' := by
  cases hd : (Ieee.single.read a).sum (Ieee.single.read b).opposite with
  | none =>
    have hf : floatBits .sub .f32 a b = none := by
      show ((Ieee.single.read a).sum (Ieee.single.read b).opposite).map Ieee.single.write = none
      rw [hd]; rfl
    have l1 := fun w => run_arith_none .sub (by simp) 61 .f32 a b hf Try.prog w
    have l2 := same32
    clear hd hf
    go_enter Try.func27, Try.ntmps27
    go_wp2_with fail
    refine (number_any a _).mono ?_
    rintro e w1 ⟨rfl, rfl⟩
    go_wp2_with fail
    refine (number_any b _).mono ?_
    rintro e w1 ⟨rfl, rfl⟩
    go_wp2_with fail
    refine (sample_any _ (nanw32 a b _).2 _).mono ?_
    rintro e w1 ⟨rfl, q1⟩
    go_wp2_with fail
    go_ret
    exact ⟨ret_int (by rw [madeN_nan (nanw32 a b _).1]; rfl), ((Q.refl _).drew.trans q1)⟩
  | some d =>
    have hf : floatBits .sub .f32 a b = some (Ieee.single.write d) := by
      show ((Ieee.single.read a).sum (Ieee.single.read b).opposite).map Ieee.single.write = _
      rw [hd]; rfl
    have l1 := fun w => run_float_arith (P := Try.prog) w .sub 61 .f32 a b _ hf
    have l2 := same32
    have hn : Hid (d.isNaN = false) := sum_num hd
    clear hd hf
    go_enter Try.func27, Try.ntmps27
    go_wp2_with fail
    refine (number_any a _).mono ?_
    rintro e w1 ⟨rfl, rfl⟩
    go_wp2_with fail
    refine (number_any b _).mono ?_
    rintro e w1 ⟨rfl, rfl⟩
    go_wp2_with fail
    refine (sample_any _ (write32_lt d) _).mono ?_
    rintro e w1 ⟨rfl, q1⟩
    go_wp2_with fail
    go_ret
    exact ⟨ret_int (by rw [madeN_of (nanN_write hn.out), toldD_some hn.out]), q1⟩

set_option maxHeartbeats 400000 in
theorem cmul_any (a b : Nat) (w : World) : Calls Try.prog 28 #[.int .u32 (a : Int), .int .u32 (b : Int)] w fun e w' => e = .returned (.int .u32 (toldD ((Ieee.single.read a).product (Ieee.single.read b)) : Nat)) ∧ Q w w' := by
  cases hd : (Ieee.single.read a).product (Ieee.single.read b) with
  | none =>
    have hf : floatBits .mul .f32 a b = none := by
      show ((Ieee.single.read a).product (Ieee.single.read b)).map Ieee.single.write = none
      rw [hd]; rfl
    have l1 := fun w => run_arith_none .mul (by simp) 61 .f32 a b hf Try.prog w
    have l2 := same32
    clear hd hf
    go_enter Try.func28, Try.ntmps28
    go_wp2_with fail
    refine (number_any a _).mono ?_
    rintro e w1 ⟨rfl, rfl⟩
    go_wp2_with fail
    refine (number_any b _).mono ?_
    rintro e w1 ⟨rfl, rfl⟩
    go_wp2_with fail
    refine (sample_any _ (nanw32 a b _).2 _).mono ?_
    rintro e w1 ⟨rfl, q1⟩
    go_wp2_with fail
    go_ret
    exact ⟨ret_int (by rw [madeN_nan (nanw32 a b _).1]; rfl), ((Q.refl _).drew.trans q1)⟩
  | some d =>
    have hf : floatBits .mul .f32 a b = some (Ieee.single.write d) := by
      show ((Ieee.single.read a).product (Ieee.single.read b)).map Ieee.single.write = _
      rw [hd]; rfl
    have l1 := fun w => run_float_arith (P := Try.prog) w .mul 61 .f32 a b _ hf
    have l2 := same32
    have hn : Hid (d.isNaN = false) := product_num hd
    clear hd hf
    go_enter Try.func28, Try.ntmps28
    go_wp2_with fail
    refine (number_any a _).mono ?_
    rintro e w1 ⟨rfl, rfl⟩
    go_wp2_with fail
    refine (number_any b _).mono ?_
    rintro e w1 ⟨rfl, rfl⟩
    go_wp2_with fail
    refine (sample_any _ (write32_lt d) _).mono ?_
    rintro e w1 ⟨rfl, q1⟩
    go_wp2_with fail
    go_ret
    exact ⟨ret_int (by rw [madeN_of (nanN_write hn.out), toldD_some hn.out]), q1⟩

set_option maxHeartbeats 400000 in
theorem chalf_any (a : Nat) (w : World) : Calls Try.prog 36 #[.int .u32 (a : Int)] w fun e w' => e = .returned (.int .u32 (toldD ((Ieee.single.read a).quotient 25 (Ieee.single.read 1073741824)) : Nat)) ∧ Q w w' := by
  cases hd : (Ieee.single.read a).quotient 25 (Ieee.single.read 1073741824) with
  | none =>
    have hf : floatBits .quo .f32 a 1073741824 = none := by
      show ((Ieee.single.read a).quotient 25 (Ieee.single.read 1073741824)).map Ieee.single.write = none
      rw [hd]; rfl
    have l1 := fun w => run_arith_none .quo (by simp) 61 .f32 a 1073741824 hf Try.prog w
    have l2 := same32
    clear hd hf
    go_enter Try.func36, Try.ntmps36
    go_wp2_with fail
    refine (number_any a _).mono ?_
    rintro e w1 ⟨rfl, rfl⟩
    go_wp2_with fail
    refine (sample_any _ (nanw32 a 1073741824 _).2 _).mono ?_
    rintro e w1 ⟨rfl, q1⟩
    go_wp2_with fail
    go_ret
    exact ⟨ret_int (by rw [madeN_nan (nanw32 a 1073741824 _).1]; rfl), ((Q.refl _).drew.trans q1)⟩
  | some d =>
    have hf : floatBits .quo .f32 a 1073741824 = some (Ieee.single.write d) := by
      show ((Ieee.single.read a).quotient 25 (Ieee.single.read 1073741824)).map Ieee.single.write = _
      rw [hd]; rfl
    have l1 := fun w => run_float_arith (P := Try.prog) w .quo 61 .f32 a 1073741824 _ hf
    have l2 := same32
    have hn : Hid (d.isNaN = false) := quotient_num hd
    clear hd hf
    go_enter Try.func36, Try.ntmps36
    go_wp2_with fail
    refine (number_any a _).mono ?_
    rintro e w1 ⟨rfl, rfl⟩
    go_wp2_with fail
    refine (sample_any _ (write32_lt d) _).mono ?_
    rintro e w1 ⟨rfl, q1⟩
    go_wp2_with fail
    go_ret
    exact ⟨ret_int (by rw [madeN_of (nanN_write hn.out), toldD_some hn.out]), q1⟩

set_option maxHeartbeats 400000 in
theorem cless_any (a b : Nat) (w : World) : Calls Try.prog 42 #[.int .u32 (a : Int), .int .u32 (b : Int)] w fun e w' => e = .returned (.bool (Ieee.single.order a b == some Ordering.lt)) ∧ w' = w := by
  go_enter Try.func42, Try.ntmps42
  go_wp2_with fail
  refine (number_any a _).mono ?_
  rintro e w1 ⟨rfl, rfl⟩
  go_wp2_with fail
  refine (number_any b _).mono ?_
  rintro e w1 ⟨rfl, rfl⟩
  go_wp2_with fail
  go_ret
  exact ⟨rfl, rfl⟩

set_option maxHeartbeats 400000 in
theorem cequal_any (a b : Nat) (w : World) : Calls Try.prog 43 #[.int .u32 (a : Int), .int .u32 (b : Int)] w fun e w' => e = .returned (.bool (Ieee.single.order a b == some Ordering.eq)) ∧ w' = w := by
  go_enter Try.func43, Try.ntmps43
  go_wp2_with fail
  refine (number_any a _).mono ?_
  rintro e w1 ⟨rfl, rfl⟩
  go_wp2_with fail
  refine (number_any b _).mono ?_
  rintro e w1 ⟨rfl, rfl⟩
  go_wp2_with fail
  go_ret
  exact ⟨rfl, rfl⟩

set_option maxHeartbeats 400000 in
theorem cleast_any (a b : Nat) (ha : a < 4294967296) (hb : b < 4294967296) (w : World) : Calls Try.prog 34 #[.int .u32 (a : Int), .int .u32 (b : Int)] w fun e w' => e = .returned (.int .u32 (if nanN a = true ∨ nanN b = true then 2143289344 else leastV a b)) ∧ Q w w' := by
  cases h1 : nanN a
  · cases h2 : nanN b
    · rw [if_neg (by simp)]
      go_enter Try.func34, Try.ntmps34
      go_wp2_with fail
      refine (isnan_any a ha _).mono ?_
      rintro e w1 ⟨rfl, q1⟩
      go_wp2_with fail
      refine (isnan_any b hb _).mono ?_
      rintro e w2 ⟨rfl, q2⟩
      go_wp2_with fail
      refine (least_any a b (by omega) (by omega) (by omega) (by omega) _).mono ?_
      rintro e w3 ⟨rfl, rfl⟩
      go_wp2_with fail
      go_ret
      exact ⟨rfl, q1.trans q2⟩
    · rw [if_pos (by simp)]
      go_enter Try.func34, Try.ntmps34
      go_wp2_with fail
      refine (isnan_any a ha _).mono ?_
      rintro e w1 ⟨rfl, q1⟩
      go_wp2_with fail
      refine (isnan_any b hb _).mono ?_
      rintro e w2 ⟨rfl, q2⟩
      go_wp2_with fail
      go_ret
      exact ⟨rfl, q1.trans q2⟩
  · rw [if_pos (by simp)]
    go_enter Try.func34, Try.ntmps34
    go_wp2_with fail
    refine (isnan_any a ha _).mono ?_
    rintro e w1 ⟨rfl, q1⟩
    go_wp2_with fail
    go_ret
    exact ⟨rfl, q1⟩

set_option maxHeartbeats 400000 in
theorem cgreatest_any (a b : Nat) (ha : a < 4294967296) (hb : b < 4294967296) (w : World) : Calls Try.prog 35 #[.int .u32 (a : Int), .int .u32 (b : Int)] w fun e w' => e = .returned (.int .u32 (if nanN a = true ∨ nanN b = true then 2143289344 else greatestV a b)) ∧ Q w w' := by
  cases h1 : nanN a
  · cases h2 : nanN b
    · rw [if_neg (by simp)]
      go_enter Try.func35, Try.ntmps35
      go_wp2_with fail
      refine (isnan_any a ha _).mono ?_
      rintro e w1 ⟨rfl, q1⟩
      go_wp2_with fail
      refine (isnan_any b hb _).mono ?_
      rintro e w2 ⟨rfl, q2⟩
      go_wp2_with fail
      refine (greatest_any a b (by omega) (by omega) (by omega) (by omega) _).mono ?_
      rintro e w3 ⟨rfl, rfl⟩
      go_wp2_with fail
      go_ret
      exact ⟨rfl, q1.trans q2⟩
    · rw [if_pos (by simp)]
      go_enter Try.func35, Try.ntmps35
      go_wp2_with fail
      refine (isnan_any a ha _).mono ?_
      rintro e w1 ⟨rfl, q1⟩
      go_wp2_with fail
      refine (isnan_any b hb _).mono ?_
      rintro e w2 ⟨rfl, q2⟩
      go_wp2_with fail
      go_ret
      exact ⟨rfl, q1.trans q2⟩
  · rw [if_pos (by simp)]
    go_enter Try.func35, Try.ntmps35
    go_wp2_with fail
    refine (isnan_any a ha _).mono ?_
    rintro e w1 ⟨rfl, q1⟩
    go_wp2_with fail
    go_ret
    exact ⟨rfl, q1⟩

end Go.Proofs.Ytgpkcclapkdndab

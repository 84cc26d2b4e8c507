/- The chapter's examples: the closed sentence that opens each statement of layer 2 is true. -/
import Derived.Test.YtgpgjbgobaaohaaG9b9d4638
import Derived.Test.YtgpgjbgobaaohaaG35fc488b
namespace Go.Proofs.Ytgpgjbgobaaohaa
open Go.RowKit

theorem kn {f : FuncId} {args : Array Value} {w : World} {k : IntKind} {v m : Int} (h : Calls Try.prog f args w fun e w' => e = .returned (.int k v) ∧ Q w w') (e : v = m) :
    Calls Try.prog f args w fun e w' => e = .returned (.int k m) ∧ Q w w' := by rw [← e]; exact h
theorem kt {f : FuncId} {args : Array Value} {w : World} {v u m n : Int} (h : Calls Try.prog f args w fun e w' => e = .returned (.tuple #[.int .i64 v, .int .i64 u]) ∧ Q w w') (e : v = m) (g : u = n) :
    Calls Try.prog f args w fun e w' => e = .returned (.tuple #[.int .i64 m, .int .i64 n]) ∧ Q w w' := by rw [← e, ← g]; exact h

theorem kfma (w : World) : Calls Try.prog 15 #[.int .u32 ((1065353217 : Nat) : Int), .int .u32 ((1065353217 : Nat) : Int), .int .u32 ((3212836866 : Nat) : Int)] w fun e w' => e = .returned (.int .u32 679477248) ∧ Q w w' := by
  have hO := fun w => odd_fin 4607182419873759296 13830554456728535040 4400016835940974592 0 (by decide) (Or.inl (by decide)) (by decide) (by decide +kernel)
    (fun w => lost_fin 4607182419873759296 13830554456728535040 4400016835940974592 13830554456728535040 4607182419873759296 0 0 0 (by decide +kernel) (by decide +kernel) (by decide +kernel) (by decide +kernel) (by decide +kernel) w) w
  have e0 : oddV 4400016835940974592 0 = 4400016835940974592 := by decide +kernel
  have ec : wideN 3212836866 = 13830554456728535040 := by decide +kernel
  rw [e0, ← ec] at hO
  exact kn (cfma_odd 1065353217 1065353217 3212836866 4607182419873759296 4400016835940974592 (by decide) (by decide) (by decide) (by decide +kernel) hO w) (by decide +kernel)

set_option maxHeartbeats 2000000 in
theorem known_any (w : World) : Calls Try.prog 5 #[] w fun e w' => e = .returned (.bool true) ∧ Q w w' := by
  have b1 : (Ieee.single.order 0 1 == some Ordering.lt) = true := by decide +kernel
  have b2 : (Ieee.single.order 0 2147483648 == some Ordering.eq) = true := by decide +kernel
  have qq := Q.refl w
  go_enter Try.func5, Try.ntmps5
  go_wp2_with fail
  refine (kn (m := 1065353216) (cadd_any 1065353216 864026624 _) (by decide +kernel)).mono ?_
  rintro e w' ⟨rfl, q⟩
  have qq := qq.trans q
  clear q
  go_wp2_with fail
  refine (kn (m := 1065353218) (cadd_any 1065353217 864026624 _) (by decide +kernel)).mono ?_
  rintro e w' ⟨rfl, q⟩
  have qq := qq.trans q
  clear q
  go_wp2_with fail
  refine (kn (m := 4194304) (cmul_any 8388608 1056964608 _) (by decide +kernel)).mono ?_
  rintro e w' ⟨rfl, q⟩
  have qq := qq.trans q
  clear q
  go_wp2_with fail
  refine (kn (m := 2) (chalf_any 3 _) (by decide +kernel)).mono ?_
  rintro e w' ⟨rfl, q⟩
  have qq := qq.trans q
  clear q
  go_wp2_with fail
  refine (kn (m := 1073741824) (cscale_any 1065353216 1 (by omega) (by omega) _) (by decide +kernel)).mono ?_
  rintro e w' ⟨rfl, q⟩
  have qq := qq.trans q
  clear q
  go_wp2_with fail
  refine (kn (m := 1065353216) (csub_any 1073741824 1065353216 _) (by decide +kernel)).mono ?_
  rintro e w' ⟨rfl, q⟩
  have qq := qq.trans q
  clear q
  go_wp2_with fail
  refine (kn (m := 2147483648) (cadd_any 2147483648 2147483648 _) (by decide +kernel)).mono ?_
  rintro e w' ⟨rfl, q⟩
  have qq := qq.trans q
  clear q
  go_wp2_with fail
  refine (kn (m := 4286578688) (cdiv_any 1065353216 2147483648 (by omega) (by omega) _) (by decide +kernel)).mono ?_
  rintro e w' ⟨rfl, q⟩
  have qq := qq.trans q
  clear q
  go_wp2_with fail
  refine (kn (m := 2147483648) (csqrt_any 2147483648 _) (by decide +kernel)).mono ?_
  rintro e w' ⟨rfl, q⟩
  have qq := qq.trans q
  clear q
  go_wp2_with fail
  refine (kn (m := 2143289344) (csqrt_any 3212836864 _) (by decide +kernel)).mono ?_
  rintro e w' ⟨rfl, q⟩
  have qq := qq.trans q
  clear q
  go_wp2_with fail
  refine (kfma _).mono ?_
  rintro e w' ⟨rfl, q⟩
  have qq := qq.trans q
  clear q
  go_wp2_with fail
  refine (cless_any 0 1 _).mono ?_
  rintro e w' ⟨rfl, rfl⟩
  go_wp2_with fail
  refine (cequal_any 0 2147483648 _).mono ?_
  rintro e w' ⟨rfl, rfl⟩
  go_wp2_with fail
  refine (kn (m := 2147483648) (cleast_any 0 2147483648 (by omega) (by omega) _) (by decide +kernel)).mono ?_
  rintro e w' ⟨rfl, q⟩
  have qq := qq.trans q
  clear q
  go_wp2_with fail
  refine (kn (m := 2) (cgreatest_any 1 2 (by omega) (by omega) _) (by decide +kernel)).mono ?_
  rintro e w' ⟨rfl, q⟩
  have qq := qq.trans q
  clear q
  go_wp2_with fail
  refine (kt (m := -1) (n := 0) (cfloor_any 3204448256 _) (by decide +kernel) (by decide +kernel)).mono ?_
  rintro e w' ⟨rfl, q⟩
  have qq := qq.trans q
  clear q
  go_wp2_with fail
  refine (kt (m := 2) (n := 0) (cnear_any 1075838976 _) (by decide +kernel) (by decide +kernel)).mono ?_
  rintro e w' ⟨rfl, q⟩
  have qq := qq.trans q
  clear q
  go_wp2_with fail
  refine (kt (m := 0) (n := 20) (cfloor_any 1593835520 _) (by decide +kernel) (by decide +kernel)).mono ?_
  rintro e w' ⟨rfl, q⟩
  have qq := qq.trans q
  clear q
  go_wp2_with fail
  refine (kt (m := 0) (n := 20) (cnear_any 2139095040 _) (by decide +kernel) (by decide +kernel)).mono ?_
  rintro e w' ⟨rfl, q⟩
  have qq := qq.trans q
  clear q
  go_wp2_with fail
  refine (kn (m := 1509949441) (cint_any 9007199791611905 _) (by decide +kernel)).mono ?_
  rintro e w' ⟨rfl, q⟩
  have qq := qq.trans q
  clear q
  go_wp2_with fail
  refine (kn (m := 3936146074321813504) (cwide_any 1 (by omega) _) (by decide +kernel)).mono ?_
  rintro e w' ⟨rfl, q⟩
  have qq := qq.trans q
  clear q
  go_wp2_with fail
  refine (kn (m := 1) (cnarrow_any 3931642474694443009 _) (by decide +kernel)).mono ?_
  rintro e w' ⟨rfl, q⟩
  have qq := qq.trans q
  clear q
  go_wp2_with fail
  refine (kn (m := 2139095040) (cnarrow_any 5183643170835005440 _) (by decide +kernel)).mono ?_
  rintro e w' ⟨rfl, q⟩
  have qq := qq.trans q
  clear q
  go_wp2_with fail
  go_ret
  exact ⟨rfl, qq⟩
end Go.Proofs.Ytgpgjbgobaaohaa

/- The chapter's examples: the closed sentence that opens each statement of layer 1 is true. -/
import Derived.Test.YtemfgmnindikfaaKeys
import Derived.Test.YtemfgmnindikfaaClass
import Derived.Test.YtemfgmnindikfaaFrom
namespace Go.Proofs.Ytemfgmnindikfaa
open Go.RowKit

set_option maxHeartbeats 1000000 in
theorem known_any (w : World) :
    Calls Try.prog 9 #[] w fun e w' => e = .returned (.bool true) ∧ Q w w' := by
  have k1 : pN 1065353216 = 8388608 := by decide
  have k2 : pE 1065353216 = -23 := by decide
  have k3 : pB 1065353216 = true := by decide
  have k4 : fpV 1 0 = 1065353216 := by decide +kernel
  have k5 : fpB 1 0 = true := by decide +kernel
  have k6 : fpB 1 (-150) = false := by decide +kernel
  have k7 : fpB 16777217 0 = false := by decide +kernel
  have k8 : fpV (-3) 1 = 3233808384 := by decide +kernel
  have k9 : fpB (-3) 1 = true := by decide +kernel
  have k10 : nextV 2147483648 = 0 := by decide
  have k11 : nextB 2147483648 = true := by decide
  have k12 : nextV 2147483647 = 0 := by decide
  have k13 : nextB 2147483647 = false := by decide
  have k14 : keyV 0 = 2147483648 := by decide
  have k15 : keyV 2147483648 = 2147483647 := by decide
  have k16 : keyV 2143289344 = 4290772992 := by decide
  have k17 : fkeyV 0 = 4294967295 := by decide
  have k18 : classV 1 = 4 := by decide
  go_enter Try.func9, Try.ntmps9
  go_wp2_with fail
  refine (parts_any 1065353216 (by omega) (by omega) _).mono ?_
  rintro e w1 ⟨rfl, q1⟩
  go_wp2_with fail
  refine (from_any 1 0 (by omega) (by omega) (by omega) (by omega) _).mono ?_
  rintro e w2 ⟨rfl, q2⟩
  go_wp2_with fail
  refine (from_any 1 (-150) (by omega) (by omega) (by omega) (by omega) _).mono ?_
  rintro e w3 ⟨rfl, q3⟩
  go_wp2_with fail
  refine (from_any 16777217 0 (by omega) (by omega) (by omega) (by omega) _).mono ?_
  rintro e w4 ⟨rfl, q4⟩
  go_wp2_with fail
  refine (from_any (-3) 1 (by omega) (by omega) (by omega) (by omega) _).mono ?_
  rintro e w5 ⟨rfl, q5⟩
  go_wp2_with fail
  refine (next_any 2147483648 (by omega) (by omega) _).mono ?_
  rintro e w6 ⟨rfl, rfl⟩
  go_wp2_with fail
  refine (next_any 2147483647 (by omega) (by omega) _).mono ?_
  rintro e w6 ⟨rfl, rfl⟩
  go_wp2_with fail
  refine (key_any 0 (by omega) (by omega) _).mono ?_
  rintro e w6 ⟨rfl, rfl⟩
  go_wp2_with fail
  refine (key_any 2147483648 (by omega) (by omega) _).mono ?_
  rintro e w6 ⟨rfl, rfl⟩
  go_wp2_with fail
  refine (key_any 2143289344 (by omega) (by omega) _).mono ?_
  rintro e w6 ⟨rfl, rfl⟩
  go_wp2_with fail
  refine (fkey_any 0 (by omega) (by omega) _).mono ?_
  rintro e w6 ⟨rfl, rfl⟩
  go_wp2_with fail
  refine (apart_any 2147483648 0 (by omega) (by omega) (by omega) (by omega) _).mono ?_
  rintro e w6 ⟨rfl, rfl⟩
  go_wp2_with fail
  refine (class_any 1 (by omega) (by omega) _).mono ?_
  rintro e w7 ⟨rfl, q7⟩
  go_wp2_with fail
  go_ret
  exact ⟨rfl, ((((q1.trans q2).trans q3).trans q4).trans q5).trans q7⟩
end Go.Proofs.Ytemfgmnindikfaa

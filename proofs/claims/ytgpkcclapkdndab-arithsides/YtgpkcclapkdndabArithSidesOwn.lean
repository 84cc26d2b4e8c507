/- Of every two samples: sums, products, least and greatest don't hang on which comes first; ones and noughts leave what they meet; all ways to halve agree; no condition. -/
import Derived.Test.YtgpkcclapkdndabRows
import Derived.WalkKit
import Derived.ProofKit
import Derived.OpenShut
import Derived.Test.YtgpkcclapkdndabKnown
import Derived.Test.YtgpkcclapkdndabSidesL
namespace Go.Proofs.Ytgpkcclapkdndab
open Go.ChangeShapes Go.WideShapes Go.ChangeAt Go.RowKit
set_option linter.unusedVariables false

theorem arithSides_own : ownKnob Try.prog.godebug = none := by kernel_rfl

theorem and_low {V : Nat} (h : V < 4294967296) : bits .and .u32 (V : Int) 2147483647 = ((V % 2147483648 : Nat) : Int) := by
  have : bits .and .u32 (V : Int) 2147483647 = (V : Int) % 2147483648 := by go_bits2
  rw [this]; omega
set_option maxHeartbeats 400000 in
theorem lisnan_any (a : Nat) (ha : a < 4294967296) (w : World) : Calls Try.prog 20 #[.int .u32 (a : Int)] w fun e w' => e = .returned (.bool (nanN a)) ∧ w' = w := by
  have e1 := and_low ha
  have e2 : nanN a = decide (2139095040 < ((a % 2147483648 : Nat) : Int)) := by unfold nanN; rw [decide_eq_decide]; omega
  rw [e2]
  clear e2
  go_enter Try.func20, Try.ntmps20
  go_wp2_with fail
  go_ret
  exact ⟨rfl, rfl⟩
set_option maxHeartbeats 4000000 in
theorem arithSides_walk (a0 : Int) (a1 : Int) (w0 : (Lit.int .u32 a0).wf = true) (w1 : (Lit.int .u32 a1).wf = true) (w : World) :
    Calls Try.prog 6 #[.int .u32 a0, .int .u32 a1] w fun e w' => e = .returned (.bool true) ∧ Grown w w' := by
  obtain ⟨x0, x1⟩ := bounds_u32 w0
  obtain ⟨y0, y1⟩ := bounds_u32 w1
  obtain ⟨a, rfl⟩ := Int.eq_ofNat_of_zero_le x0
  obtain ⟨b, rfl⟩ := Int.eq_ofNat_of_zero_le y0
  have ha : a < 4294967296 := by omega
  have hb : b < 4294967296 := by omega
  have c1 := fun w => cadd_any a b w
  have c2 := fun w => cadd_any b a w
  rw [sum_comm (Ieee.single.read b)] at c2
  have c3 := fun w => cmul_any a b w
  have c4 := fun w => cmul_any b a w
  rw [product_comm (Ieee.single.read b)] at c4
  have c5 := fun w => cleast_any a b ha hb w
  have c6 := fun w => cleast_any b a hb ha w
  rw [leastV_comm (a := b)] at c6
  have c7 := fun w => cgreatest_any a b ha hb w
  have c8 := fun w => cgreatest_any b a hb ha w
  rw [greatestV_comm (a := b)] at c8
  have el : (if nanN b = true ∨ nanN a = true then 2143289344 else leastV (a : Int) (b : Int)) = (if nanN a = true ∨ nanN b = true then 2143289344 else leastV (a : Int) (b : Int)) := by simp only [Or.comm]
  have eg : (if nanN b = true ∨ nanN a = true then 2143289344 else greatestV (a : Int) (b : Int)) = (if nanN a = true ∨ nanN b = true then 2143289344 else greatestV (a : Int) (b : Int)) := by simp only [Or.comm]
  rw [el] at c6
  rw [eg] at c8
  clear el eg
  have d1 := fun w => chalf_any a w
  rw [half_link] at d1
  have d2 := fun w => cscale_any a (-1) (by omega) (by omega) w
  have d3 := fun w => cmul_any a 1056964608 w
  rw [mulhalf_link] at d3
  have d4 := fun w => cdiv_any a 1073741824 ha (by omega) w
  rw [half_link] at d4
  have d5 := fun w => cfma_any a 1065353216 b w
  rw [fma_one] at d5
  have f1 := fun w => cfma_any a b 2147483648 w
  have g1 := fun w => cwide_any a ha w
  have g2 := fun w => cnarrow_any (wideW a) w
  rw [narrow_wide ha] at g2
  have g3 := fun w => cmul_any a 1065353216 w
  rw [mul_one ha] at g3
  have g4 := fun w => cdiv_any a 1065353216 ha (by omega) w
  rw [div_one ha] at g4
  have g5 := fun w => cadd_any a 2147483648 w
  rw [add_nought ha] at g5
  have g6 := fun w => csub_any a 0 w
  rw [sub_nought ha] at g6
  have g7 := fun w => csub_any 0 a w
  have hs7 : nanN a = false → toldD ((Ieee.single.read 0).sum (Ieee.single.read a).opposite) % 2147483648 = a % 2147483648 := nought_sub
  have hs7b := toldD_lt ((Ieee.single.read 0).sum (Ieee.single.read a).opposite)
  have hf1 : toldD ((Ieee.single.read a).product (Ieee.single.read b)) % 2147483648 ≠ 0 → toldD (fmaD a b 2147483648) = toldD ((Ieee.single.read a).product (Ieee.single.read b)) := fma_nought
  have hn1 : nanN a = true → toldD ((Ieee.single.read a).sum (Ieee.single.read b)) = 2143289344 := fun h => by rw [sum_nan1 (read32_nan h)]; rfl
  have hn2 : nanN a = true → scaleV a (-1) = 2143289344 := fun h => scaleV_nan h _
  have hb3 := toldD_lt ((Ieee.single.read a).product (Ieee.single.read b))
  generalize toldD ((Ieee.single.read a).sum (Ieee.single.read b)) = V1 at c1 c2 d5 hn1
  generalize toldD ((Ieee.single.read a).product (Ieee.single.read b)) = V3 at c3 c4 hf1 hb3
  generalize (if nanN a = true ∨ nanN b = true then 2143289344 else leastV (a : Int) (b : Int)) = V5 at c5 c6
  generalize (if nanN a = true ∨ nanN b = true then 2143289344 else greatestV (a : Int) (b : Int)) = V7 at c7 c8
  generalize scaleV a (-1) = H at d1 d2 d3 d4 hn2
  generalize toldD (fmaD a b 2147483648) = V9 at f1 hf1
  generalize toldD ((Ieee.single.read 0).sum (Ieee.single.read a).opposite) = V7' at g7 hs7 hs7b
  have e3 := and_low hb3
  have ea := and_low ha
  have e7 := and_low hs7b
  obtain ⟨R3, hR3⟩ : ∃ R3, R3 = V3 % 2147483648 := ⟨_, rfl⟩
  rw [← hR3] at e3 hf1
  clear hR3
  generalize wideW a = W at g1 g2
  cases hna : nanN a
  · rw [madeN_of hna] at g2 g3 g4 g5 g6
    rw [hs7 hna] at e7
    have hI := fun w => lisnan_any a ha w
    rw [hna] at hI
    clear hn1 hn2 hs7 hna
    generalize a % 2147483648 = ra at ea e7
    by_cases hr : R3 = 0
    · subst hr
      clear hf1
      go_enter Try.func6, Try.ntmps6
      go_wp2_with fail
      refine (known_any _).mono ?_
      rintro e v1 ⟨rfl, qq⟩
      go_wp2_with fail
      refine (c1 _).mono ?_
      rintro e v ⟨rfl, q⟩
      have qq := qq.trans q
      clear q
      go_wp2_with fail
      refine (c2 _).mono ?_
      rintro e v ⟨rfl, q⟩
      have qq := qq.trans q
      clear q
      go_wp2_with fail
      refine (c3 _).mono ?_
      rintro e v ⟨rfl, q⟩
      have qq := qq.trans q
      clear q
      go_wp2_with fail
      refine (c4 _).mono ?_
      rintro e v ⟨rfl, q⟩
      have qq := qq.trans q
      clear q
      go_wp2_with fail
      refine (c5 _).mono ?_
      rintro e v ⟨rfl, q⟩
      have qq := qq.trans q
      clear q
      go_wp2_with fail
      refine (c6 _).mono ?_
      rintro e v ⟨rfl, q⟩
      have qq := qq.trans q
      clear q
      go_wp2_with fail
      refine (c7 _).mono ?_
      rintro e v ⟨rfl, q⟩
      have qq := qq.trans q
      clear q
      go_wp2_with fail
      refine (c8 _).mono ?_
      rintro e v ⟨rfl, q⟩
      have qq := qq.trans q
      clear q
      go_wp2_with fail
      refine (d1 _).mono ?_
      rintro e v ⟨rfl, q⟩
      have qq := qq.trans q
      clear q
      go_wp2_with fail
      refine (d2 _).mono ?_
      rintro e v ⟨rfl, q⟩
      have qq := qq.trans q
      clear q
      go_wp2_with fail
      refine (d3 _).mono ?_
      rintro e v ⟨rfl, q⟩
      have qq := qq.trans q
      clear q
      go_wp2_with fail
      refine (d4 _).mono ?_
      rintro e v ⟨rfl, q⟩
      have qq := qq.trans q
      clear q
      go_wp2_with fail
      refine (d5 _).mono ?_
      rintro e v ⟨rfl, q⟩
      have qq := qq.trans q
      clear q
      go_wp2_with fail
      refine (c1 _).mono ?_
      rintro e v ⟨rfl, q⟩
      have qq := qq.trans q
      clear q
      go_wp2_with fail
      refine (c3 _).mono ?_
      rintro e v ⟨rfl, q⟩
      have qq := qq.trans q
      clear q
      go_wp2_with fail
      refine (hI _).mono ?_
      rintro e v ⟨rfl, rfl⟩
      go_wp2_with fail
      refine (g1 _).mono ?_
      rintro e v ⟨rfl, q⟩
      have qq := qq.trans q
      clear q
      go_wp2_with fail
      refine (g2 _).mono ?_
      rintro e v ⟨rfl, q⟩
      have qq := qq.trans q
      clear q
      go_wp2_with fail
      refine (g3 _).mono ?_
      rintro e v ⟨rfl, q⟩
      have qq := qq.trans q
      clear q
      go_wp2_with fail
      refine (g4 _).mono ?_
      rintro e v ⟨rfl, q⟩
      have qq := qq.trans q
      clear q
      go_wp2_with fail
      refine (g5 _).mono ?_
      rintro e v ⟨rfl, q⟩
      have qq := qq.trans q
      clear q
      go_wp2_with fail
      refine (g6 _).mono ?_
      rintro e v ⟨rfl, q⟩
      have qq := qq.trans q
      clear q
      go_wp2_with fail
      refine (g7 _).mono ?_
      rintro e v ⟨rfl, q⟩
      have qq := qq.trans q
      clear q
      go_wp2_with fail
      go_ret
      exact ⟨rfl, qq.grown⟩
    · rw [hf1 hr] at f1
      have hr2 : ((R3 : Int) != 0) = true := by rw [bne_iff_ne]; omega
      clear hf1 hr
      go_enter Try.func6, Try.ntmps6
      go_wp2_with fail
      refine (known_any _).mono ?_
      rintro e v1 ⟨rfl, qq⟩
      go_wp2_with fail
      refine (c1 _).mono ?_
      rintro e v ⟨rfl, q⟩
      have qq := qq.trans q
      clear q
      go_wp2_with fail
      refine (c2 _).mono ?_
      rintro e v ⟨rfl, q⟩
      have qq := qq.trans q
      clear q
      go_wp2_with fail
      refine (c3 _).mono ?_
      rintro e v ⟨rfl, q⟩
      have qq := qq.trans q
      clear q
      go_wp2_with fail
      refine (c4 _).mono ?_
      rintro e v ⟨rfl, q⟩
      have qq := qq.trans q
      clear q
      go_wp2_with fail
      refine (c5 _).mono ?_
      rintro e v ⟨rfl, q⟩
      have qq := qq.trans q
      clear q
      go_wp2_with fail
      refine (c6 _).mono ?_
      rintro e v ⟨rfl, q⟩
      have qq := qq.trans q
      clear q
      go_wp2_with fail
      refine (c7 _).mono ?_
      rintro e v ⟨rfl, q⟩
      have qq := qq.trans q
      clear q
      go_wp2_with fail
      refine (c8 _).mono ?_
      rintro e v ⟨rfl, q⟩
      have qq := qq.trans q
      clear q
      go_wp2_with fail
      refine (d1 _).mono ?_
      rintro e v ⟨rfl, q⟩
      have qq := qq.trans q
      clear q
      go_wp2_with fail
      refine (d2 _).mono ?_
      rintro e v ⟨rfl, q⟩
      have qq := qq.trans q
      clear q
      go_wp2_with fail
      refine (d3 _).mono ?_
      rintro e v ⟨rfl, q⟩
      have qq := qq.trans q
      clear q
      go_wp2_with fail
      refine (d4 _).mono ?_
      rintro e v ⟨rfl, q⟩
      have qq := qq.trans q
      clear q
      go_wp2_with fail
      refine (d5 _).mono ?_
      rintro e v ⟨rfl, q⟩
      have qq := qq.trans q
      clear q
      go_wp2_with fail
      refine (c1 _).mono ?_
      rintro e v ⟨rfl, q⟩
      have qq := qq.trans q
      clear q
      go_wp2_with fail
      refine (c3 _).mono ?_
      rintro e v ⟨rfl, q⟩
      have qq := qq.trans q
      clear q
      go_wp2_with fail
      refine (f1 _).mono ?_
      rintro e v14 ⟨rfl, q⟩
      have qq := qq.trans q
      clear q
      go_wp2_with fail
      refine (hI _).mono ?_
      rintro e v ⟨rfl, rfl⟩
      go_wp2_with fail
      refine (g1 _).mono ?_
      rintro e v ⟨rfl, q⟩
      have qq := qq.trans q
      clear q
      go_wp2_with fail
      refine (g2 _).mono ?_
      rintro e v ⟨rfl, q⟩
      have qq := qq.trans q
      clear q
      go_wp2_with fail
      refine (g3 _).mono ?_
      rintro e v ⟨rfl, q⟩
      have qq := qq.trans q
      clear q
      go_wp2_with fail
      refine (g4 _).mono ?_
      rintro e v ⟨rfl, q⟩
      have qq := qq.trans q
      clear q
      go_wp2_with fail
      refine (g5 _).mono ?_
      rintro e v ⟨rfl, q⟩
      have qq := qq.trans q
      clear q
      go_wp2_with fail
      refine (g6 _).mono ?_
      rintro e v ⟨rfl, q⟩
      have qq := qq.trans q
      clear q
      go_wp2_with fail
      refine (g7 _).mono ?_
      rintro e v ⟨rfl, q⟩
      have qq := qq.trans q
      clear q
      go_wp2_with fail
      go_ret
      exact ⟨rfl, qq.grown⟩
  · rw [madeN_nan hna] at g2 g3 g4 g5 g6
    rw [hn1 hna] at c1 c2 d5
    rw [hn2 hna] at d1 d2 d3 d4
    have hI := fun w => lisnan_any a ha w
    rw [hna] at hI
    clear hn1 hn2 hs7 hna
    by_cases hr : R3 = 0
    · subst hr
      clear hf1
      go_enter Try.func6, Try.ntmps6
      go_wp2_with fail
      refine (known_any _).mono ?_
      rintro e v1 ⟨rfl, qq⟩
      go_wp2_with fail
      refine (c1 _).mono ?_
      rintro e v ⟨rfl, q⟩
      have qq := qq.trans q
      clear q
      go_wp2_with fail
      refine (c2 _).mono ?_
      rintro e v ⟨rfl, q⟩
      have qq := qq.trans q
      clear q
      go_wp2_with fail
      refine (c3 _).mono ?_
      rintro e v ⟨rfl, q⟩
      have qq := qq.trans q
      clear q
      go_wp2_with fail
      refine (c4 _).mono ?_
      rintro e v ⟨rfl, q⟩
      have qq := qq.trans q
      clear q
      go_wp2_with fail
      refine (c5 _).mono ?_
      rintro e v ⟨rfl, q⟩
      have qq := qq.trans q
      clear q
      go_wp2_with fail
      refine (c6 _).mono ?_
      rintro e v ⟨rfl, q⟩
      have qq := qq.trans q
      clear q
      go_wp2_with fail
      refine (c7 _).mono ?_
      rintro e v ⟨rfl, q⟩
      have qq := qq.trans q
      clear q
      go_wp2_with fail
      refine (c8 _).mono ?_
      rintro e v ⟨rfl, q⟩
      have qq := qq.trans q
      clear q
      go_wp2_with fail
      refine (d1 _).mono ?_
      rintro e v ⟨rfl, q⟩
      have qq := qq.trans q
      clear q
      go_wp2_with fail
      refine (d2 _).mono ?_
      rintro e v ⟨rfl, q⟩
      have qq := qq.trans q
      clear q
      go_wp2_with fail
      refine (d3 _).mono ?_
      rintro e v ⟨rfl, q⟩
      have qq := qq.trans q
      clear q
      go_wp2_with fail
      refine (d4 _).mono ?_
      rintro e v ⟨rfl, q⟩
      have qq := qq.trans q
      clear q
      go_wp2_with fail
      refine (d5 _).mono ?_
      rintro e v ⟨rfl, q⟩
      have qq := qq.trans q
      clear q
      go_wp2_with fail
      refine (c1 _).mono ?_
      rintro e v ⟨rfl, q⟩
      have qq := qq.trans q
      clear q
      go_wp2_with fail
      refine (c3 _).mono ?_
      rintro e v ⟨rfl, q⟩
      have qq := qq.trans q
      clear q
      go_wp2_with fail
      refine (hI _).mono ?_
      rintro e v ⟨rfl, rfl⟩
      go_wp2_with fail
      refine (g1 _).mono ?_
      rintro e v ⟨rfl, q⟩
      have qq := qq.trans q
      clear q
      go_wp2_with fail
      refine (g2 _).mono ?_
      rintro e v ⟨rfl, q⟩
      have qq := qq.trans q
      clear q
      go_wp2_with fail
      refine (c1 _).mono ?_
      rintro e v ⟨rfl, q⟩
      have qq := qq.trans q
      clear q
      go_wp2_with fail
      refine (g3 _).mono ?_
      rintro e v ⟨rfl, q⟩
      have qq := qq.trans q
      clear q
      go_wp2_with fail
      go_ret
      exact ⟨rfl, qq.grown⟩
    · rw [hf1 hr] at f1
      have hr2 : ((R3 : Int) != 0) = true := by rw [bne_iff_ne]; omega
      clear hf1 hr
      go_enter Try.func6, Try.ntmps6
      go_wp2_with fail
      refine (known_any _).mono ?_
      rintro e v1 ⟨rfl, qq⟩
      go_wp2_with fail
      refine (c1 _).mono ?_
      rintro e v ⟨rfl, q⟩
      have qq := qq.trans q
      clear q
      go_wp2_with fail
      refine (c2 _).mono ?_
      rintro e v ⟨rfl, q⟩
      have qq := qq.trans q
      clear q
      go_wp2_with fail
      refine (c3 _).mono ?_
      rintro e v ⟨rfl, q⟩
      have qq := qq.trans q
      clear q
      go_wp2_with fail
      refine (c4 _).mono ?_
      rintro e v ⟨rfl, q⟩
      have qq := qq.trans q
      clear q
      go_wp2_with fail
      refine (c5 _).mono ?_
      rintro e v ⟨rfl, q⟩
      have qq := qq.trans q
      clear q
      go_wp2_with fail
      refine (c6 _).mono ?_
      rintro e v ⟨rfl, q⟩
      have qq := qq.trans q
      clear q
      go_wp2_with fail
      refine (c7 _).mono ?_
      rintro e v ⟨rfl, q⟩
      have qq := qq.trans q
      clear q
      go_wp2_with fail
      refine (c8 _).mono ?_
      rintro e v ⟨rfl, q⟩
      have qq := qq.trans q
      clear q
      go_wp2_with fail
      refine (d1 _).mono ?_
      rintro e v ⟨rfl, q⟩
      have qq := qq.trans q
      clear q
      go_wp2_with fail
      refine (d2 _).mono ?_
      rintro e v ⟨rfl, q⟩
      have qq := qq.trans q
      clear q
      go_wp2_with fail
      refine (d3 _).mono ?_
      rintro e v ⟨rfl, q⟩
      have qq := qq.trans q
      clear q
      go_wp2_with fail
      refine (d4 _).mono ?_
      rintro e v ⟨rfl, q⟩
      have qq := qq.trans q
      clear q
      go_wp2_with fail
      refine (d5 _).mono ?_
      rintro e v ⟨rfl, q⟩
      have qq := qq.trans q
      clear q
      go_wp2_with fail
      refine (c1 _).mono ?_
      rintro e v ⟨rfl, q⟩
      have qq := qq.trans q
      clear q
      go_wp2_with fail
      refine (c3 _).mono ?_
      rintro e v ⟨rfl, q⟩
      have qq := qq.trans q
      clear q
      go_wp2_with fail
      refine (f1 _).mono ?_
      rintro e v14 ⟨rfl, q⟩
      have qq := qq.trans q
      clear q
      go_wp2_with fail
      refine (hI _).mono ?_
      rintro e v ⟨rfl, rfl⟩
      go_wp2_with fail
      refine (g1 _).mono ?_
      rintro e v ⟨rfl, q⟩
      have qq := qq.trans q
      clear q
      go_wp2_with fail
      refine (g2 _).mono ?_
      rintro e v ⟨rfl, q⟩
      have qq := qq.trans q
      clear q
      go_wp2_with fail
      refine (c1 _).mono ?_
      rintro e v ⟨rfl, q⟩
      have qq := qq.trans q
      clear q
      go_wp2_with fail
      refine (g3 _).mono ?_
      rintro e v ⟨rfl, q⟩
      have qq := qq.trans q
      clear q
      go_wp2_with fail
      go_ret
      exact ⟨rfl, qq.grown⟩

set_option maxRecDepth 100000 in
theorem arithSides_lifted (os : Os) (started : os.Started) (H : Type) (enc : TypeId × Value → H) :
    ReturnsInHanded {} Try.checked os 6 .any (Rows.arithSidesSpec.pre6 enc Try.prog Try.f6 Rows.arithSidesRow.domain false) (Rows.arithSidesSpec.post enc Try.prog Try.f6 false true false false) := by
  refine returnsInHanded_of_change (C := Try.checked) arithSides_own started (by kernel_rfl) Try.func6
    (ChangeSpec.witness6 (enc := enc) (C := Try.checked) false ⟨#[], #[.int .u32 0, .int .u32 0], []⟩ 8 (by kernel_rfl) (by kernel_rfl) (by kernel_rfl) (by kernel_rfl)) ?_
  intro W base args ds gs before hval0 hW hcnd _
  have hval : ∀ (j : Nat) t v, Try.f6.params[j]? = some t → args[j]? = some v → Value.okWide Try.prog W .any base t v := hval0
  have hW' := hW
  obtain ⟨p, q, hA0, hV, rfl, hfz, hnd⟩ := hW
  have hA : DataW.TrodAll enc Try.prog W 0 (fun _ => true) true Try.f6.params.toList args.toList ds p := hA0
  rw [Try.params6] at hA hval
  obtain ⟨v0, vs0, d0, ds0, p0, q0, hargs, rfl, rfl, h0, r0⟩ := trodAll_cons hA
  obtain ⟨v1, vs1, d1, ds1, p1, q1, rfl, rfl, rfl, h1, r1⟩ := trodAll_cons r0
  obtain ⟨rfl, rfl, rfl⟩ := trodAll_nil r1
  obtain rfl : args = #[v0, v1] := by cases args; simp_all
  obtain ⟨rfl, rfl⟩ := trodVars_none hV
  obtain ⟨a0, rfl, rfl, rfl, w0⟩ := open_int Try.underlying22 (hval 0 22 v0 rfl rfl) h0
  obtain ⟨a1, rfl, rfl, rfl, w1⟩ := open_int Try.underlying22 (hval 1 22 v1 rfl rfl) h1
  clear hA0 hval0
  simp only [List.append_nil] at hW'
  refine (arithSides_walk a0 a1 w0 w1 W).mono fun e W' ⟨he, hg⟩ => ?_
  subst he
  exact ⟨_, rfl, post_of_same (pa := []) (pv := []) hW' (fun _ _ _ => (trodAll_cons_mk (shut_bool Try.underlying4 _) trodAll_mk0)) (fun sp _ => (trodAll_cons_mk (shut_int Try.underlying22 w0) (trodAll_cons_mk (shut_int Try.underlying22 w1) trodAll_mk0))) (fun _ _ => rfl) rfl
    (hg.frame _) hg.2.1 (ok_one (by kernel_rfl) rfl (okWide_bool_mk Try.underlying4 _))⟩

theorem arithSides_over : Rows.arithSidesRow.holds Try.pinned (OpenSpec.ofChange Rows.arithSidesSpec) :=
  OpenClaim.holds_of_wide 6 Try.f6 rfl rfl rfl rfl rfl rfl rfl ⟨rfl, rfl, rfl, rfl, rfl⟩ rfl rfl rfl rfl rfl (by kernel_rfl) Try.func6 (by kernel_rfl)
    (of_decide_eq_true (by kernel_rfl)) (by unfold Func.isWrapper; first | (rw [if_pos (by decide +kernel)]; kernel_rfl) | (rw [if_neg (by decide +kernel)]; exact ⟨rfl, rfl⟩))
    (fun os started H enc _ => arithSides_lifted os started H enc)

theorem arithSides_holds : Rows.ArithSidesSaid :=
  arithSides_over
#print axioms arithSides_holds
end Go.Proofs.Ytgpkcclapkdndab

/- Of every two samples the program's order by value, its least and its greatest are the document's; no condition. -/
import Derived.Test.YtgpkcclapkdndaaRows
import Derived.WalkKit
import Derived.ProofKit
import Derived.OpenShut
import Derived.Test.YtgpkcclapkdndaaKnown
import Derived.Test.YtgpkcclapkdndaaRefC
namespace Go.Proofs.Ytgpkcclapkdndaa
open Go.ChangeShapes Go.WideShapes Go.ChangeAt Go.RowKit
set_option linter.unusedVariables false

theorem arithOrder_own : ownKnob Try.prog.godebug = none := by kernel_rfl

theorem keyR_srung {a : Nat} (h : a < 4294967296) : keyR a = srung32 a := by
  unfold keyR srung32
  rw [sgn_hi h]
  unfold rung32
  by_cases g : a < 2147483648
  · rw [if_pos g, decide_eq_false (by omega)]; simp; omega
  · rw [if_neg g, decide_eq_true (by omega), if_pos rfl]; omega
theorem less_key {a b : Nat} (ha : a < 4294967296) (hb : b < 4294967296) : (Ieee.single.order a b == some Ordering.lt) = (!nanN a && (!nanN b && decide (keyR a < keyR b))) := by
  cases h1 : nanN a
  · cases h2 : nanN b
    · rw [nanN_rung] at h1 h2
      have h1 := of_decide_eq_false h1
      have h2 := of_decide_eq_false h2
      rw [order_num32 (by omega) (by omega), cmp_lt, keyR_srung ha, keyR_srung hb]
      simp
    · rw [order_nan2 _ (read32_nan h2)]; rfl
  · rw [order_nan1 _ (read32_nan h1)]; rfl
theorem equal_key {a b : Nat} (ha : a < 4294967296) (hb : b < 4294967296) : (Ieee.single.order a b == some Ordering.eq) = (!nanN a && (!nanN b && (keyR a == keyR b))) := by
  cases h1 : nanN a
  · cases h2 : nanN b
    · rw [nanN_rung] at h1 h2
      have h1 := of_decide_eq_false h1
      have h2 := of_decide_eq_false h2
      rw [order_num32 (by omega) (by omega), cmp_eq, keyR_srung ha, keyR_srung hb]
      simp only [Bool.not_false, Bool.true_and]
      by_cases e : srung32 a = srung32 b
      · rw [decide_eq_true e, beq_iff_eq.2 e]
      · rw [decide_eq_false e, beq_eq_false_iff_ne.2 e]
    · rw [order_nan2 _ (read32_nan h2)]; rfl
  · rw [order_nan1 _ (read32_nan h1)]; rfl
theorem least_key {a b : Nat} (ha : a < 4294967296) (hb : b < 4294967296) : (if nanN a = true ∨ nanN b = true then 2143289344 else leastV (a : Int) (b : Int)) = ((if nanN a = true ∨ nanN b = true then 2143289344 else leastR a b : Nat) : Int) := by
  by_cases h : nanN a = true ∨ nanN b = true
  · rw [if_pos h, if_pos h]; rfl
  · rw [if_neg h, if_neg h]
    unfold leastV leastR befB keyV keyR
    simp only [decide_eq_true_eq]
    repeat' split
    all_goals omega
theorem greatest_key {a b : Nat} (ha : a < 4294967296) (hb : b < 4294967296) : (if nanN a = true ∨ nanN b = true then 2143289344 else greatestV (a : Int) (b : Int)) = ((if nanN a = true ∨ nanN b = true then 2143289344 else greatestR a b : Nat) : Int) := by
  by_cases h : nanN a = true ∨ nanN b = true
  · rw [if_pos h, if_pos h]; rfl
  · rw [if_neg h, if_neg h]
    unfold greatestV greatestR befB keyV keyR
    simp only [decide_eq_true_eq]
    repeat' split
    all_goals omega
set_option maxHeartbeats 4000000 in
theorem arithOrder_walk (a0 : Int) (a1 : Int) (w0 : (Lit.int .u32 a0).wf = true) (w1 : (Lit.int .u32 a1).wf = true) (w : World) :
    Calls Try.prog 8 #[.int .u32 a0, .int .u32 a1] w fun e w' => e = .returned (.bool true) ∧ Grown w w' := by
  obtain ⟨x0, x1⟩ := bounds_u32 w0
  obtain ⟨y0, y1⟩ := bounds_u32 w1
  obtain ⟨a, rfl⟩ := Int.eq_ofNat_of_zero_le x0
  obtain ⟨b, rfl⟩ := Int.eq_ofNat_of_zero_le y0
  have ha : a < 4294967296 := by omega
  have hb : b < 4294967296 := by omega
  have cl := fun w => cless_any a b w
  have ce := fun w => cequal_any a b w
  have cm := fun w => cleast_any a b ha hb w
  have cg := fun w => cgreatest_any a b ha hb w
  rw [less_key ha hb] at cl
  rw [equal_key ha hb] at ce
  rw [least_key ha hb] at cm
  rw [greatest_key ha hb] at cg
  have rl := fun w => rless_any a b w ha hb
  have re := fun w => requal_any a b w ha hb
  have rm := fun w => rleast_any a b w ha hb
  have rg := fun w => rgreatest_any a b w ha hb
  generalize (!nanN a && (!nanN b && decide (keyR a < keyR b))) = B1 at cl rl
  generalize (!nanN a && (!nanN b && (keyR a == keyR b))) = B2 at ce re
  generalize ((if nanN a = true ∨ nanN b = true then 2143289344 else leastR a b : Nat) : Int) = V1 at cm rm
  generalize ((if nanN a = true ∨ nanN b = true then 2143289344 else greatestR a b : Nat) : Int) = V2 at cg rg
  go_enter Try.func8, Try.ntmps8
  go_wp2_with fail
  refine (known_any _).mono ?_
  rintro e v1 ⟨rfl, q1⟩
  go_wp2_with fail
  refine (cl _).mono ?_
  rintro e v2 ⟨rfl, rfl⟩
  go_wp2_with fail
  refine (rl _).mono ?_
  rintro e v3 ⟨rfl, q3⟩
  go_wp2_with fail
  refine (ce _).mono ?_
  rintro e v4 ⟨rfl, rfl⟩
  go_wp2_with fail
  refine (re _).mono ?_
  rintro e v5 ⟨rfl, q5⟩
  go_wp2_with fail
  refine (cm _).mono ?_
  rintro e v6 ⟨rfl, q6⟩
  go_wp2_with fail
  refine (rm _).mono ?_
  rintro e v7 ⟨rfl, q7⟩
  go_wp2_with fail
  refine (cg _).mono ?_
  rintro e v8 ⟨rfl, q8⟩
  go_wp2_with fail
  refine (rg _).mono ?_
  rintro e v9 ⟨rfl, q9⟩
  go_wp2_with fail
  go_ret
  exact ⟨rfl, ((((((q1.trans q3).trans q5).trans q6).trans q7).trans q8).trans q9).grown⟩

set_option maxRecDepth 100000 in
theorem arithOrder_lifted (os : Os) (started : os.Started) (H : Type) (enc : TypeId × Value → H) :
    ReturnsInHanded {} Try.checked os 8 .any (Rows.arithOrderSpec.pre6 enc Try.prog Try.f8 Rows.arithOrderRow.domain false) (Rows.arithOrderSpec.post enc Try.prog Try.f8 false true false false) := by
  refine returnsInHanded_of_change (C := Try.checked) arithOrder_own started (by kernel_rfl) Try.func8
    (ChangeSpec.witness6 (enc := enc) (C := Try.checked) false ⟨#[], #[.int .u32 0, .int .u32 0], []⟩ 8 (by kernel_rfl) (by kernel_rfl) (by kernel_rfl) (by kernel_rfl)) ?_
  intro W base args ds gs before hval0 hW hcnd _
  have hval : ∀ (j : Nat) t v, Try.f8.params[j]? = some t → args[j]? = some v → Value.okWide Try.prog W .any base t v := hval0
  have hW' := hW
  obtain ⟨p, q, hA0, hV, rfl, hfz, hnd⟩ := hW
  have hA : DataW.TrodAll enc Try.prog W 0 (fun _ => true) true Try.f8.params.toList args.toList ds p := hA0
  rw [Try.params8] at hA hval
  obtain ⟨v0, vs0, d0, ds0, p0, q0, hargs, rfl, rfl, h0, r0⟩ := trodAll_cons hA
  obtain ⟨v1, vs1, d1, ds1, p1, q1, rfl, rfl, rfl, h1, r1⟩ := trodAll_cons r0
  obtain ⟨rfl, rfl, rfl⟩ := trodAll_nil r1
  obtain rfl : args = #[v0, v1] := by cases args; simp_all
  obtain ⟨rfl, rfl⟩ := trodVars_none hV
  obtain ⟨a0, rfl, rfl, rfl, w0⟩ := open_int Try.underlying23 (hval 0 23 v0 rfl rfl) h0
  obtain ⟨a1, rfl, rfl, rfl, w1⟩ := open_int Try.underlying23 (hval 1 23 v1 rfl rfl) h1
  clear hA0 hval0
  simp only [List.append_nil] at hW'
  refine (arithOrder_walk a0 a1 w0 w1 W).mono fun e W' ⟨he, hg⟩ => ?_
  subst he
  exact ⟨_, rfl, post_of_same (pa := []) (pv := []) hW' (fun _ _ _ => (trodAll_cons_mk (shut_bool Try.underlying4 _) trodAll_mk0)) (fun sp _ => (trodAll_cons_mk (shut_int Try.underlying23 w0) (trodAll_cons_mk (shut_int Try.underlying23 w1) trodAll_mk0))) (fun _ _ => rfl) rfl
    (hg.frame _) hg.2.1 (ok_one (by kernel_rfl) rfl (okWide_bool_mk Try.underlying4 _))⟩

theorem arithOrder_over : Rows.arithOrderRow.holds Try.pinned (OpenSpec.ofChange Rows.arithOrderSpec) :=
  OpenClaim.holds_of_wide 8 Try.f8 rfl rfl rfl rfl rfl rfl rfl ⟨rfl, rfl, rfl, rfl, rfl⟩ rfl rfl rfl rfl rfl (by kernel_rfl) Try.func8 (by kernel_rfl)
    (of_decide_eq_true (by kernel_rfl)) (by unfold Func.isWrapper; first | (rw [if_pos (by decide +kernel)]; kernel_rfl) | (rw [if_neg (by decide +kernel)]; exact ⟨rfl, rfl⟩))
    (fun os started H enc _ => arithOrder_lifted os started H enc)

theorem arithOrder_holds : Rows.ArithOrderSaid :=
  arithOrder_over
#print axioms arithOrder_holds
end Go.Proofs.Ytgpkcclapkdndaa

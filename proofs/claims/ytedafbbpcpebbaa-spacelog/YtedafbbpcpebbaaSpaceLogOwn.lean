/- Of every sample the program's Log and Exp answer as the document says, to the bit, and the chapter's examples hold; no condition. -/
import Derived.Test.YtedafbbpcpebbaaRows
import Derived.WalkKit
import Derived.ProofKit
import Derived.OpenShut
import Derived.Test.YtedafbbpcpebbaaG28256beb
import Derived.Test.YtedafbbpcpebbaaG77c0832e
namespace Go.Proofs.Ytedafbbpcpebbaa
open Go.ChangeShapes Go.WideShapes Go.ChangeAt Go.RowKit
set_option linter.unusedVariables false

theorem spaceLog_own : ownKnob Try.prog.godebug = none := by kernel_rfl

set_option maxHeartbeats 4000000 in
theorem spaceLog_walk (a0 : Int) (w0 : (Lit.int .u32 a0).wf = true) (w : World) :
    Calls Try.prog 5 #[.int .u32 a0] w fun e w' => e = .returned (.bool true) ∧ Grown w w' := by
  obtain ⟨x0, x1⟩ := bounds_u32 w0
  obtain ⟨a, rfl⟩ := Int.eq_ofNat_of_zero_le x0
  have ha : a < 4294967296 := by omega
  have c1 := fun w => log_any a ha w
  have c2 := fun w => rlog_any a ha w
  have c3 := fun w => exp_any a ha w
  have c4 := fun w => rexp_any a ha w
  generalize logV a = L0 at c1 c2
  generalize expW a = D0 at c3 c4
  go_enter Try.func5, Try.ntmps5
  go_wp2_with fail
  refine (known7_any _).mono ?_
  rintro e v1 ⟨rfl, q1⟩
  go_wp2_with fail
  refine (c1 _).mono ?_
  rintro e v2 ⟨rfl, q2⟩
  go_wp2_with fail
  refine (c2 _).mono ?_
  rintro e v3 ⟨rfl, q3⟩
  go_wp2_with fail
  refine (c3 _).mono ?_
  rintro e v4 ⟨rfl, q4⟩
  go_wp2_with fail
  refine (c4 _).mono ?_
  rintro e v5 ⟨rfl, q5⟩
  go_wp2_with fail
  go_ret
  exact ⟨rfl, ((((q1.trans q2).trans q3).trans q4).trans q5).grown⟩

set_option maxRecDepth 100000 in
theorem spaceLog_lifted (os : Os) (started : os.Started) (H : Type) (enc : TypeId × Value → H) :
    ReturnsInHanded {} Try.checked os 5 .any (Rows.spaceLogSpec.pre6 enc Try.prog Try.f5 Rows.spaceLogRow.domain false) (Rows.spaceLogSpec.post enc Try.prog Try.f5 false true false false) := by
  refine returnsInHanded_of_change (C := Try.checked) spaceLog_own started (by kernel_rfl) Try.func5
    (ChangeSpec.witness6 (enc := enc) (C := Try.checked) false ⟨#[], #[.int .u32 0], []⟩ 8 (by kernel_rfl) (by kernel_rfl) (by kernel_rfl) (by kernel_rfl)) ?_
  intro W base args ds gs before hval0 hW hcnd _
  have hval : ∀ (j : Nat) t v, Try.f5.params[j]? = some t → args[j]? = some v → Value.okWide Try.prog W .any base t v := hval0
  have hW' := hW
  obtain ⟨p, q, hA0, hV, rfl, hfz, hnd⟩ := hW
  have hA : DataW.TrodAll enc Try.prog W 0 (fun _ => true) true Try.f5.params.toList args.toList ds p := hA0
  rw [Try.params5] at hA hval
  obtain ⟨v0, vs0, d0, ds0, p0, q0, hargs, rfl, rfl, h0, r0⟩ := trodAll_cons hA
  obtain ⟨rfl, rfl, rfl⟩ := trodAll_nil r0
  obtain rfl : args = #[v0] := by cases args; simp_all
  obtain ⟨rfl, rfl⟩ := trodVars_none hV
  obtain ⟨a0, rfl, rfl, rfl, w0⟩ := open_int Try.underlying23 (hval 0 23 v0 rfl rfl) h0
  clear hA0 hval0
  simp only [List.append_nil] at hW'
  refine (spaceLog_walk a0 w0 W).mono fun e W' ⟨he, hg⟩ => ?_
  subst he
  exact ⟨_, rfl, post_of_same (pa := []) (pv := []) hW' (fun _ _ _ => (trodAll_cons_mk (shut_bool Try.underlying4 _) trodAll_mk0)) (fun sp _ => (trodAll_cons_mk (shut_int Try.underlying23 w0) trodAll_mk0)) (fun _ _ => rfl) rfl
    (hg.frame _) hg.2.1 (ok_one (by kernel_rfl) rfl (okWide_bool_mk Try.underlying4 _))⟩

theorem spaceLog_over : Rows.spaceLogRow.holds Try.pinned (OpenSpec.ofChange Rows.spaceLogSpec) :=
  OpenClaim.holds_of_wide 5 Try.f5 rfl rfl rfl rfl rfl rfl rfl ⟨rfl, rfl, rfl, rfl, rfl⟩ rfl rfl rfl rfl rfl (by kernel_rfl) Try.func5 (by kernel_rfl)
    (of_decide_eq_true (by kernel_rfl)) (by unfold Func.isWrapper; first | (rw [if_pos (by decide +kernel)]; kernel_rfl) | (rw [if_neg (by decide +kernel)]; exact ⟨rfl, rfl⟩))
    (fun os started H enc _ => spaceLog_lifted os started H enc)

theorem spaceLog_holds : Rows.SpaceLogSaid :=
  spaceLog_over
#print axioms spaceLog_holds
end Go.Proofs.Ytedafbbpcpebbaa

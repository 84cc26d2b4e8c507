/- Of every three samples Drop of Lift and Lift of Drop bring all three back, to the bit, and the chapter's examples hold; no condition. -/
import Derived.Test.YtedafbbpcpebbabRows
import Derived.WalkKit
import Derived.ProofKit
import Derived.OpenShut
import Derived.Test.YtedafbbpcpebbabG85af7683
namespace Go.Proofs.Ytedafbbpcpebbab
open Go.ChangeShapes Go.WideShapes Go.ChangeAt Go.RowKit
set_option linter.unusedVariables false

theorem spaceLiftBack_own : ownKnob Try.prog.godebug = none := by kernel_rfl

set_option maxHeartbeats 4000000 in
theorem spaceLiftBack_walk (a0 : Int) (a1 : Int) (a2 : Int) (w0 : (Lit.int .u32 a0).wf = true) (w1 : (Lit.int .u32 a1).wf = true) (w2 : (Lit.int .u32 a2).wf = true) (w : World) :
    Calls Try.prog 4 #[.int .u32 a0, .int .u32 a1, .int .u32 a2] w fun e w' => e = .returned (.bool true) ∧ Grown w w' := by
  obtain ⟨x0, x1⟩ := bounds_u32 w0
  obtain ⟨y0, y1⟩ := bounds_u32 w1
  obtain ⟨z0, z1⟩ := bounds_u32 w2
  obtain ⟨a, rfl⟩ := Int.eq_ofNat_of_zero_le x0
  obtain ⟨b, rfl⟩ := Int.eq_ofNat_of_zero_le y0
  obtain ⟨c, rfl⟩ := Int.eq_ofNat_of_zero_le z0
  have ha : a < 4294967296 := by omega
  have hb : b < 4294967296 := by omega
  have hc : c < 4294967296 := by omega
  obtain ⟨l0, l1, l2⟩ := way_4.ut a b c ha hb hc
  obtain ⟨d0, d1, d2⟩ := way_4.lt a b c ha hb hc
  have c1 := fun w => lift_any a b c ha hb hc w
  have c2 := fun w => drop_any _ _ _ l0 l1 l2 w
  have c3 := fun w => drop_any a b c ha hb hc w
  have c4 := fun w => lift_any _ _ _ d0 d1 d2 w
  obtain ⟨e1, e2, e3⟩ := drop_lift ha hb hc
  obtain ⟨f1, f2, f3⟩ := lift_drop ha hb hc
  rw [e1, e2, e3] at c2
  rw [f1, f2, f3] at c4
  clear e1 e2 e3 f1 f2 f3
  generalize lift0 a b c = L0 at *
  generalize lift1 a b c = L1 at *
  generalize lift2 a b c = L2 at *
  generalize drop0 a b c = D0 at *
  generalize drop1 a b c = D1 at *
  generalize drop2 a b c = D2 at *
  unfold t3 at c1 c2 c3 c4
  go_enter Try.func4, Try.ntmps4
  go_wp2_with fail
  refine (known7_any _).mono ?_
  rintro e v1 ⟨rfl, q1⟩
  go_wp2_with fail
  refine (c1 _).mono ?_
  rintro e v2 ⟨rfl, q2⟩
  go_wp2_with fail
  refine (c2 _).mono ?_
  rintro e v3 ⟨rfl, q3⟩
  go_wp2_with fail
  refine (c3 _).mono ?_
  rintro e v4 ⟨rfl, q4⟩
  go_wp2_with fail
  refine (c4 _).mono ?_
  rintro e v5 ⟨rfl, q5⟩
  go_wp2_with fail
  go_ret
  exact ⟨rfl, ((((q1.trans q2).trans q3).trans q4).trans q5).grown⟩

set_option maxRecDepth 100000 in
theorem spaceLiftBack_lifted (os : Os) (started : os.Started) (H : Type) (enc : TypeId × Value → H) :
    ReturnsInHanded {} Try.checked os 4 .any (Rows.spaceLiftBackSpec.pre6 enc Try.prog Try.f4 Rows.spaceLiftBackRow.domain false) (Rows.spaceLiftBackSpec.post enc Try.prog Try.f4 false true false false) := by
  refine returnsInHanded_of_change (C := Try.checked) spaceLiftBack_own started (by kernel_rfl) Try.func4
    (ChangeSpec.witness6 (enc := enc) (C := Try.checked) false ⟨#[], #[.int .u32 0, .int .u32 0, .int .u32 0], []⟩ 8 (by kernel_rfl) (by kernel_rfl) (by kernel_rfl) (by kernel_rfl)) ?_
  intro W base args ds gs before hval0 hW hcnd _
  have hval : ∀ (j : Nat) t v, Try.f4.params[j]? = some t → args[j]? = some v → Value.okWide Try.prog W .any base t v := hval0
  have hW' := hW
  obtain ⟨p, q, hA0, hV, rfl, hfz, hnd⟩ := hW
  have hA : DataW.TrodAll enc Try.prog W 0 (fun _ => true) true Try.f4.params.toList args.toList ds p := hA0
  rw [Try.params4] at hA hval
  obtain ⟨v0, vs0, d0, ds0, p0, q0, hargs, rfl, rfl, h0, r0⟩ := trodAll_cons hA
  obtain ⟨v1, vs1, d1, ds1, p1, q1, rfl, rfl, rfl, h1, r1⟩ := trodAll_cons r0
  obtain ⟨v2, vs2, d2, ds2, p2, q2, rfl, rfl, rfl, h2, r2⟩ := trodAll_cons r1
  obtain ⟨rfl, rfl, rfl⟩ := trodAll_nil r2
  obtain rfl : args = #[v0, v1, v2] := by cases args; simp_all
  obtain ⟨rfl, rfl⟩ := trodVars_none hV
  obtain ⟨a0, rfl, rfl, rfl, w0⟩ := open_int Try.underlying22 (hval 0 22 v0 rfl rfl) h0
  obtain ⟨a1, rfl, rfl, rfl, w1⟩ := open_int Try.underlying22 (hval 1 22 v1 rfl rfl) h1
  obtain ⟨a2, rfl, rfl, rfl, w2⟩ := open_int Try.underlying22 (hval 2 22 v2 rfl rfl) h2
  clear hA0 hval0
  simp only [List.append_nil] at hW'
  refine (spaceLiftBack_walk a0 a1 a2 w0 w1 w2 W).mono fun e W' ⟨he, hg⟩ => ?_
  subst he
  exact ⟨_, rfl, post_of_same (pa := []) (pv := []) hW' (fun _ _ _ => (trodAll_cons_mk (shut_bool Try.underlying4 _) trodAll_mk0)) (fun sp _ => (trodAll_cons_mk (shut_int Try.underlying22 w0) (trodAll_cons_mk (shut_int Try.underlying22 w1) (trodAll_cons_mk (shut_int Try.underlying22 w2) trodAll_mk0)))) (fun _ _ => rfl) rfl
    (hg.frame _) hg.2.1 (ok_one (by kernel_rfl) rfl (okWide_bool_mk Try.underlying4 _))⟩

theorem spaceLiftBack_over : Rows.spaceLiftBackRow.holds Try.pinned (OpenSpec.ofChange Rows.spaceLiftBackSpec) :=
  OpenClaim.holds_of_wide 4 Try.f4 rfl rfl rfl rfl rfl rfl rfl ⟨rfl, rfl, rfl, rfl, rfl⟩ rfl rfl rfl rfl rfl (by kernel_rfl) Try.func4 (by kernel_rfl)
    (of_decide_eq_true (by kernel_rfl)) (by unfold Func.isWrapper; first | (rw [if_pos (by decide +kernel)]; kernel_rfl) | (rw [if_neg (by decide +kernel)]; exact ⟨rfl, rfl⟩))
    (fun os started H enc _ => spaceLiftBack_lifted os started H enc)

theorem spaceLiftBack_holds : Rows.SpaceLiftBackSaid :=
  spaceLiftBack_over
#print axioms spaceLiftBack_holds
end Go.Proofs.Ytedafbbpcpebbab

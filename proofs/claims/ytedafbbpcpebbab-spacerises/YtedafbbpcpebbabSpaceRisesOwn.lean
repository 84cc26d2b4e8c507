/- Of every two samples that are no NaNs Exp rises, and Log from 0 on, by value, and the chapter's examples hold; no condition. -/
import Derived.Test.YtedafbbpcpebbabRows
import Derived.WalkKit
import Derived.ProofKit
import Derived.OpenShut
import Derived.Test.YtedafbbpcpebbabGa3bf4f91
namespace Go.Proofs.Ytedafbbpcpebbab
open Go.ChangeShapes Go.WideShapes Go.ChangeAt Go.RowKit
set_option linter.unusedVariables false

theorem spaceRises_own : ownKnob Try.prog.godebug = none := by kernel_rfl

theorem rises_low (a b : Nat) (ha : a < 4294967296) (hb : b < 4294967296) (na : nanN a = false) (nb : nanN b = false) (h : srung32 a ≤ srung32 b) :
    (srung32 (expW b) < srung32 (expW a)) = False ∧ (srung32 a < 0 ∨ srung32 (logV a) ≤ srung32 (logV b)) := by
  refine ⟨eq_false (by have := exp_rises na nb h; omega), ?_⟩
  rcases Int.lt_or_le (srung32 a) 0 with g | g
  · exact Or.inl g
  · exact Or.inr (log_rises ha hb na nb g h)
set_option maxHeartbeats 4000000 in
theorem spaceRises_walk (a0 : Int) (a1 : Int) (w0 : (Lit.int .u32 a0).wf = true) (w1 : (Lit.int .u32 a1).wf = true) (w : World) :
    Calls Try.prog 5 #[.int .u32 a0, .int .u32 a1] w fun e w' => e = .returned (.bool true) ∧ Grown w w' := by
  obtain ⟨x0, x1⟩ := bounds_u32 w0
  obtain ⟨y0, y1⟩ := bounds_u32 w1
  obtain ⟨a, rfl⟩ := Int.eq_ofNat_of_zero_le x0
  obtain ⟨b, rfl⟩ := Int.eq_ofNat_of_zero_le y0
  have ha : a < 4294967296 := by omega
  have hb : b < 4294967296 := by omega
  have n1 := fun w => risnan_any a w ha
  have n2 := fun w => risnan_any b w hb
  have k1 := fun w => key7_any a ha w
  have k2 := fun w => key7_any b hb w
  have e1 := fun w => exp_any a ha w
  have e2 := fun w => exp_any b hb w
  have l1 := fun w => log_any a ha w
  have l2 := fun w => log_any b hb w
  have e3 := fun w => key7_any _ (expW_lt a) w
  have e4 := fun w => key7_any _ (expW_lt b) w
  have l3 := fun w => key7_any _ (logV_lt a) w
  have l4 := fun w => key7_any _ (logV_lt b) w
  cases na : nanN a
  · rw [na] at n1
    cases nb : nanN b
    · rw [nb] at n2
      rcases Int.lt_or_le (srung32 b) (srung32 a) with h | h
      · obtain ⟨f1, f2⟩ := rises_low b a hb ha nb na (by omega)
        have F1 : decide (srung32 (expW a) < srung32 (expW b)) = false := decide_eq_false (by rw [f1]; exact id)
        have H : srung32 b < srung32 a := h
        clear f1 na nb
        generalize srung32 (expW a) = EA at *
        generalize srung32 (expW b) = EB at *
        generalize srung32 (logV a) = LA at *
        generalize srung32 (logV b) = LB at *
        generalize srung32 a = SA at *
        generalize srung32 b = SB at *
        rcases Int.lt_or_le SB 0 with g | g
        · go_enter Try.func5, Try.ntmps5
          go_wp2_with fail
          refine (known7_any _).mono ?_
          rintro e v1 ⟨rfl, q1⟩
          go_wp2_with fail
          refine (n1 _).mono ?_
          rintro e v2 ⟨rfl, q2⟩
          go_wp2_with fail
          refine (n2 _).mono ?_
          rintro e v3 ⟨rfl, q3⟩
          go_wp2_with fail
          refine (k1 _).mono ?_
          rintro e v4 ⟨rfl, rfl⟩
          go_wp2_with fail
          refine (k2 _).mono ?_
          rintro e v5 ⟨rfl, rfl⟩
          go_wp2_with fail
          refine (e2 _).mono ?_
          rintro e v6 ⟨rfl, q6⟩
          go_wp2_with fail
          refine (e4 _).mono ?_
          rintro e v7 ⟨rfl, rfl⟩
          go_wp2_with fail
          refine (e1 _).mono ?_
          rintro e v8 ⟨rfl, q8⟩
          go_wp2_with fail
          refine (e3 _).mono ?_
          rintro e v9 ⟨rfl, rfl⟩
          go_wp2_with fail
          refine (k2 _).mono ?_
          rintro e v10 ⟨rfl, rfl⟩
          go_wp2_with fail
          go_ret
          exact ⟨rfl, ((((q1.trans q2).trans q3).trans q6).trans q8).grown⟩
        · have hf : LB ≤ LA := f2.resolve_left (by omega)
          have G : decide (SB < 0) = false := decide_eq_false (by omega)
          clear f2
          go_enter Try.func5, Try.ntmps5
          go_wp2_with fail
          refine (known7_any _).mono ?_
          rintro e v1 ⟨rfl, q1⟩
          go_wp2_with fail
          refine (n1 _).mono ?_
          rintro e v2 ⟨rfl, q2⟩
          go_wp2_with fail
          refine (n2 _).mono ?_
          rintro e v3 ⟨rfl, q3⟩
          go_wp2_with fail
          refine (k1 _).mono ?_
          rintro e v4 ⟨rfl, rfl⟩
          go_wp2_with fail
          refine (k2 _).mono ?_
          rintro e v5 ⟨rfl, rfl⟩
          go_wp2_with fail
          refine (e2 _).mono ?_
          rintro e v6 ⟨rfl, q6⟩
          go_wp2_with fail
          refine (e4 _).mono ?_
          rintro e v7 ⟨rfl, rfl⟩
          go_wp2_with fail
          refine (e1 _).mono ?_
          rintro e v8 ⟨rfl, q8⟩
          go_wp2_with fail
          refine (e3 _).mono ?_
          rintro e v9 ⟨rfl, rfl⟩
          go_wp2_with fail
          refine (k2 _).mono ?_
          rintro e v10 ⟨rfl, rfl⟩
          go_wp2_with fail
          refine (l2 _).mono ?_
          rintro e v11 ⟨rfl, q11⟩
          go_wp2_with fail
          refine (l4 _).mono ?_
          rintro e v12 ⟨rfl, rfl⟩
          go_wp2_with fail
          refine (l1 _).mono ?_
          rintro e v13 ⟨rfl, q13⟩
          go_wp2_with fail
          refine (l3 _).mono ?_
          rintro e v14 ⟨rfl, rfl⟩
          go_wp2_with fail
          go_ret
          exact ⟨rfl, ((((((q1.trans q2).trans q3).trans q6).trans q8).trans q11).trans q13).grown⟩
      · obtain ⟨f1, f2⟩ := rises_low a b ha hb na nb h
        have F1 : decide (srung32 (expW b) < srung32 (expW a)) = false := decide_eq_false (by rw [f1]; exact id)
        have H : decide (srung32 b < srung32 a) = false := decide_eq_false (by omega)
        clear f1 na nb h
        generalize srung32 (expW a) = EA at *
        generalize srung32 (expW b) = EB at *
        generalize srung32 (logV a) = LA at *
        generalize srung32 (logV b) = LB at *
        generalize srung32 a = SA at *
        generalize srung32 b = SB at *
        rcases Int.lt_or_le SA 0 with g | g
        · go_enter Try.func5, Try.ntmps5
          go_wp2_with fail
          refine (known7_any _).mono ?_
          rintro e v1 ⟨rfl, q1⟩
          go_wp2_with fail
          refine (n1 _).mono ?_
          rintro e v2 ⟨rfl, q2⟩
          go_wp2_with fail
          refine (n2 _).mono ?_
          rintro e v3 ⟨rfl, q3⟩
          go_wp2_with fail
          refine (k1 _).mono ?_
          rintro e v4 ⟨rfl, rfl⟩
          go_wp2_with fail
          refine (k2 _).mono ?_
          rintro e v5 ⟨rfl, rfl⟩
          go_wp2_with fail
          refine (e1 _).mono ?_
          rintro e v6 ⟨rfl, q6⟩
          go_wp2_with fail
          refine (e3 _).mono ?_
          rintro e v7 ⟨rfl, rfl⟩
          go_wp2_with fail
          refine (e2 _).mono ?_
          rintro e v8 ⟨rfl, q8⟩
          go_wp2_with fail
          refine (e4 _).mono ?_
          rintro e v9 ⟨rfl, rfl⟩
          go_wp2_with fail
          refine (k1 _).mono ?_
          rintro e v10 ⟨rfl, rfl⟩
          go_wp2_with fail
          go_ret
          exact ⟨rfl, ((((q1.trans q2).trans q3).trans q6).trans q8).grown⟩
        · have hf : LA ≤ LB := f2.resolve_left (by omega)
          have G : decide (SA < 0) = false := decide_eq_false (by omega)
          clear f2
          go_enter Try.func5, Try.ntmps5
          go_wp2_with fail
          refine (known7_any _).mono ?_
          rintro e v1 ⟨rfl, q1⟩
          go_wp2_with fail
          refine (n1 _).mono ?_
          rintro e v2 ⟨rfl, q2⟩
          go_wp2_with fail
          refine (n2 _).mono ?_
          rintro e v3 ⟨rfl, q3⟩
          go_wp2_with fail
          refine (k1 _).mono ?_
          rintro e v4 ⟨rfl, rfl⟩
          go_wp2_with fail
          refine (k2 _).mono ?_
          rintro e v5 ⟨rfl, rfl⟩
          go_wp2_with fail
          refine (e1 _).mono ?_
          rintro e v6 ⟨rfl, q6⟩
          go_wp2_with fail
          refine (e3 _).mono ?_
          rintro e v7 ⟨rfl, rfl⟩
          go_wp2_with fail
          refine (e2 _).mono ?_
          rintro e v8 ⟨rfl, q8⟩
          go_wp2_with fail
          refine (e4 _).mono ?_
          rintro e v9 ⟨rfl, rfl⟩
          go_wp2_with fail
          refine (k1 _).mono ?_
          rintro e v10 ⟨rfl, rfl⟩
          go_wp2_with fail
          refine (l1 _).mono ?_
          rintro e v11 ⟨rfl, q11⟩
          go_wp2_with fail
          refine (l3 _).mono ?_
          rintro e v12 ⟨rfl, rfl⟩
          go_wp2_with fail
          refine (l2 _).mono ?_
          rintro e v13 ⟨rfl, q13⟩
          go_wp2_with fail
          refine (l4 _).mono ?_
          rintro e v14 ⟨rfl, rfl⟩
          go_wp2_with fail
          go_ret
          exact ⟨rfl, ((((((q1.trans q2).trans q3).trans q6).trans q8).trans q11).trans q13).grown⟩
    · rw [nb] at n2
      clear e3 e4 l3 l4
      go_enter Try.func5, Try.ntmps5
      go_wp2_with fail
      refine (known7_any _).mono ?_
      rintro e v1 ⟨rfl, q1⟩
      go_wp2_with fail
      refine (n1 _).mono ?_
      rintro e v2 ⟨rfl, q2⟩
      go_wp2_with fail
      refine (n2 _).mono ?_
      rintro e v3 ⟨rfl, q3⟩
      go_wp2_with fail
      go_ret
      exact ⟨rfl, ((q1.trans q2).trans q3).grown⟩
  · rw [na] at n1
    clear e3 e4 l3 l4
    go_enter Try.func5, Try.ntmps5
    go_wp2_with fail
    refine (known7_any _).mono ?_
    rintro e v1 ⟨rfl, q1⟩
    go_wp2_with fail
    refine (n1 _).mono ?_
    rintro e v2 ⟨rfl, q2⟩
    go_wp2_with fail
    go_ret
    exact ⟨rfl, (q1.trans q2).grown⟩

set_option maxRecDepth 100000 in
theorem spaceRises_lifted (os : Os) (started : os.Started) (H : Type) (enc : TypeId × Value → H) :
    ReturnsInHanded {} Try.checked os 5 .any (Rows.spaceRisesSpec.pre6 enc Try.prog Try.f5 Rows.spaceRisesRow.domain false) (Rows.spaceRisesSpec.post enc Try.prog Try.f5 false true false false) := by
  refine returnsInHanded_of_change (C := Try.checked) spaceRises_own started (by kernel_rfl) Try.func5
    (ChangeSpec.witness6 (enc := enc) (C := Try.checked) false ⟨#[], #[.int .u32 0, .int .u32 0], []⟩ 8 (by kernel_rfl) (by kernel_rfl) (by kernel_rfl) (by kernel_rfl)) ?_
  intro W base args ds gs before hval0 hW hcnd _
  have hval : ∀ (j : Nat) t v, Try.f5.params[j]? = some t → args[j]? = some v → Value.okWide Try.prog W .any base t v := hval0
  have hW' := hW
  obtain ⟨p, q, hA0, hV, rfl, hfz, hnd⟩ := hW
  have hA : DataW.TrodAll enc Try.prog W 0 (fun _ => true) true Try.f5.params.toList args.toList ds p := hA0
  rw [Try.params5] at hA hval
  obtain ⟨v0, vs0, d0, ds0, p0, q0, hargs, rfl, rfl, h0, r0⟩ := trodAll_cons hA
  obtain ⟨v1, vs1, d1, ds1, p1, q1, rfl, rfl, rfl, h1, r1⟩ := trodAll_cons r0
  obtain ⟨rfl, rfl, rfl⟩ := trodAll_nil r1
  obtain rfl : args = #[v0, v1] := by cases args; simp_all
  obtain ⟨rfl, rfl⟩ := trodVars_none hV
  obtain ⟨a0, rfl, rfl, rfl, w0⟩ := open_int Try.underlying22 (hval 0 22 v0 rfl rfl) h0
  obtain ⟨a1, rfl, rfl, rfl, w1⟩ := open_int Try.underlying22 (hval 1 22 v1 rfl rfl) h1
  clear hA0 hval0
  simp only [List.append_nil] at hW'
  refine (spaceRises_walk a0 a1 w0 w1 W).mono fun e W' ⟨he, hg⟩ => ?_
  subst he
  exact ⟨_, rfl, post_of_same (pa := []) (pv := []) hW' (fun _ _ _ => (trodAll_cons_mk (shut_bool Try.underlying4 _) trodAll_mk0)) (fun sp _ => (trodAll_cons_mk (shut_int Try.underlying22 w0) (trodAll_cons_mk (shut_int Try.underlying22 w1) trodAll_mk0))) (fun _ _ => rfl) rfl
    (hg.frame _) hg.2.1 (ok_one (by kernel_rfl) rfl (okWide_bool_mk Try.underlying4 _))⟩

theorem spaceRises_over : Rows.spaceRisesRow.holds Try.pinned (OpenSpec.ofChange Rows.spaceRisesSpec) :=
  OpenClaim.holds_of_wide 5 Try.f5 rfl rfl rfl rfl rfl rfl rfl ⟨rfl, rfl, rfl, rfl, rfl⟩ rfl rfl rfl rfl rfl (by kernel_rfl) Try.func5 (by kernel_rfl)
    (of_decide_eq_true (by kernel_rfl)) (by unfold Func.isWrapper; first | (rw [if_pos (by decide +kernel)]; kernel_rfl) | (rw [if_neg (by decide +kernel)]; exact ⟨rfl, rfl⟩))
    (fun os started H enc _ => spaceRises_lifted os started H enc)

theorem spaceRises_holds : Rows.SpaceRisesSaid :=
  spaceRises_over
#print axioms spaceRises_holds
end Go.Proofs.Ytedafbbpcpebbab

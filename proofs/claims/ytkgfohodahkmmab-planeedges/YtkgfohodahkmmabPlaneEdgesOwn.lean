/- Whatever the side and the place (of sides that there are, and places to 2^40 either way), Border of a place within is that place, Wrap goes on with period n, Mirror with period 2 (n - 1), the same to both sides of 0 (P5.10), and the chapter's examples hold. No conditions. -/
import Derived.Test.YtkgfohodahkmmabRows
import Derived.WalkKit
import Derived.ProofKit
import Derived.OpenShut
import Derived.Test.YtkgfohodahkmmabPlQ
namespace Go.Proofs.Ytkgfohodahkmmab
open Go.ChangeShapes Go.WideShapes Go.ChangeAt Go.RowKit
set_option linter.unusedVariables false

theorem planeEdges_own : ownKnob Try.prog.godebug = none := by kernel_rfl

set_option maxHeartbeats 4000000 in
theorem planeEdges_walk (a0 : Int) (a1 : Int) (w0 : (Lit.int .i64 a0).wf = true) (w1 : (Lit.int .i64 a1).wf = true) (w : World) :
    Calls Try.prog 4 #[.int .i64 a0, .int .i64 a1] w fun e w' => e = .returned (.bool true) ∧ Grown w w' := by
  have K := known_any w
  have b0 : -9223372036854775808 ≤ a0 ∧ a0 ≤ 9223372036854775807 := by simpa [Lit.wf, IntKind.min, IntKind.max, IntKind.signed, IntKind.bits] using w0
  have b1 : -9223372036854775808 ≤ a1 ∧ a1 ≤ 9223372036854775807 := by simpa [Lit.wf, IntKind.min, IntKind.max, IntKind.signed, IntKind.bits] using w1
  clear w0 w1
  by_cases h1 : a0 < 1
  · go_enter Try.func4, Try.ntmps4
    go_wp2_with fail
    refine K.mono ?_
    rintro e w1 ⟨rfl, q1⟩
    go_wp2_with fail
    go_ret
    exact ⟨rfl, q1.grown⟩
  by_cases h2 : 1024 < a0
  · go_enter Try.func4, Try.ntmps4
    go_wp2_with fail
    refine K.mono ?_
    rintro e w1 ⟨rfl, q1⟩
    go_wp2_with fail
    go_ret
    exact ⟨rfl, q1.grown⟩
  by_cases h3 : a1 < -1099511627776
  · go_enter Try.func4, Try.ntmps4
    go_wp2_with fail
    refine K.mono ?_
    rintro e w1 ⟨rfl, q1⟩
    go_wp2_with fail
    go_ret
    exact ⟨rfl, q1.grown⟩
  by_cases h4 : 1099511627776 < a1
  · go_enter Try.func4, Try.ntmps4
    go_wp2_with fail
    refine K.mono ?_
    rintro e w1 ⟨rfl, q1⟩
    go_wp2_with fail
    go_ret
    exact ⟨rfl, q1.grown⟩
  have hn : 1 ≤ a0 ∧ a0 ≤ 1024 := by omega
  have B1 := fun w : World => border_ok 1 a0 a1 (by decide) hn w
  have B2 := fun w : World => border_ok 2 a0 a1 (by decide) hn w
  have B3 := fun w : World => border_ok 3 a0 a1 (by decide) hn w
  have P3 := fun w : World => border_ok 3 a0 (a1 + a0) (by decide) hn w
  have P2 := fun w : World => border_ok 2 a0 (a1 + 2 * (a0 - 1)) (by decide) hn w
  have M2 := fun w : World => border_ok 2 a0 (-a1) (by decide) hn w
  rw [borV_wrap] at P3
  rw [borV_mir] at P2
  rw [borV_neg _ _ hn.1] at M2
  have r1 := borV_lt (k := 1) (n := a0) a1 hn.1
  have r2 := borV_lt (k := 2) (n := a0) a1 hn.1
  have r3 := borV_lt (k := 3) (n := a0) a1 hn.1
  have i1 : 0 ≤ a1 → a1 < a0 → borV 1 a0 a1 = a1 := fun x y => borV_in (by decide) x y
  have i2 : 0 ≤ a1 → a1 < a0 → borV 2 a0 a1 = a1 := fun x y => borV_in (by decide) x y
  have i3 : 0 ≤ a1 → a1 < a0 → borV 3 a0 a1 = a1 := fun x y => borV_in (by decide) x y
  generalize borV 1 a0 a1 = V1 at *
  generalize borV 2 a0 a1 = V2 at *
  generalize borV 3 a0 a1 = V3 at *
  have N := fun w : World => num_any 0 w
  have s1 : IntKind.i64.wrap (a0 - 1) = a0 - 1 := by rw [IntKind.wrap_i64]; omega
  have s2 : IntKind.i64.wrap (2 * (a0 - 1)) = 2 * (a0 - 1) := by rw [IntKind.wrap_i64]; omega
  have s3 : IntKind.i64.wrap (a1 + 2 * (a0 - 1)) = a1 + 2 * (a0 - 1) := by rw [IntKind.wrap_i64]; omega
  have s4 : IntKind.i64.wrap (a1 + a0) = a1 + a0 := by rw [IntKind.wrap_i64]; omega
  have s5 : IntKind.i64.wrap (-a1) = -a1 := by rw [IntKind.wrap_i64]; omega
  have hcase : a1 < 0 ∨ a0 ≤ a1 ∨ (0 ≤ a1 ∧ a1 < a0 ∧ V1 = a1 ∧ V2 = a1 ∧ V3 = a1) := by
    by_cases c1 : a1 < 0
    · exact Or.inl c1
    · by_cases c2 : a1 < a0
      · exact Or.inr (Or.inr ⟨by omega, c2, i1 (by omega) c2, i2 (by omega) c2, i3 (by omega) c2⟩)
      · exact Or.inr (Or.inl (by omega))
  have HB : Hid ((∀ w : World, Calls Try.prog 12 #[.int .i64 1, .int .i64 a0, .int .i64 a1] w fun e w' => e = .returned (.tuple #[.int .i64 V1, .int .i64 0]) ∧ w' = w) ∧ (∀ w : World, Calls Try.prog 12 #[.int .i64 2, .int .i64 a0, .int .i64 a1] w fun e w' => e = .returned (.tuple #[.int .i64 V2, .int .i64 0]) ∧ w' = w) ∧ (∀ w : World, Calls Try.prog 12 #[.int .i64 3, .int .i64 a0, .int .i64 a1] w fun e w' => e = .returned (.tuple #[.int .i64 V3, .int .i64 0]) ∧ w' = w)) := ⟨B1, B2, B3⟩
  have HP : Hid ((∀ w : World, Calls Try.prog 12 #[.int .i64 3, .int .i64 a0, .int .i64 (a1 + a0)] w fun e w' => e = .returned (.tuple #[.int .i64 V3, .int .i64 0]) ∧ w' = w) ∧ (∀ w : World, Calls Try.prog 12 #[.int .i64 2, .int .i64 a0, .int .i64 (a1 + 2 * (a0 - 1))] w fun e w' => e = .returned (.tuple #[.int .i64 V2, .int .i64 0]) ∧ w' = w) ∧ (∀ w : World, Calls Try.prog 12 #[.int .i64 2, .int .i64 a0, .int .i64 (-a1)] w fun e w' => e = .returned (.tuple #[.int .i64 V2, .int .i64 0]) ∧ w' = w)) := ⟨P3, P2, M2⟩
  have e1 : (V3 == V3) = true := by simp
  have e2 : (V2 == V2) = true := by simp
  have z0 : ((0 : Int) != 0) = false := by decide
  have g1 : ¬ V1 < 0 := by omega
  have g2 : ¬ V2 < 0 := by omega
  have g3 : ¬ V3 < 0 := by omega
  have k1 : V1 < a0 := by omega
  have k2 : V2 < a0 := by omega
  have k3 : V3 < a0 := by omega
  clear i1 i2 i3 B1 B2 B3 P3 P2 M2 r1 r2 r3
  go_enter Try.func4, Try.ntmps4
  go_wp2_with fail
  refine K.mono ?_
  rintro e w1 ⟨rfl, q1⟩
  obtain ⟨w2, hw2⟩ : ∃ w2, w1.alloc (.cells #[.int .i64 1, .int .i64 2, .int .i64 3] 3) = w2 := ⟨_, rfl⟩
  have q2 : Q w1 w2 := by rw [← hw2]; exact (Q.refl w1).cells _ _
  have c0 : w2.cell? ⟨w1.heap.size, 0, none⟩ = some (.int .i64 1) := by rw [← hw2]; simp [go_sem]
  have c1 : w2.cell? ⟨w1.heap.size, 1, none⟩ = some (.int .i64 2) := by rw [← hw2]; simp [go_sem]
  have c2 : w2.cell? ⟨w1.heap.size, 2, none⟩ = some (.int .i64 3) := by rw [← hw2]; simp [go_sem]
  go_wp2_with fail
  clear hw2 K
  go_loopg [6] 3 (fun m s6 wr => ∃ k : Nat, s6 = .int .i64 k ∧ k + m = 3 ∧ wr = w2)
  case atStart => exact ⟨0, rfl, by omega, rfl⟩
  case round =>
    obtain ⟨k, rfl, hm, rfl⟩ := hrel
    obtain rfl | rfl | rfl | rfl : k = 0 ∨ k = 1 ∨ k = 2 ∨ k = 3 := by omega
    · go_wp2_with fail
      refine (HB.out.1 _).mono ?_
      rintro e w3 ⟨rfl, rfl⟩
      go_wp2_with fail
      refine (N _).mono ?_
      rintro e w3 ⟨rfl, rfl⟩
      rcases hcase with hc | hc | ⟨c3, c4, rfl, _, _⟩
      · go_wp2_with fail
        go_roundg 2
        case measure => go_light; omega
        case rel => go_light; exact ⟨1, rfl, by omega, rfl⟩
      · have hc' : ¬ a1 < a0 := by omega
        go_wp2_with fail
        go_roundg 2
        case measure => go_light; omega
        case rel => go_light; exact ⟨1, rfl, by omega, rfl⟩
      · have z1 : (V1 != V1) = false := by simp
        go_wp2_with fail
        go_roundg 2
        case measure => go_light; omega
        case rel => go_light; exact ⟨1, rfl, by omega, rfl⟩
    · go_wp2_with fail
      refine (HB.out.2.1 _).mono ?_
      rintro e w3 ⟨rfl, rfl⟩
      go_wp2_with fail
      refine (N _).mono ?_
      rintro e w3 ⟨rfl, rfl⟩
      rcases hcase with hc | hc | ⟨c3, c4, _, rfl, _⟩
      · go_wp2_with fail
        go_roundg 1
        case measure => go_light; omega
        case rel => go_light; exact ⟨2, rfl, by omega, rfl⟩
      · have hc' : ¬ a1 < a0 := by omega
        go_wp2_with fail
        go_roundg 1
        case measure => go_light; omega
        case rel => go_light; exact ⟨2, rfl, by omega, rfl⟩
      · have z1 : (V2 != V2) = false := by simp
        go_wp2_with fail
        go_roundg 1
        case measure => go_light; omega
        case rel => go_light; exact ⟨2, rfl, by omega, rfl⟩
    · go_wp2_with fail
      refine (HB.out.2.2 _).mono ?_
      rintro e w3 ⟨rfl, rfl⟩
      go_wp2_with fail
      refine (N _).mono ?_
      rintro e w3 ⟨rfl, rfl⟩
      rcases hcase with hc | hc | ⟨c3, c4, _, _, rfl⟩
      · go_wp2_with fail
        go_roundg 0
        case measure => go_light; omega
        case rel => go_light; exact ⟨3, rfl, by omega, rfl⟩
      · have hc' : ¬ a1 < a0 := by omega
        go_wp2_with fail
        go_roundg 0
        case measure => go_light; omega
        case rel => go_light; exact ⟨3, rfl, by omega, rfl⟩
      · have z1 : (V3 != V3) = false := by simp
        go_wp2_with fail
        go_roundg 0
        case measure => go_light; omega
        case rel => go_light; exact ⟨3, rfl, by omega, rfl⟩
    · go_wp2_with fail
      refine (HB.out.2.2 _).mono ?_
      rintro e w3 ⟨rfl, rfl⟩
      go_wp2_with fail
      refine (HP.out.1 _).mono ?_
      rintro e w3 ⟨rfl, rfl⟩
      go_wp2_with fail
      refine (HB.out.2.1 _).mono ?_
      rintro e w3 ⟨rfl, rfl⟩
      go_wp2_with fail
      refine (HP.out.2.1 _).mono ?_
      rintro e w3 ⟨rfl, rfl⟩
      go_wp2_with fail
      refine (HP.out.2.2 _).mono ?_
      rintro e w3 ⟨rfl, rfl⟩
      go_wp2_with fail
      go_ret
      exact ⟨rfl, (q1.trans q2).grown⟩

set_option maxRecDepth 100000 in
theorem planeEdges_lifted (os : Os) (started : os.Started) (H : Type) (enc : TypeId × Value → H) :
    ReturnsInHanded {} Try.checked os 4 .any (Rows.planeEdgesSpec.pre6 enc Try.prog Try.f4 Rows.planeEdgesRow.domain false) (Rows.planeEdgesSpec.post enc Try.prog Try.f4 false true false false) := by
  refine returnsInHanded_of_change (C := Try.checked) planeEdges_own started (by kernel_rfl) Try.func4
    (ChangeSpec.witness6 (enc := enc) (C := Try.checked) false ⟨#[], #[.int .i64 0, .int .i64 0], []⟩ 8 (by kernel_rfl) (by kernel_rfl) (by kernel_rfl) (by kernel_rfl)) ?_
  intro W base args ds gs before hval0 hW hcnd _
  have hval : ∀ (j : Nat) t v, Try.f4.params[j]? = some t → args[j]? = some v → Value.okWide Try.prog W .any base t v := hval0
  have hW' := hW
  obtain ⟨p, q, hA0, hV, rfl, hfz, hnd⟩ := hW
  have hA : DataW.TrodAll enc Try.prog W 0 (fun _ => true) true Try.f4.params.toList args.toList ds p := hA0
  rw [Try.params4] at hA hval
  obtain ⟨v0, vs0, d0, ds0, p0, q0, hargs, rfl, rfl, h0, r0⟩ := trodAll_cons hA
  obtain ⟨v1, vs1, d1, ds1, p1, q1, rfl, rfl, rfl, h1, r1⟩ := trodAll_cons r0
  obtain ⟨rfl, rfl, rfl⟩ := trodAll_nil r1
  obtain rfl : args = #[v0, v1] := by cases args; simp_all
  obtain ⟨rfl, rfl⟩ := trodVars_none hV
  obtain ⟨a0, rfl, rfl, rfl, w0⟩ := open_int Try.underlying3 (hval 0 3 v0 rfl rfl) h0
  obtain ⟨a1, rfl, rfl, rfl, w1⟩ := open_int Try.underlying3 (hval 1 3 v1 rfl rfl) h1
  clear hA0 hval0
  simp only [List.append_nil] at hW'
  refine (planeEdges_walk a0 a1 w0 w1 W).mono fun e W' ⟨he, hg⟩ => ?_
  subst he
  exact ⟨_, rfl, post_of_same (pa := []) (pv := []) hW' (fun _ _ _ => (trodAll_cons_mk (shut_bool Try.underlying4 _) trodAll_mk0)) (fun sp _ => (trodAll_cons_mk (shut_int Try.underlying3 w0) (trodAll_cons_mk (shut_int Try.underlying3 w1) trodAll_mk0))) (fun _ _ => rfl) rfl
    (hg.frame _) hg.2.1 (ok_one (by kernel_rfl) rfl (okWide_bool_mk Try.underlying4 _))⟩

theorem planeEdges_over : Rows.planeEdgesRow.holds Try.pinned (OpenSpec.ofChange Rows.planeEdgesSpec) :=
  OpenClaim.holds_of_wide 4 Try.f4 rfl rfl rfl rfl rfl rfl rfl ⟨rfl, rfl, rfl, rfl, rfl⟩ rfl rfl rfl rfl rfl (by kernel_rfl) Try.func4 (by kernel_rfl)
    (of_decide_eq_true (by kernel_rfl)) (by unfold Func.isWrapper; first | (rw [if_pos (by decide +kernel)]; kernel_rfl) | (rw [if_neg (by decide +kernel)]; exact ⟨rfl, rfl⟩))
    (fun os started H enc _ => planeEdges_lifted os started H enc)

theorem planeEdges_holds : Rows.PlaneEdgesSaid :=
  planeEdges_over
#print axioms planeEdges_holds
end Go.Proofs.Ytkgfohodahkmmab

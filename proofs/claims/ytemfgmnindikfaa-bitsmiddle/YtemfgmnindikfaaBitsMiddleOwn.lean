/- Of every three samples the program's median is one of them, the same in whatever order, and what is clamped stands between; no condition. -/
import Derived.Test.YtemfgmnindikfaaRows
import Derived.WalkKit
import Derived.ProofKit
import Derived.OpenShut
import Derived.Test.YtemfgmnindikfaaKnown
namespace Go.Proofs.Ytemfgmnindikfaa
open Go.ChangeShapes Go.WideShapes Go.ChangeAt Go.RowKit
set_option linter.unusedVariables false

theorem bitsMiddle_own : ownKnob Try.prog.godebug = none := by kernel_rfl

theorem med_rot {a b c : Int} (a0 : 0 ≤ a) (b0 : 0 ≤ b) (c0 : 0 ≤ c) : medianV b c a = medianV a b c := by
  unfold medianV greatestV leastV
  simp only [befB_t]
  repeat' split
  all_goals first | rfl | omega | exact keyV_inj a0 b0 (by omega) | exact keyV_inj b0 c0 (by omega) | exact keyV_inj a0 c0 (by omega) | exact keyV_inj b0 a0 (by omega) | exact keyV_inj c0 b0 (by omega) | exact keyV_inj c0 a0 (by omega)
theorem med_swap {a b c : Int} (a0 : 0 ≤ a) (b0 : 0 ≤ b) (c0 : 0 ≤ c) : medianV b a c = medianV a b c := by
  unfold medianV greatestV leastV
  simp only [befB_t]
  repeat' split
  all_goals first | rfl | omega | exact keyV_inj a0 b0 (by omega) | exact keyV_inj b0 c0 (by omega) | exact keyV_inj a0 c0 (by omega) | exact keyV_inj b0 a0 (by omega) | exact keyV_inj c0 b0 (by omega) | exact keyV_inj c0 a0 (by omega)
theorem med_one (a b c : Int) : medianV a b c = a ∨ medianV a b c = b ∨ medianV a b c = c := by
  unfold medianV greatestV leastV
  repeat' split
  all_goals simp
theorem betw_lo (a b c : Int) : befB (betweenV a (leastV b c) (greatestV b c)) (leastV b c) = false := by
  rw [befB_f]
  unfold betweenV greatestV leastV
  simp only [befB_t]
  repeat' split
  all_goals first | omega | simp_all; done | (simp_all; omega)
theorem betw_hi (a b c : Int) : befB (greatestV b c) (betweenV a (leastV b c) (greatestV b c)) = false := by
  rw [befB_f]
  unfold betweenV greatestV leastV
  simp only [befB_t]
  repeat' split
  all_goals first | omega | simp_all; done | (simp_all; omega)
theorem betw_is (a b c : Int) : betweenV a (leastV b c) (greatestV b c) = a ∨ befB a (leastV b c) = true ∨ befB (greatestV b c) a = true := by
  unfold betweenV
  cases h1 : befB a (leastV b c)
  · cases h2 : befB (greatestV b c) a
    · left
      have e1 : greatestV a (leastV b c) = a := by rw [greatestV, h1]; simp
      rw [e1, leastV, h2]; simp
    · simp
  · simp
set_option maxHeartbeats 1000000 in
theorem bitsMiddle_walk (a0 : Int) (a1 : Int) (a2 : Int) (w0 : (Lit.int .u32 a0).wf = true) (w1 : (Lit.int .u32 a1).wf = true) (w2 : (Lit.int .u32 a2).wf = true) (w : World) :
    Calls Try.prog 8 #[.int .u32 a0, .int .u32 a1, .int .u32 a2] w fun e w' => e = .returned (.bool true) ∧ Grown w w' := by
  obtain ⟨x0, x1⟩ := bounds_u32 w0
  obtain ⟨y0, y1⟩ := bounds_u32 w1
  obtain ⟨z0, z1⟩ := bounds_u32 w2
  have e1 : medianV a1 a2 a0 = medianV a0 a1 a2 := med_rot x0 y0 z0
  have e2 : medianV a2 a1 a0 = medianV a0 a1 a2 := by rw [med_swap y0 z0 x0, med_rot x0 y0 z0]
  have e3 : medianV a1 a0 a2 = medianV a0 a1 a2 := med_swap x0 y0 z0
  have e4 : greatestV (leastV a0 a1) (leastV (greatestV a0 a1) a2) = medianV a0 a1 a2 := rfl
  obtain ⟨l0, l1⟩ := leastV_bd x0 x1 y0 y1
  obtain ⟨g0, g1⟩ := greatestV_bd x0 x1 y0 y1
  obtain ⟨k0, k1⟩ := leastV_bd g0 g1 z0 z1
  obtain ⟨m0, m1⟩ := leastV_bd y0 y1 z0 z1
  obtain ⟨n0, n1⟩ := greatestV_bd y0 y1 z0 z1
  obtain ⟨r0, r1⟩ := greatestV_bd x0 x1 m0 m1
  obtain ⟨s0, s1⟩ : 0 ≤ betweenV a0 (leastV a1 a2) (greatestV a1 a2) ∧ betweenV a0 (leastV a1 a2) (greatestV a1 a2) ≤ 4294967295 := leastV_bd r0 r1 n0 n1
  have f1 := betw_lo a0 a1 a2
  have f2 := betw_hi a0 a1 a2
  have hm : (medianV a0 a1 a2 != a0) = false ∨ ((medianV a0 a1 a2 != a0) = true ∧ (medianV a0 a1 a2 != a1) = false) ∨ ((medianV a0 a1 a2 != a0) = true ∧ (medianV a0 a1 a2 != a1) = true ∧ (medianV a0 a1 a2 != a2) = false) := by
    have := med_one a0 a1 a2
    by_cases h1 : medianV a0 a1 a2 = a0
    · left; simp [h1]
    · by_cases h2 : medianV a0 a1 a2 = a1
      · right; left; exact ⟨by simp [h1], by simp [h2]⟩
      · right; right; exact ⟨by simp [h1], by simp [h2], by simp; omega⟩
  have hx : (betweenV a0 (leastV a1 a2) (greatestV a1 a2) == a0) = true ∨ ((betweenV a0 (leastV a1 a2) (greatestV a1 a2) == a0) = false ∧ befB a0 (leastV a1 a2) = true) ∨ ((betweenV a0 (leastV a1 a2) (greatestV a1 a2) == a0) = false ∧ befB a0 (leastV a1 a2) = false ∧ befB (greatestV a1 a2) a0 = true) := by
    have := betw_is a0 a1 a2
    by_cases h1 : betweenV a0 (leastV a1 a2) (greatestV a1 a2) = a0
    · left; simp [h1]
    · cases h2 : befB a0 (leastV a1 a2)
      · right; right; refine ⟨by simp [h1], rfl, ?_⟩; simpa [h1, h2] using this
      · right; left; exact ⟨by simp [h1], rfl⟩
  have HM : Hid _ := hm
  have HX : Hid _ := hx
  have HE : Hid _ := e4
  clear hm hx e4
  rcases HM.out with h | ⟨h, h'⟩ | ⟨h, h', h''⟩
  all_goals
    clear HM
    go_enter Try.func8, Try.ntmps8
    go_wp2_with fail
    refine (known_any _).mono ?_
    rintro e v1 ⟨rfl, q1⟩
    go_wp2_with fail
    refine (median_any a0 a1 a2 x0 x1 y0 y1 z0 z1 _).mono ?_
    rintro e v2 ⟨rfl, rfl⟩
    go_wp2_with fail
    refine (median_any a1 a2 a0 y0 y1 z0 z1 x0 x1 _).mono ?_
    rintro e v2 ⟨rfl, rfl⟩
    go_wp2_with fail
    refine (median_any a2 a1 a0 z0 z1 y0 y1 x0 x1 _).mono ?_
    rintro e v2 ⟨rfl, rfl⟩
    go_wp2_with fail
    refine (median_any a1 a0 a2 y0 y1 x0 x1 z0 z1 _).mono ?_
    rintro e v2 ⟨rfl, rfl⟩
    go_wp2_with fail
    refine (least_any a0 a1 x0 x1 y0 y1 _).mono ?_
    rintro e v2 ⟨rfl, rfl⟩
    go_wp2_with fail
    refine (greatest_any a0 a1 x0 x1 y0 y1 _).mono ?_
    rintro e v2 ⟨rfl, rfl⟩
    go_wp2_with fail
    refine (least_any (greatestV a0 a1) a2 g0 g1 z0 z1 _).mono ?_
    rintro e v2 ⟨rfl, rfl⟩
    go_wp2_with fail
    refine (greatest_any (leastV a0 a1) (leastV (greatestV a0 a1) a2) l0 l1 k0 k1 _).mono ?_
    rintro e v2 ⟨rfl, rfl⟩
    rw [HE.out]
    go_wp2_with fail
    refine (least_any a1 a2 y0 y1 z0 z1 _).mono ?_
    rintro e v2 ⟨rfl, rfl⟩
    go_wp2_with fail
    refine (greatest_any a1 a2 y0 y1 z0 z1 _).mono ?_
    rintro e v2 ⟨rfl, rfl⟩
    go_wp2_with fail
    refine (between_any a0 (leastV a1 a2) (greatestV a1 a2) x0 x1 m0 m1 n0 n1 _).mono ?_
    rintro e v2 ⟨rfl, rfl⟩
    go_wp2_with fail
    refine (before_any (betweenV a0 (leastV a1 a2) (greatestV a1 a2)) (leastV a1 a2) s0 s1 m0 m1 _).mono ?_
    rintro e v2 ⟨rfl, rfl⟩
    go_wp2_with fail
    refine (before_any (greatestV a1 a2) (betweenV a0 (leastV a1 a2) (greatestV a1 a2)) n0 n1 s0 s1 _).mono ?_
    rintro e v2 ⟨rfl, rfl⟩
    rcases HX.out with k | ⟨k, k'⟩ | ⟨k, k', k''⟩
    · go_wp2_with fail
      go_ret
      exact ⟨rfl, q1.grown⟩
    · go_wp2_with fail
      refine (before_any a0 (leastV a1 a2) x0 x1 m0 m1 _).mono ?_
      rintro e v2 ⟨rfl, rfl⟩
      go_wp2_with fail
      go_ret
      exact ⟨rfl, q1.grown⟩
    · go_wp2_with fail
      refine (before_any a0 (leastV a1 a2) x0 x1 m0 m1 _).mono ?_
      rintro e v2 ⟨rfl, rfl⟩
      go_wp2_with fail
      refine (before_any (greatestV a1 a2) a0 n0 n1 x0 x1 _).mono ?_
      rintro e v2 ⟨rfl, rfl⟩
      go_wp2_with fail
      go_ret
      exact ⟨rfl, q1.grown⟩

set_option maxRecDepth 100000 in
theorem bitsMiddle_lifted (os : Os) (started : os.Started) (H : Type) (enc : TypeId × Value → H) :
    ReturnsInHanded {} Try.checked os 8 .any (Rows.bitsMiddleSpec.pre6 enc Try.prog Try.f8 Rows.bitsMiddleRow.domain false) (Rows.bitsMiddleSpec.post enc Try.prog Try.f8 false true false false) := by
  refine returnsInHanded_of_change (C := Try.checked) bitsMiddle_own started (by kernel_rfl) Try.func8
    (ChangeSpec.witness6 (enc := enc) (C := Try.checked) false ⟨#[], #[.int .u32 0, .int .u32 0, .int .u32 0], []⟩ 8 (by kernel_rfl) (by kernel_rfl) (by kernel_rfl) (by kernel_rfl)) ?_
  intro W base args ds gs before hval0 hW hcnd _
  have hval : ∀ (j : Nat) t v, Try.f8.params[j]? = some t → args[j]? = some v → Value.okWide Try.prog W .any base t v := hval0
  have hW' := hW
  obtain ⟨p, q, hA0, hV, rfl, hfz, hnd⟩ := hW
  have hA : DataW.TrodAll enc Try.prog W 0 (fun _ => true) true Try.f8.params.toList args.toList ds p := hA0
  rw [Try.params8] at hA hval
  obtain ⟨v0, vs0, d0, ds0, p0, q0, hargs, rfl, rfl, h0, r0⟩ := trodAll_cons hA
  obtain ⟨v1, vs1, d1, ds1, p1, q1, rfl, rfl, rfl, h1, r1⟩ := trodAll_cons r0
  obtain ⟨v2, vs2, d2, ds2, p2, q2, rfl, rfl, rfl, h2, r2⟩ := trodAll_cons r1
  obtain ⟨rfl, rfl, rfl⟩ := trodAll_nil r2
  obtain rfl : args = #[v0, v1, v2] := by cases args; simp_all
  obtain ⟨rfl, rfl⟩ := trodVars_none hV
  obtain ⟨a0, rfl, rfl, rfl, w0⟩ := open_int Try.underlying22 (hval 0 22 v0 rfl rfl) h0
  obtain ⟨a1, rfl, rfl, rfl, w1⟩ := open_int Try.underlying22 (hval 1 22 v1 rfl rfl) h1
  obtain ⟨a2, rfl, rfl, rfl, w2⟩ := open_int Try.underlying22 (hval 2 22 v2 rfl rfl) h2
  clear hA0 hval0
  simp only [List.append_nil] at hW'
  refine (bitsMiddle_walk a0 a1 a2 w0 w1 w2 W).mono fun e W' ⟨he, hg⟩ => ?_
  subst he
  exact ⟨_, rfl, post_of_same (pa := []) (pv := []) hW' (fun _ _ _ => (trodAll_cons_mk (shut_bool Try.underlying4 _) trodAll_mk0)) (fun sp _ => (trodAll_cons_mk (shut_int Try.underlying22 w0) (trodAll_cons_mk (shut_int Try.underlying22 w1) (trodAll_cons_mk (shut_int Try.underlying22 w2) trodAll_mk0)))) (fun _ _ => rfl) rfl
    (hg.frame _) hg.2.1 (ok_one (by kernel_rfl) rfl (okWide_bool_mk Try.underlying4 _))⟩

theorem bitsMiddle_over : Rows.bitsMiddleRow.holds Try.pinned (OpenSpec.ofChange Rows.bitsMiddleSpec) :=
  OpenClaim.holds_of_wide 8 Try.f8 rfl rfl rfl rfl rfl rfl rfl ⟨rfl, rfl, rfl, rfl, rfl⟩ rfl rfl rfl rfl rfl (by kernel_rfl) Try.func8 (by kernel_rfl)
    (of_decide_eq_true (by kernel_rfl)) (by unfold Func.isWrapper; first | (rw [if_pos (by decide +kernel)]; kernel_rfl) | (rw [if_neg (by decide +kernel)]; exact ⟨rfl, rfl⟩))
    (fun os started H enc _ => bitsMiddle_lifted os started H enc)

theorem bitsMiddle_holds : Rows.BitsMiddleSaid :=
  bitsMiddle_over
#print axioms bitsMiddle_holds
end Go.Proofs.Ytemfgmnindikfaa

/- Whatever two planes are handed in, PlaneCompares answers true and leaves them as they were: Unlike and Equal answer as the document says, to the bit (P5.7), and keep what was lent and the room behind it; and the chapter's examples hold. No conditions. -/
import Derived.Test.YtkgfohodahkmmaaReadS
import Derived.Test.YtkgfohodahkmmaaLawComp
namespace Go.Proofs.Ytkgfohodahkmmaa
open Go.ChangeShapes Go.WideShapes Go.ChangeAt Go.RowKit
set_option linter.unusedVariables false

set_option maxRecDepth 100000 in
theorem planeCompares_lifted (os : Os) (started : os.Started) (H : Type) (enc : TypeId × Value → H) :
    ReturnsInHanded {} Try.checked os 7 .any (Rows.planeComparesSpec.pre6 enc Try.prog Try.f7 Rows.planeComparesRow.domain false) (Rows.planeComparesSpec.post enc Try.prog Try.f7 false true false false) := by
  refine returnsInHanded_of_change_sized (C := Try.checked) prog_own started (by kernel_rfl) Try.func7
    (ChangeSpec.witness6 (enc := enc) (C := Try.checked) false ⟨#[], #[.agg #[.int .i64 0, .int .i64 0, .slice none 0 0], .agg #[.int .i64 0, .int .i64 0, .slice none 0 0]], []⟩ 8 (by kernel_rfl) (by kernel_rfl) (by kernel_rfl) (by kernel_rfl)) ?_
  intro W base args ds gs before hval0 hW hcnd hsz _
  have hval : ∀ (j : Nat) t v, Try.f7.params[j]? = some t → args[j]? = some v → Value.okWide Try.prog W .any base t v := hval0
  have hW' := hW
  obtain ⟨p, q, hA0, hV, rfl, hfz, hnd⟩ := hW
  have hA : DataW.TrodAll enc Try.prog W 0 (fun _ => true) true Try.f7.params.toList args.toList ds p := hA0
  rw [Try.params7] at hA hval
  obtain ⟨v0, vs0, d0, ds0, p0, q0, hargs, rfl, rfl, h0, r0⟩ := trodAll_cons hA
  obtain ⟨v1, vs1, d1, ds1, p1, q1, rfl, rfl, rfl, h1, r1⟩ := trodAll_cons r0
  obtain ⟨rfl, rfl, rfl⟩ := trodAll_nil r1
  obtain rfl : args = #[v0, v1] := by cases args; simp_all
  obtain ⟨rfl, rfl⟩ := trodVars_none hV
  have k0 := h0
  have lt0 : ∀ x ∈ p0, x.block < W.heap.size := by obtain ⟨m, hm⟩ := k0; exact DataW.trod_lt m _ _ _ hm
  obtain ⟨W0, H0, sv0, S0, rfl, bw0, bh0, us0, ml0, lt32_0⟩ := read_pl (hval 0 25 v0 rfl rfl) h0
  unfold maxLen at ml0
  have sz0 := pl_weight k0 (weight_of hsz (j := 0) (t := 25) (by kernel_rfl) rfl) us0
  have k1 := h1
  have lt1 : ∀ x ∈ p1, x.block < W.heap.size := by obtain ⟨m, hm⟩ := k1; exact DataW.trod_lt m _ _ _ hm
  obtain ⟨W1, H1, sv1, S1, rfl, bw1, bh1, us1, ml1, lt32_1⟩ := read_pl (hval 1 25 v1 rfl rfl) h1
  unfold maxLen at ml1
  have sz1 := pl_weight k1 (weight_of hsz (j := 1) (t := 25) (by kernel_rfl) rfl) us1
  clear hA0 hval0
  refine (compares_walk W0 H0 sv0 S0 W1 H1 sv1 S1 W us0 us1 sz0 sz1).mono fun e W' ⟨he, hq⟩ => ?_
  have bel := hq.1
  subst he
  exact ⟨_, rfl, _, _, _, [], _, [], hW', trodAll_mk1 (shut_bool Try.underlying4 _), (trodAll_cons_mk (Below.trod prog_laid (by kernel_rfl) (of_decide_eq_true (by kernel_rfl)) k0 bel lt0) (trodAll_cons_mk (Below.trod prog_laid (by kernel_rfl) (of_decide_eq_true (by kernel_rfl)) k1 bel lt1) trodAll_mk0)), rfl, bel.frame _, fun h => by cases h⟩

theorem planeCompares_over : Rows.planeComparesRow.holds Try.pinned (OpenSpec.ofChange Rows.planeComparesSpec) :=
  OpenClaim.holds_of_wide 7 Try.f7 rfl rfl rfl rfl rfl rfl rfl ⟨rfl, rfl, rfl, rfl, rfl⟩ rfl rfl rfl rfl rfl (by kernel_rfl) Try.func7 (by kernel_rfl)
    (of_decide_eq_true (by kernel_rfl)) (by unfold Func.isWrapper; first | (rw [if_pos (by decide +kernel)]; kernel_rfl) | (rw [if_neg (by decide +kernel)]; exact ⟨rfl, rfl⟩))
    (fun os started H enc _ => planeCompares_lifted os started H enc)

theorem planeCompares_holds : Rows.PlaneComparesSaid := planeCompares_over
#print axioms planeCompares_holds
end Go.Proofs.Ytkgfohodahkmmaa

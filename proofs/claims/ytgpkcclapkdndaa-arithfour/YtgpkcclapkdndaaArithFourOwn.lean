/- Of every two samples the program's sum, difference, product and quotient are the document's; no condition. -/
import Derived.Test.YtgpkcclapkdndaaRows
import Derived.WalkKit
import Derived.ProofKit
import Derived.OpenShut
import Derived.Test.YtgpkcclapkdndaaKnown
import Derived.Test.YtgpkcclapkdndaaRefB
import Derived.Test.YtgpkcclapkdndaaRefC
import Derived.Test.YtgpkcclapkdndaaDivL
namespace Go.Proofs.Ytgpkcclapkdndaa
open Go.ChangeShapes Go.WideShapes Go.ChangeAt Go.RowKit
set_option linter.unusedVariables false

theorem arithFour_own : ownKnob Try.prog.godebug = none := by kernel_rfl

theorem add_told (a b : Nat) : roundR (plusR (numOf Ieee.single a) (numOf Ieee.single b)) = toldD ((Ieee.single.read a).sum (Ieee.single.read b)) := by
  rw [numOf_datum, numOf_datum, plus_link]
theorem sub_told (a b : Nat) : roundR (plusR (numOf Ieee.single a) (oppR (numOf Ieee.single b))) = toldD ((Ieee.single.read a).sum (Ieee.single.read b).opposite) := by
  rw [numOf_datum, numOf_datum, opp_link, plus_link]
theorem mul_told (a b : Nat) : roundR (timesR (numOf Ieee.single a) (numOf Ieee.single b)) = toldD ((Ieee.single.read a).product (Ieee.single.read b)) := by
  rw [numOf_datum, numOf_datum, times_link]
theorem div_told (a b : Nat) : roundR (divR (numOf Ieee.single a) (numOf Ieee.single b)) = toldD ((Ieee.single.read a).quotient 25 (Ieee.single.read b)) := by
  rw [numOf_datum, numOf_datum, div_link]
set_option maxHeartbeats 4000000 in
theorem arithFour_walk (a0 : Int) (a1 : Int) (w0 : (Lit.int .u32 a0).wf = true) (w1 : (Lit.int .u32 a1).wf = true) (w : World) :
    Calls Try.prog 4 #[.int .u32 a0, .int .u32 a1] w fun e w' => e = .returned (.bool true) ∧ Grown w w' := by
  obtain ⟨x0, x1⟩ := bounds_u32 w0
  obtain ⟨y0, y1⟩ := bounds_u32 w1
  obtain ⟨a, rfl⟩ := Int.eq_ofNat_of_zero_le x0
  obtain ⟨b, rfl⟩ := Int.eq_ofNat_of_zero_le y0
  have ha : a < 4294967296 := by omega
  have hb : b < 4294967296 := by omega
  have c1 := fun w => cadd_any a b w
  have c2 := fun w => csub_any a b w
  have c3 := fun w => cmul_any a b w
  have c4 := fun w => cdiv_any a b ha hb w
  have r1 := fun w => radd_any a b w ha hb
  have r2 := fun w => rsub_any a b w ha hb
  have r3 := fun w => rmul_any a b w ha hb
  have r4 := fun w => rdiv_any a b w ha hb
  rw [add_told] at r1
  rw [sub_told] at r2
  rw [mul_told] at r3
  rw [div_told] at r4
  generalize toldD ((Ieee.single.read a).sum (Ieee.single.read b)) = V1 at c1 r1
  generalize toldD ((Ieee.single.read a).sum (Ieee.single.read b).opposite) = V2 at c2 r2
  generalize toldD ((Ieee.single.read a).product (Ieee.single.read b)) = V3 at c3 r3
  generalize toldD ((Ieee.single.read a).quotient 25 (Ieee.single.read b)) = V4 at c4 r4
  go_enter Try.func4, Try.ntmps4
  go_wp2_with fail
  refine (known_any _).mono ?_
  rintro e v1 ⟨rfl, q1⟩
  go_wp2_with fail
  refine (c1 _).mono ?_
  rintro e v2 ⟨rfl, q2⟩
  go_wp2_with fail
  refine (r1 _).mono ?_
  rintro e v3 ⟨rfl, q3⟩
  go_wp2_with fail
  refine (c2 _).mono ?_
  rintro e v4 ⟨rfl, q4⟩
  go_wp2_with fail
  refine (r2 _).mono ?_
  rintro e v5 ⟨rfl, q5⟩
  go_wp2_with fail
  refine (c3 _).mono ?_
  rintro e v6 ⟨rfl, q6⟩
  go_wp2_with fail
  refine (r3 _).mono ?_
  rintro e v7 ⟨rfl, q7⟩
  go_wp2_with fail
  refine (c4 _).mono ?_
  rintro e v8 ⟨rfl, q8⟩
  go_wp2_with fail
  refine (r4 _).mono ?_
  rintro e v9 ⟨rfl, q9⟩
  go_wp2_with fail
  go_ret
  exact ⟨rfl, ((((((((q1.trans q2).trans q3).trans q4).trans q5).trans q6).trans q7).trans q8).trans q9).grown⟩

set_option maxRecDepth 100000 in
theorem arithFour_lifted (os : Os) (started : os.Started) (H : Type) (enc : TypeId × Value → H) :
    ReturnsInHanded {} Try.checked os 4 .any (Rows.arithFourSpec.pre6 enc Try.prog Try.f4 Rows.arithFourRow.domain false) (Rows.arithFourSpec.post enc Try.prog Try.f4 false true false false) := by
  refine returnsInHanded_of_change (C := Try.checked) arithFour_own started (by kernel_rfl) Try.func4
    (ChangeSpec.witness6 (enc := enc) (C := Try.checked) false ⟨#[], #[.int .u32 0, .int .u32 0], []⟩ 8 (by kernel_rfl) (by kernel_rfl) (by kernel_rfl) (by kernel_rfl)) ?_
  intro W base args ds gs before hval0 hW hcnd _
  have hval : ∀ (j : Nat) t v, Try.f4.params[j]? = some t → args[j]? = some v → Value.okWide Try.prog W .any base t v := hval0
  have hW' := hW
  obtain ⟨p, q, hA0, hV, rfl, hfz, hnd⟩ := hW
  have hA : DataW.TrodAll enc Try.prog W 0 (fun _ => true) true Try.f4.params.toList args.toList ds p := hA0
  rw [Try.params4] at hA hval
  obtain ⟨v0, vs0, d0, ds0, p0, q0, hargs, rfl, rfl, h0, r0⟩ := trodAll_cons hA
  obtain ⟨v1, vs1, d1, ds1, p1, q1, rfl, rfl, rfl, h1, r1⟩ := trodAll_cons r0
  obtain ⟨rfl, rfl, rfl⟩ := trodAll_nil r1
  obtain rfl : args = #[v0, v1] := by cases args; simp_all
  obtain ⟨rfl, rfl⟩ := trodVars_none hV
  obtain ⟨a0, rfl, rfl, rfl, w0⟩ := open_int Try.underlying23 (hval 0 23 v0 rfl rfl) h0
  obtain ⟨a1, rfl, rfl, rfl, w1⟩ := open_int Try.underlying23 (hval 1 23 v1 rfl rfl) h1
  clear hA0 hval0
  simp only [List.append_nil] at hW'
  refine (arithFour_walk a0 a1 w0 w1 W).mono fun e W' ⟨he, hg⟩ => ?_
  subst he
  exact ⟨_, rfl, post_of_same (pa := []) (pv := []) hW' (fun _ _ _ => (trodAll_cons_mk (shut_bool Try.underlying4 _) trodAll_mk0)) (fun sp _ => (trodAll_cons_mk (shut_int Try.underlying23 w0) (trodAll_cons_mk (shut_int Try.underlying23 w1) trodAll_mk0))) (fun _ _ => rfl) rfl
    (hg.frame _) hg.2.1 (ok_one (by kernel_rfl) rfl (okWide_bool_mk Try.underlying4 _))⟩

theorem arithFour_over : Rows.arithFourRow.holds Try.pinned (OpenSpec.ofChange Rows.arithFourSpec) :=
  OpenClaim.holds_of_wide 4 Try.f4 rfl rfl rfl rfl rfl rfl rfl ⟨rfl, rfl, rfl, rfl, rfl⟩ rfl rfl rfl rfl rfl (by kernel_rfl) Try.func4 (by kernel_rfl)
    (of_decide_eq_true (by kernel_rfl)) (by unfold Func.isWrapper; first | (rw [if_pos (by decide +kernel)]; kernel_rfl) | (rw [if_neg (by decide +kernel)]; exact ⟨rfl, rfl⟩))
    (fun os started H enc _ => arithFour_lifted os started H enc)

theorem arithFour_holds : Rows.ArithFourSaid :=
  arithFour_over
#print axioms arithFour_holds
end Go.Proofs.Ytgpkcclapkdndaa

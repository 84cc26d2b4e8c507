/- Of every two samples: sums, differences, products and quotients, rounded to binary64 and then to binary32, are those rounded once; no condition. -/
import Derived.Test.YtpoilgiplhogjaaRows
import Derived.WalkKit
import Derived.ProofKit
import Derived.OpenShut
import Derived.Test.YtpoilgiplhogjaaG9cd8f6a4
import Derived.Test.YtpoilgiplhogjaaGe5985187
namespace Go.Proofs.Ytpoilgiplhogjaa
open Go.ChangeShapes Go.WideShapes Go.ChangeAt Go.RowKit
set_option linter.unusedVariables false

theorem arithDouble_own : ownKnob Try.prog.godebug = none := by kernel_rfl

set_option maxHeartbeats 4000000 in
theorem arithDouble_walk (a0 : Int) (a1 : Int) (w0 : (Lit.int .u32 a0).wf = true) (w1 : (Lit.int .u32 a1).wf = true) (w : World) :
    Calls Try.prog 3 #[.int .u32 a0, .int .u32 a1] w fun e w' => e = .returned (.bool true) ∧ Grown w w' := by
  obtain ⟨x0, x1⟩ := bounds_u32 w0
  obtain ⟨y0, y1⟩ := bounds_u32 w1
  obtain ⟨a, rfl⟩ := Int.eq_ofNat_of_zero_le x0
  obtain ⟨b, rfl⟩ := Int.eq_ofNat_of_zero_le y0
  have ha : a < 4294967296 := by omega
  have hb : b < 4294967296 := by omega
  go_enter Try.func3, Try.ntmps3
  go_wp2_with fail
  refine (known_any _).mono ?_
  rintro e v1 ⟨rfl, qq⟩
  go_wp2_with fail
  refine (f64_any _).mono ?_
  rintro e v2 ⟨rfl, q⟩
  have qq := qq.trans q
  clear q
  go_wp2_with fail
  have FB : FBox (v2.alloc (Obj.cells #[Value.int IntKind.i64 52, Value.int IntKind.i64 11] 25)) v2.heap.size := ⟨by simp [go_sem], by simp [go_sem]⟩
  have Q3 : Q w (v2.alloc (Obj.cells #[Value.int IntKind.i64 52, Value.int IntKind.i64 11] 25)) := qq.cells _ _
  refine region4 rfl rfl (dbl_env4 ha hb rfl rfl rfl FB) ?_
  intro x V6 V7 v12 v13 v14 v15 v16 v17 v18 v19 q bX bY n67
  have HX : Hid (NBox x V6 (datumR (Ieee.double.read (wideW a)))) := bX
  have HY : Hid (NBox x V7 (datumR (Ieee.double.read (wideW b)))) := bY
  have HF : Hid (FBox x v2.heap.size) := FB.next q
  have HQ : Hid (Q w x) := Q3.trans q
  obtain ⟨k, s, p, L, C, e, m, ⟨c0, c1, c2, c3, c4⟩, hn⟩ := bY
  have HN : Hid (NumAt x (num5 k s p L C e m) (datumR (Ieee.double.read (wideW b)))) := hn
  clear FB Q3 q bX qq hn
  simp only [putAll, Act.put, ptrV]
  go_wp2_with fail
  obtain ⟨x2, hx2⟩ : ∃ x2, x.alloc (Obj.cells #[Value.int IntKind.i64 k, Value.bool !s, Value.slice p L C, Value.int IntKind.i64 e, Value.bool m] 30) = x2 := ⟨_, rfl⟩
  have Q4 : Q x x2 := by rw [← hx2]; exact (Q.refl x).cells _ _
  have BZ : NBox x2 x.heap.size (oppR (datumR (Ieee.double.read (wideW b)))) := ⟨k, !s, p, L, C, e, m, by rw [← hx2]; exact ⟨by simp [go_sem], by simp [go_sem], by simp [go_sem], by simp [go_sem], by simp [go_sem]⟩, opp_num (Q4.num HN.out)⟩
  rw [hx2]
  clear hx2 c0 c1 c2 c3 c4
  refine dbl_region7 rfl rfl ha hb rfl rfl rfl rfl rfl rfl (HF.out.next Q4) (HX.out.next Q4) (HY.out.next Q4) BZ ?_
  intro a9 x9 q9 sz df t4
  have HQ9 : Hid (Q w x9) := (HQ.out.trans Q4).trans q9
  clear q9 Q4 BZ
  go_wp2_with fail
  obtain ⟨tm, dd⟩ := a9
  have df : dd = [] := df
  subst df
  have t4 : tm[4]? = some (.bool true) := t4
  go_ret
  have t4' : tm.getD 4 undef = .bool true := by rw [Array.getD_eq_getD_getElem?, t4]; rfl
  exact ⟨congrArg Ending.returned t4', HQ9.out.grown⟩

set_option maxRecDepth 100000 in
theorem arithDouble_lifted (os : Os) (started : os.Started) (H : Type) (enc : TypeId × Value → H) :
    ReturnsInHanded {} Try.checked os 3 .any (Rows.arithDoubleSpec.pre6 enc Try.prog Try.f3 Rows.arithDoubleRow.domain false) (Rows.arithDoubleSpec.post enc Try.prog Try.f3 false true false false) := by
  refine returnsInHanded_of_change (C := Try.checked) arithDouble_own started (by kernel_rfl) Try.func3
    (ChangeSpec.witness6 (enc := enc) (C := Try.checked) false ⟨#[], #[.int .u32 0, .int .u32 0], []⟩ 8 (by kernel_rfl) (by kernel_rfl) (by kernel_rfl) (by kernel_rfl)) ?_
  intro W base args ds gs before hval0 hW hcnd _
  have hval : ∀ (j : Nat) t v, Try.f3.params[j]? = some t → args[j]? = some v → Value.okWide Try.prog W .any base t v := hval0
  have hW' := hW
  obtain ⟨p, q, hA0, hV, rfl, hfz, hnd⟩ := hW
  have hA : DataW.TrodAll enc Try.prog W 0 (fun _ => true) true Try.f3.params.toList args.toList ds p := hA0
  rw [Try.params3] at hA hval
  obtain ⟨v0, vs0, d0, ds0, p0, q0, hargs, rfl, rfl, h0, r0⟩ := trodAll_cons hA
  obtain ⟨v1, vs1, d1, ds1, p1, q1, rfl, rfl, rfl, h1, r1⟩ := trodAll_cons r0
  obtain ⟨rfl, rfl, rfl⟩ := trodAll_nil r1
  obtain rfl : args = #[v0, v1] := by cases args; simp_all
  obtain ⟨rfl, rfl⟩ := trodVars_none hV
  obtain ⟨a0, rfl, rfl, rfl, w0⟩ := open_int Try.underlying22 (hval 0 22 v0 rfl rfl) h0
  obtain ⟨a1, rfl, rfl, rfl, w1⟩ := open_int Try.underlying22 (hval 1 22 v1 rfl rfl) h1
  clear hA0 hval0
  simp only [List.append_nil] at hW'
  refine (arithDouble_walk a0 a1 w0 w1 W).mono fun e W' ⟨he, hg⟩ => ?_
  subst he
  exact ⟨_, rfl, post_of_same (pa := []) (pv := []) hW' (fun _ _ _ => (trodAll_cons_mk (shut_bool Try.underlying4 _) trodAll_mk0)) (fun sp _ => (trodAll_cons_mk (shut_int Try.underlying22 w0) (trodAll_cons_mk (shut_int Try.underlying22 w1) trodAll_mk0))) (fun _ _ => rfl) rfl
    (hg.frame _) hg.2.1 (ok_one (by kernel_rfl) rfl (okWide_bool_mk Try.underlying4 _))⟩

theorem arithDouble_over : Rows.arithDoubleRow.holds Try.pinned (OpenSpec.ofChange Rows.arithDoubleSpec) :=
  OpenClaim.holds_of_wide 3 Try.f3 rfl rfl rfl rfl rfl rfl rfl ⟨rfl, rfl, rfl, rfl, rfl⟩ rfl rfl rfl rfl rfl (by kernel_rfl) Try.func3 (by kernel_rfl)
    (of_decide_eq_true (by kernel_rfl)) (by unfold Func.isWrapper; first | (rw [if_pos (by decide +kernel)]; kernel_rfl) | (rw [if_neg (by decide +kernel)]; exact ⟨rfl, rfl⟩))
    (fun os started H enc _ => arithDouble_lifted os started H enc)

theorem arithDouble_holds : Rows.ArithDoubleSaid :=
  arithDouble_over
#print axioms arithDouble_holds
end Go.Proofs.Ytpoilgiplhogjaa

/- Of every sample the program's root and half are the document's; no condition. -/
import Derived.Test.YtgpkcclapkdndaaRows
import Derived.WalkKit
import Derived.ProofKit
import Derived.OpenShut
import Derived.Test.YtgpkcclapkdndaaKnown
import Derived.Test.YtgpkcclapkdndaaRootL
import Derived.Test.YtgpkcclapkdndaaSqrtR
import Derived.Test.YtgpkcclapkdndaaSidesL
import Derived.Test.YtgpkcclapkdndaaScaleL
namespace Go.Proofs.Ytgpkcclapkdndaa
open Go.ChangeShapes Go.WideShapes Go.ChangeAt Go.RowKit
set_option linter.unusedVariables false

theorem arithRoot_own : ownKnob Try.prog.godebug = none := by kernel_rfl

theorem root_same {n r : Nat} (h : RootTo n r 0) : IsRoot n r := ⟨h.lo, by have := h.hi; rw [Nat.pow_zero] at this; exact this⟩
theorem roundR_root {n r : Nat} (h : IsRoot n r) (x : Int) : roundR (.fin false r x (decide (r * r < n))) = Ieee.single.word false (rungOf Ieee.single (srV n r) (x - 1)) := by
  show Ieee.single.word false (rungOf Ieee.single (2 * r + (decide (r * r < n)).toNat) (x - 1)) = _
  unfold srV
  have := h.lo
  by_cases k : r * r = n
  · rw [if_pos k, decide_eq_false (by omega)]; rfl
  · rw [if_neg k, decide_eq_true (by omega)]; rfl
theorem root_told {a n r0 : Nat} {E : Int} (h0 : rung32 a ≠ 0) (h : rung32 a < 2139095040) (hs : sgn32 a = false)
    (hn : (n = mag32 (rung32 a) * 2 ^ 70 ∧ E = -149 + (plc32 (rung32 a) : Int) - 70 ∧ (-149 + (plc32 (rung32 a) : Int)) % 2 = 0) ∨ (n = mag32 (rung32 a) * 2 ^ 71 ∧ E = -149 + (plc32 (rung32 a) : Int) - 71 ∧ (-149 + (plc32 (rung32 a) : Int)) % 2 = 1))
    (hr : RootTo n r0 0) : roundR (.fin false r0 (E / 2) (decide (r0 * r0 < n))) = sqrtV a := by
  obtain ⟨n', r, A, k1, k2, k3, k4, k5, k6, k7, k8⟩ := sqrtV_fin h0 h hs
  have hR := root_same hr
  rw [roundR_root hR, k8]
  obtain ⟨B, j, hB, hE, hj, hj2⟩ : ∃ B j : Nat, n = mag32 (rung32 a) * 2 ^ B ∧ E = -149 + (plc32 (rung32 a) : Int) - B ∧ A = B + 2 * j ∧ j ≤ 19 := by
    rcases hn with ⟨e1, e2, e3⟩ | ⟨e1, e2, e3⟩
    · exact ⟨70, (A - 70) / 2, e1, e2, by omega, by omega⟩
    · exact ⟨71, (A - 71) / 2, e1, e2, by omega, by omega⟩
  have en : n' = n * 4 ^ j := by
    rw [k4, hB, hj, Nat.pow_add, ← Nat.mul_assoc, Nat.pow_mul]
  rw [en] at k1
  have hcut := root_cut k1
  have er := root_unique hR hcut
  have hbig : 2 ^ 24 ≤ r / 2 ^ j := by
    rw [Nat.le_div_iff_mul_le (Nat.two_pow_pos j), ← Nat.pow_add]
    exact Nat.le_trans (Nat.pow_le_pow_right (by decide) (by omega)) k2
  have hl := sr_link Ieee.single (E / 2) k1 hbig
  rw [er, ← hl, en]
  refine congrArg (Ieee.single.word false) ?_
  congr 1
  omega
set_option maxHeartbeats 1000000 in
theorem rsqrt_any (a : Nat) (ha : a < 4294967296) (w : World) : Calls Try.prog 21 #[.int .u32 a] w fun x w' => x = .returned (.int .u32 (sqrtV a : Nat)) ∧ Q w w' := by
  cases hn : nanN a
  · rcases cases32 hn with g | g
    · have en : numOf Ieee.single a = .fin (sgn32 a) (mag32 (rung32 a)) (-149 + (plc32 (rung32 a) : Int)) false := by
        rw [numOf_datum, read_fin32 g]; rfl
      have hp := plc_le32 g
      by_cases z : rung32 a = 0
      · refine (sqrt_odd a w ha (Or.inr (Or.inr ⟨sgn32 a, -149 + (plc32 (rung32 a) : Int), by rw [en, z]; rfl, by omega, by omega⟩))).mono ?_
        rintro x w' ⟨rfl, q⟩
        refine ⟨ret_int ?_, q⟩
        rw [en, z, sqrtV_zero z]
        show ((roundR (.fin (sgn32 a) 0 (-149 + (plc32 0 : Int)) false) : Nat) : Int) = _
        rw [roundR_fin, nearest_rung, rungOf_zero]
      · cases hs : sgn32 a
        · rw [hs] at en
          refine (sqrt_fin a (mag32 (rung32 a)) (-149 + (plc32 (rung32 a) : Int)) w ha (mag_lt32 _) (mag_ne32 z) (by omega) (by omega) en).mono ?_
          rintro x w' ⟨n, E, r, h1, h2, rfl, q⟩
          exact ⟨ret_int (by rw [root_told z g hs h1 h2]), q⟩
        · rw [hs] at en
          rw [sqrtV_none (Or.inr ⟨z, hs⟩)]
          exact sqrt_neg a (mag32 (rung32 a)) (-149 + (plc32 (rung32 a) : Int)) w ha (mag_ne32 z) en
    · have en : numOf Ieee.single a = .inf (sgn32 a) := by rw [numOf_datum, read_inf32 g]; rfl
      refine (sqrt_odd a w ha (Or.inr (Or.inl ⟨_, en⟩))).mono ?_
      rintro x w' ⟨rfl, q⟩
      refine ⟨ret_int ?_, q⟩
      rw [en]
      cases hs : sgn32 a
      · rw [sqrtV_pinf g hs]; rfl
      · rw [sqrtV_none (Or.inr ⟨by omega, hs⟩)]; rfl
  · have en : numOf Ieee.single a = .nan := by
      rw [numOf_datum]
      obtain ⟨s, t, e⟩ := isNaN_cases (read32_nan hn)
      rw [e]; rfl
    refine (sqrt_odd a w ha (Or.inl en)).mono ?_
    rintro x w' ⟨rfl, q⟩
    refine ⟨ret_int ?_, q⟩
    rw [en, sqrtV_none (Or.inl hn)]; rfl
set_option maxHeartbeats 4000000 in
theorem arithRoot_walk (a0 : Int) (w0 : (Lit.int .u32 a0).wf = true) (w : World) :
    Calls Try.prog 6 #[.int .u32 a0] w fun e w' => e = .returned (.bool true) ∧ Grown w w' := by
  obtain ⟨x0, x1⟩ := bounds_u32 w0
  obtain ⟨a, rfl⟩ := Int.eq_ofNat_of_zero_le x0
  have ha : a < 4294967296 := by omega
  have c1 := fun w => csqrt_any a w
  have r1 := fun w => rsqrt_any a ha w
  have c2 := fun w => chalf_any a w
  rw [half_link] at c2
  have r2 := fun w => rhalf_any a w ha
  rw [scaleR_link (-1) (-1) (Or.inl rfl)] at r2
  generalize sqrtV a = V1 at c1 r1
  generalize scaleV a (-1) = V2 at c2 r2
  go_enter Try.func6, Try.ntmps6
  go_wp2_with fail
  refine (known_any _).mono ?_
  rintro e v1 ⟨rfl, q1⟩
  go_wp2_with fail
  refine (c1 _).mono ?_
  rintro e v2 ⟨rfl, q2⟩
  go_wp2_with fail
  refine (r1 _).mono ?_
  rintro e v3 ⟨rfl, q3⟩
  go_wp2_with fail
  refine (c2 _).mono ?_
  rintro e v4 ⟨rfl, q4⟩
  go_wp2_with fail
  refine (r2 _).mono ?_
  rintro e v5 ⟨rfl, q5⟩
  go_wp2_with fail
  go_ret
  exact ⟨rfl, ((((q1.trans q2).trans q3).trans q4).trans q5).grown⟩

set_option maxRecDepth 100000 in
theorem arithRoot_lifted (os : Os) (started : os.Started) (H : Type) (enc : TypeId × Value → H) :
    ReturnsInHanded {} Try.checked os 6 .any (Rows.arithRootSpec.pre6 enc Try.prog Try.f6 Rows.arithRootRow.domain false) (Rows.arithRootSpec.post enc Try.prog Try.f6 false true false false) := by
  refine returnsInHanded_of_change (C := Try.checked) arithRoot_own started (by kernel_rfl) Try.func6
    (ChangeSpec.witness6 (enc := enc) (C := Try.checked) false ⟨#[], #[.int .u32 0], []⟩ 8 (by kernel_rfl) (by kernel_rfl) (by kernel_rfl) (by kernel_rfl)) ?_
  intro W base args ds gs before hval0 hW hcnd _
  have hval : ∀ (j : Nat) t v, Try.f6.params[j]? = some t → args[j]? = some v → Value.okWide Try.prog W .any base t v := hval0
  have hW' := hW
  obtain ⟨p, q, hA0, hV, rfl, hfz, hnd⟩ := hW
  have hA : DataW.TrodAll enc Try.prog W 0 (fun _ => true) true Try.f6.params.toList args.toList ds p := hA0
  rw [Try.params6] at hA hval
  obtain ⟨v0, vs0, d0, ds0, p0, q0, hargs, rfl, rfl, h0, r0⟩ := trodAll_cons hA
  obtain ⟨rfl, rfl, rfl⟩ := trodAll_nil r0
  obtain rfl : args = #[v0] := by cases args; simp_all
  obtain ⟨rfl, rfl⟩ := trodVars_none hV
  obtain ⟨a0, rfl, rfl, rfl, w0⟩ := open_int Try.underlying23 (hval 0 23 v0 rfl rfl) h0
  clear hA0 hval0
  simp only [List.append_nil] at hW'
  refine (arithRoot_walk a0 w0 W).mono fun e W' ⟨he, hg⟩ => ?_
  subst he
  exact ⟨_, rfl, post_of_same (pa := []) (pv := []) hW' (fun _ _ _ => (trodAll_cons_mk (shut_bool Try.underlying4 _) trodAll_mk0)) (fun sp _ => (trodAll_cons_mk (shut_int Try.underlying23 w0) trodAll_mk0)) (fun _ _ => rfl) rfl
    (hg.frame _) hg.2.1 (ok_one (by kernel_rfl) rfl (okWide_bool_mk Try.underlying4 _))⟩

theorem arithRoot_over : Rows.arithRootRow.holds Try.pinned (OpenSpec.ofChange Rows.arithRootSpec) :=
  OpenClaim.holds_of_wide 6 Try.f6 rfl rfl rfl rfl rfl rfl rfl ⟨rfl, rfl, rfl, rfl, rfl⟩ rfl rfl rfl rfl rfl (by kernel_rfl) Try.func6 (by kernel_rfl)
    (of_decide_eq_true (by kernel_rfl)) (by unfold Func.isWrapper; first | (rw [if_pos (by decide +kernel)]; kernel_rfl) | (rw [if_neg (by decide +kernel)]; exact ⟨rfl, rfl⟩))
    (fun os started H enc _ => arithRoot_lifted os started H enc)

theorem arithRoot_holds : Rows.ArithRootSaid :=
  arithRoot_over
#print axioms arithRoot_holds
end Go.Proofs.Ytgpkcclapkdndaa

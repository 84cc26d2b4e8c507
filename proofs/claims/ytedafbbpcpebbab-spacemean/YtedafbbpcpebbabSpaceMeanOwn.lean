/- Of every three finite samples the mean of ToYCC lies between the least and the greatest, by value, and Log of what is above 0 and finite lies from -127 to 128; the chapter's examples hold; no condition. -/
import Derived.Test.YtedafbbpcpebbabRows
import Derived.WalkKit
import Derived.ProofKit
import Derived.OpenShut
import Derived.Test.YtedafbbpcpebbabGa3bf4f91
namespace Go.Proofs.Ytedafbbpcpebbab
open Go.ChangeShapes Go.WideShapes Go.ChangeAt Go.RowKit
set_option linter.unusedVariables false

theorem spaceMean_own : ownKnob Try.prog.godebug = none := by kernel_rfl

def mn7 (x y : Int) : Int := if y < x then y else x
def mx7 (x y : Int) : Int := if x < y then y else x
theorem run_min3 {P : Program} (ts : Array TypeId) (t : TypeId) (x y z : Int) (w : World) : (Builtin.min_ ts t #[.int .i64 x, .int .i64 y, .int .i64 z]).run P w = .ok (.int .i64 (mn7 (mn7 x y) z)) w := by
  unfold mn7
  simp [Builtin.min_, Builtin.min2]
theorem run_max3 {P : Program} (ts : Array TypeId) (t : TypeId) (x y z : Int) (w : World) : (Builtin.max_ ts t #[.int .i64 x, .int .i64 y, .int .i64 z]).run P w = .ok (.int .i64 (mx7 (mx7 x y) z)) w := by
  unfold mx7
  simp [Builtin.max_, Builtin.max2]
theorem pick3 (P : Nat → Prop) (a b c : Nat) (ha : P a) (hb : P b) (hc : P c) : ∃ l h, P l ∧ P h ∧ srung32 l = mn7 (mn7 (srung32 a) (srung32 b)) (srung32 c) ∧ srung32 h = mx7 (mx7 (srung32 a) (srung32 b)) (srung32 c) := by
  have k1 : ∃ l, P l ∧ srung32 l = mn7 (srung32 a) (srung32 b) := by
    unfold mn7
    split
    · exact ⟨b, hb, rfl⟩
    · exact ⟨a, ha, rfl⟩
  have k2 : ∃ l, P l ∧ srung32 l = mx7 (srung32 a) (srung32 b) := by
    unfold mx7
    split
    · exact ⟨b, hb, rfl⟩
    · exact ⟨a, ha, rfl⟩
  obtain ⟨l, p1, e1⟩ := k1
  obtain ⟨h, p2, e2⟩ := k2
  rw [← e1, ← e2]
  have k3 : ∃ m, P m ∧ srung32 m = mn7 (srung32 l) (srung32 c) := by
    unfold mn7
    split
    · exact ⟨c, hc, rfl⟩
    · exact ⟨l, p1, rfl⟩
  have k4 : ∃ m, P m ∧ srung32 m = mx7 (srung32 h) (srung32 c) := by
    unfold mx7
    split
    · exact ⟨c, hc, rfl⟩
    · exact ⟨h, p2, rfl⟩
  obtain ⟨m, p3, e3⟩ := k3
  obtain ⟨n, p4, e4⟩ := k4
  exact ⟨m, n, p3, p4, e3, e4⟩
theorem mn7_le (x y z : Int) : mn7 (mn7 x y) z ≤ x ∧ mn7 (mn7 x y) z ≤ y ∧ mn7 (mn7 x y) z ≤ z := by unfold mn7; repeat' split <;> omega
theorem mx7_ge (x y z : Int) : x ≤ mx7 (mx7 x y) z ∧ y ≤ mx7 (mx7 x y) z ∧ z ≤ mx7 (mx7 x y) z := by unfold mx7; repeat' split <;> omega
theorem mean_all {a b c : Nat} (ha : rung32 a < 2139095040) (hb : rung32 b < 2139095040) (hc : rung32 c < 2139095040) :
    rung32 (ycc0 a b c) < 2139095040 ∧ mn7 (mn7 (srung32 a) (srung32 b)) (srung32 c) ≤ srung32 (ycc0 a b c) ∧ srung32 (ycc0 a b c) ≤ mx7 (mx7 (srung32 a) (srung32 b)) (srung32 c) := by
  obtain ⟨l, h, pl, ph, el, eh⟩ := pick3 (fun x => rung32 x < 2139095040) a b c ha hb hc
  obtain ⟨m1, m2, m3⟩ := mn7_le (srung32 a) (srung32 b) (srung32 c)
  obtain ⟨n1, n2, n3⟩ := mx7_ge (srung32 a) (srung32 b) (srung32 c)
  rw [← el] at m1 m2 m3 ⊢
  rw [← eh] at n1 n2 n3 ⊢
  obtain ⟨k1, k2, k3⟩ := mean_between ha hb hc pl ph m1 m2 m3 n1 n2 n3
  refine ⟨?_, k1, k2⟩
  have f1 := fin_srung pl
  have f2 := fin_srung ph
  have hs : srung32 (ycc0 a b c) = if sgn32 (ycc0 a b c) = true then -(rung32 (ycc0 a b c) : Int) else rung32 (ycc0 a b c) := rfl
  cases g : sgn32 (ycc0 a b c) <;> rw [g] at hs <;> simp at hs <;> omega
theorem log_fin {x : Nat} (h : x < 2139095040) : rung32 (logP x) < 2139095040 := by
  obtain ⟨k1, k2, k3⟩ := log_between h
  have hs : srung32 (logP x) = if sgn32 (logP x) = true then -(rung32 (logP x) : Int) else rung32 (logP x) := rfl
  cases g : sgn32 (logP x) <;> rw [g] at hs <;> simp at hs <;> omega
set_option maxHeartbeats 4000000 in
theorem spaceMean_walk (a0 : Int) (a1 : Int) (a2 : Int) (w0 : (Lit.int .u32 a0).wf = true) (w1 : (Lit.int .u32 a1).wf = true) (w2 : (Lit.int .u32 a2).wf = true) (w : World) :
    Calls Try.prog 6 #[.int .u32 a0, .int .u32 a1, .int .u32 a2] w fun e w' => e = .returned (.bool true) ∧ Grown w w' := by
  obtain ⟨x0, x1⟩ := bounds_u32 w0
  obtain ⟨y0, y1⟩ := bounds_u32 w1
  obtain ⟨z0, z1⟩ := bounds_u32 w2
  obtain ⟨a, rfl⟩ := Int.eq_ofNat_of_zero_le x0
  obtain ⟨b, rfl⟩ := Int.eq_ofNat_of_zero_le y0
  obtain ⟨c, rfl⟩ := Int.eq_ofNat_of_zero_le z0
  have ha : a < 4294967296 := by omega
  have hb : b < 4294967296 := by omega
  have hc : c < 4294967296 := by omega
  have fa := fun w => fin7_any a ha w
  have fb := fun w => fin7_any b hb w
  have fc := fun w => fin7_any c hc w
  have ka := fun w => key7_any a ha w
  have kb := fun w => key7_any b hb w
  have kc := fun w => key7_any c hc w
  have ty := fun w => toycc_any a b c ha hb hc w
  unfold t3 at ty
  have fy := fun w => fin7_any _ (show ycc0 a b c < 4294967296 from narW_lt _) w
  have ky := fun w => key7_any _ (show ycc0 a b c < 4294967296 from narW_lt _) w
  have lg := fun w => log_any a ha w
  have fl := fun w => fin7_any _ (logV_lt a) w
  have kl := fun w => key7_any _ (logV_lt a) w
  have k1 := fun w => key7_any 3271426048 (by decide) w
  have k2 := fun w => key7_any 1124073472 (by decide) w
  rw [show srung32 3271426048 = -1123942400 from by decide] at k1
  rw [show srung32 1124073472 = 1124073472 from by decide] at k2
  have hmn := fun ts t w => run_min3 (P := Try.prog) ts t (srung32 a) (srung32 b) (srung32 c) w
  have hmx := fun ts t w => run_max3 (P := Try.prog) ts t (srung32 a) (srung32 b) (srung32 c) w
  have MA : Hid (rung32 a < 2139095040 → rung32 b < 2139095040 → rung32 c < 2139095040 → rung32 (ycc0 a b c) < 2139095040 ∧ mn7 (mn7 (srung32 a) (srung32 b)) (srung32 c) ≤ srung32 (ycc0 a b c) ∧ srung32 (ycc0 a b c) ≤ mx7 (mx7 (srung32 a) (srung32 b)) (srung32 c)) := mean_all
  have LG : Hid (a < 2139095040 → 0 < a → logV a = logP a ∧ rung32 (logV a) < 2139095040 ∧ -1123942400 ≤ srung32 (logV a) ∧ srung32 (logV a) ≤ 1124073472) := fun h h0 => by
    have nn : nanN a = false := by rw [nanN_rung]; exact decide_eq_false (by unfold rung32; omega)
    have sr := srung_small (x := a) (by omega)
    obtain ⟨e, _⟩ := logV_pos ha nn (by omega) (by omega)
    obtain ⟨l1, l2, _⟩ := log_between h
    rw [e]; exact ⟨rfl, log_fin h, l1, l2⟩
  have RA : Hid (a < 2139095040 → rung32 a < 2139095040) := fun h => by unfold rung32; omega
  generalize srung32 (ycc0 a b c) = SY at *
  generalize rung32 (ycc0 a b c) = RY at *
  generalize ycc0 a b c = Y0 at *
  generalize ycc1 a b c = Y1 at *
  generalize ycc2 a b c = Y2 at *
  generalize srung32 (logV a) = SL at *
  generalize rung32 (logV a) = RL at *
  generalize mn7 (mn7 (srung32 a) (srung32 b)) (srung32 c) = MN at *
  generalize mx7 (mx7 (srung32 a) (srung32 b)) (srung32 c) = MX at *
  generalize srung32 a = SA at *
  generalize srung32 b = SB at *
  generalize srung32 c = SC at *
  generalize rung32 a = FA at *
  generalize rung32 b = FB at *
  generalize rung32 c = FC at *
  by_cases h1 : a < 2139095040
  · have gA := RA.out h1
    have t1 : (a : Int) < 2139095040 := by omega
    by_cases h2 : 0 < a
    · have t2 : (0 : Int) < (a : Int) := by omega
      obtain ⟨eL, r1, r2, r3⟩ := LG.out h1 h2
      clear eL
      rw [decide_eq_true r1] at fl
      have r2' : decide (SL < -1123942400) = false := decide_eq_false (by omega)
      have r3' : decide (1124073472 < SL) = false := decide_eq_false (by omega)
      clear h1 h2 r1 r2 r3 x0 x1 y0 y1 z0 z1 ha hb hc
      rw [decide_eq_true gA] at fa
      by_cases gB : FB < 2139095040
      · rw [decide_eq_true gB] at fb
        by_cases gC : FC < 2139095040
        · rw [decide_eq_true gC] at fc
          obtain ⟨m1, m2, m3⟩ := MA.out gA gB gC
          rw [decide_eq_true m1] at fy
          clear gA gB gC m1 MA LG RA
          clear w0
          generalize logV a = LV at *
          generalize (a : Int) = A at *
          go_enter Try.func6, Try.ntmps6
          go_wp2_with fail
          refine (known7_any _).mono ?_
          rintro e v1 ⟨rfl, q1⟩
          go_wp2_with fail
          refine (lg _).mono ?_
          rintro e v2 ⟨rfl, q2⟩
          go_wp2_with fail
          refine (fl _).mono ?_
          rintro e v3 ⟨rfl, rfl⟩
          go_wp2_with fail
          refine (kl _).mono ?_
          rintro e v4 ⟨rfl, rfl⟩
          go_wp2_with fail
          refine (k1 _).mono ?_
          rintro e v5 ⟨rfl, rfl⟩
          go_wp2_with fail
          refine (kl _).mono ?_
          rintro e v6 ⟨rfl, rfl⟩
          go_wp2_with fail
          refine (k2 _).mono ?_
          rintro e v7 ⟨rfl, rfl⟩
          go_wp2_with fail
          refine (fa _).mono ?_
          rintro e v8 ⟨rfl, rfl⟩
          go_wp2_with fail
          refine (fb _).mono ?_
          rintro e v9 ⟨rfl, rfl⟩
          go_wp2_with fail
          refine (fc _).mono ?_
          rintro e v10 ⟨rfl, rfl⟩
          go_wp2_with fail
          refine (ty _).mono ?_
          rintro e v11 ⟨rfl, q11⟩
          go_wp2_with fail
          refine (fy _).mono ?_
          rintro e v12 ⟨rfl, rfl⟩
          go_wp2_with fail
          refine (ky _).mono ?_
          rintro e v13 ⟨rfl, rfl⟩
          go_wp2_with fail
          refine (ka _).mono ?_
          rintro e v14 ⟨rfl, rfl⟩
          go_wp2_with fail
          refine (kb _).mono ?_
          rintro e v15 ⟨rfl, rfl⟩
          go_wp2_with fail
          refine (kc _).mono ?_
          rintro e v16 ⟨rfl, rfl⟩
          go_wp2_with fail
          refine (ky _).mono ?_
          rintro e v17 ⟨rfl, rfl⟩
          go_wp2_with fail
          refine (ka _).mono ?_
          rintro e v18 ⟨rfl, rfl⟩
          go_wp2_with fail
          refine (kb _).mono ?_
          rintro e v19 ⟨rfl, rfl⟩
          go_wp2_with fail
          refine (kc _).mono ?_
          rintro e v20 ⟨rfl, rfl⟩
          go_wp2_with fail
          go_ret
          exact ⟨rfl, (((q1).trans q2).trans q11).grown⟩
        · rw [decide_eq_false gC] at fc
          clear gA gB gC MA LG RA
          clear w0
          generalize logV a = LV at *
          generalize (a : Int) = A at *
          go_enter Try.func6, Try.ntmps6
          go_wp2_with fail
          refine (known7_any _).mono ?_
          rintro e v1 ⟨rfl, q1⟩
          go_wp2_with fail
          refine (lg _).mono ?_
          rintro e v2 ⟨rfl, q2⟩
          go_wp2_with fail
          refine (fl _).mono ?_
          rintro e v3 ⟨rfl, rfl⟩
          go_wp2_with fail
          refine (kl _).mono ?_
          rintro e v4 ⟨rfl, rfl⟩
          go_wp2_with fail
          refine (k1 _).mono ?_
          rintro e v5 ⟨rfl, rfl⟩
          go_wp2_with fail
          refine (kl _).mono ?_
          rintro e v6 ⟨rfl, rfl⟩
          go_wp2_with fail
          refine (k2 _).mono ?_
          rintro e v7 ⟨rfl, rfl⟩
          go_wp2_with fail
          refine (fa _).mono ?_
          rintro e v8 ⟨rfl, rfl⟩
          go_wp2_with fail
          refine (fb _).mono ?_
          rintro e v9 ⟨rfl, rfl⟩
          go_wp2_with fail
          refine (fc _).mono ?_
          rintro e v10 ⟨rfl, rfl⟩
          go_wp2_with fail
          go_ret
          exact ⟨rfl, ((q1).trans q2).grown⟩
      · rw [decide_eq_false gB] at fb
        clear gA gB MA LG RA
        clear w0
        generalize logV a = LV at *
        generalize (a : Int) = A at *
        go_enter Try.func6, Try.ntmps6
        go_wp2_with fail
        refine (known7_any _).mono ?_
        rintro e v1 ⟨rfl, q1⟩
        go_wp2_with fail
        refine (lg _).mono ?_
        rintro e v2 ⟨rfl, q2⟩
        go_wp2_with fail
        refine (fl _).mono ?_
        rintro e v3 ⟨rfl, rfl⟩
        go_wp2_with fail
        refine (kl _).mono ?_
        rintro e v4 ⟨rfl, rfl⟩
        go_wp2_with fail
        refine (k1 _).mono ?_
        rintro e v5 ⟨rfl, rfl⟩
        go_wp2_with fail
        refine (kl _).mono ?_
        rintro e v6 ⟨rfl, rfl⟩
        go_wp2_with fail
        refine (k2 _).mono ?_
        rintro e v7 ⟨rfl, rfl⟩
        go_wp2_with fail
        refine (fa _).mono ?_
        rintro e v8 ⟨rfl, rfl⟩
        go_wp2_with fail
        refine (fb _).mono ?_
        rintro e v9 ⟨rfl, rfl⟩
        go_wp2_with fail
        go_ret
        exact ⟨rfl, ((q1).trans q2).grown⟩
    · have t2 : decide ((0 : Int) < (a : Int)) = false := decide_eq_false (by omega)
      clear h1 h2 x0 x1 y0 y1 z0 z1 ha hb hc
      rw [decide_eq_true gA] at fa
      by_cases gB : FB < 2139095040
      · rw [decide_eq_true gB] at fb
        by_cases gC : FC < 2139095040
        · rw [decide_eq_true gC] at fc
          obtain ⟨m1, m2, m3⟩ := MA.out gA gB gC
          rw [decide_eq_true m1] at fy
          clear gA gB gC m1 MA LG RA
          clear w0
          generalize logV a = LV at *
          generalize (a : Int) = A at *
          go_enter Try.func6, Try.ntmps6
          go_wp2_with fail
          refine (known7_any _).mono ?_
          rintro e v1 ⟨rfl, q1⟩
          go_wp2_with fail
          refine (fa _).mono ?_
          rintro e v2 ⟨rfl, rfl⟩
          go_wp2_with fail
          refine (fb _).mono ?_
          rintro e v3 ⟨rfl, rfl⟩
          go_wp2_with fail
          refine (fc _).mono ?_
          rintro e v4 ⟨rfl, rfl⟩
          go_wp2_with fail
          refine (ty _).mono ?_
          rintro e v5 ⟨rfl, q5⟩
          go_wp2_with fail
          refine (fy _).mono ?_
          rintro e v6 ⟨rfl, rfl⟩
          go_wp2_with fail
          refine (ky _).mono ?_
          rintro e v7 ⟨rfl, rfl⟩
          go_wp2_with fail
          refine (ka _).mono ?_
          rintro e v8 ⟨rfl, rfl⟩
          go_wp2_with fail
          refine (kb _).mono ?_
          rintro e v9 ⟨rfl, rfl⟩
          go_wp2_with fail
          refine (kc _).mono ?_
          rintro e v10 ⟨rfl, rfl⟩
          go_wp2_with fail
          refine (ky _).mono ?_
          rintro e v11 ⟨rfl, rfl⟩
          go_wp2_with fail
          refine (ka _).mono ?_
          rintro e v12 ⟨rfl, rfl⟩
          go_wp2_with fail
          refine (kb _).mono ?_
          rintro e v13 ⟨rfl, rfl⟩
          go_wp2_with fail
          refine (kc _).mono ?_
          rintro e v14 ⟨rfl, rfl⟩
          go_wp2_with fail
          go_ret
          exact ⟨rfl, ((q1).trans q5).grown⟩
        · rw [decide_eq_false gC] at fc
          clear gA gB gC MA LG RA
          clear w0
          generalize logV a = LV at *
          generalize (a : Int) = A at *
          go_enter Try.func6, Try.ntmps6
          go_wp2_with fail
          refine (known7_any _).mono ?_
          rintro e v1 ⟨rfl, q1⟩
          go_wp2_with fail
          refine (fa _).mono ?_
          rintro e v2 ⟨rfl, rfl⟩
          go_wp2_with fail
          refine (fb _).mono ?_
          rintro e v3 ⟨rfl, rfl⟩
          go_wp2_with fail
          refine (fc _).mono ?_
          rintro e v4 ⟨rfl, rfl⟩
          go_wp2_with fail
          go_ret
          exact ⟨rfl, (q1).grown⟩
      · rw [decide_eq_false gB] at fb
        clear gA gB MA LG RA
        clear w0
        generalize logV a = LV at *
        generalize (a : Int) = A at *
        go_enter Try.func6, Try.ntmps6
        go_wp2_with fail
        refine (known7_any _).mono ?_
        rintro e v1 ⟨rfl, q1⟩
        go_wp2_with fail
        refine (fa _).mono ?_
        rintro e v2 ⟨rfl, rfl⟩
        go_wp2_with fail
        refine (fb _).mono ?_
        rintro e v3 ⟨rfl, rfl⟩
        go_wp2_with fail
        go_ret
        exact ⟨rfl, (q1).grown⟩
  · have t1 : decide ((a : Int) < 2139095040) = false := decide_eq_false (by omega)
    clear h1 x0 x1 y0 y1 z0 z1 ha hb hc
    by_cases gA : FA < 2139095040
    · rw [decide_eq_true gA] at fa
      by_cases gB : FB < 2139095040
      · rw [decide_eq_true gB] at fb
        by_cases gC : FC < 2139095040
        · rw [decide_eq_true gC] at fc
          obtain ⟨m1, m2, m3⟩ := MA.out gA gB gC
          rw [decide_eq_true m1] at fy
          clear gA gB gC m1 MA LG RA
          clear w0
          generalize logV a = LV at *
          generalize (a : Int) = A at *
          go_enter Try.func6, Try.ntmps6
          go_wp2_with fail
          refine (known7_any _).mono ?_
          rintro e v1 ⟨rfl, q1⟩
          go_wp2_with fail
          refine (fa _).mono ?_
          rintro e v2 ⟨rfl, rfl⟩
          go_wp2_with fail
          refine (fb _).mono ?_
          rintro e v3 ⟨rfl, rfl⟩
          go_wp2_with fail
          refine (fc _).mono ?_
          rintro e v4 ⟨rfl, rfl⟩
          go_wp2_with fail
          refine (ty _).mono ?_
          rintro e v5 ⟨rfl, q5⟩
          go_wp2_with fail
          refine (fy _).mono ?_
          rintro e v6 ⟨rfl, rfl⟩
          go_wp2_with fail
          refine (ky _).mono ?_
          rintro e v7 ⟨rfl, rfl⟩
          go_wp2_with fail
          refine (ka _).mono ?_
          rintro e v8 ⟨rfl, rfl⟩
          go_wp2_with fail
          refine (kb _).mono ?_
          rintro e v9 ⟨rfl, rfl⟩
          go_wp2_with fail
          refine (kc _).mono ?_
          rintro e v10 ⟨rfl, rfl⟩
          go_wp2_with fail
          refine (ky _).mono ?_
          rintro e v11 ⟨rfl, rfl⟩
          go_wp2_with fail
          refine (ka _).mono ?_
          rintro e v12 ⟨rfl, rfl⟩
          go_wp2_with fail
          refine (kb _).mono ?_
          rintro e v13 ⟨rfl, rfl⟩
          go_wp2_with fail
          refine (kc _).mono ?_
          rintro e v14 ⟨rfl, rfl⟩
          go_wp2_with fail
          go_ret
          exact ⟨rfl, ((q1).trans q5).grown⟩
        · rw [decide_eq_false gC] at fc
          clear gA gB gC MA LG RA
          clear w0
          generalize logV a = LV at *
          generalize (a : Int) = A at *
          go_enter Try.func6, Try.ntmps6
          go_wp2_with fail
          refine (known7_any _).mono ?_
          rintro e v1 ⟨rfl, q1⟩
          go_wp2_with fail
          refine (fa _).mono ?_
          rintro e v2 ⟨rfl, rfl⟩
          go_wp2_with fail
          refine (fb _).mono ?_
          rintro e v3 ⟨rfl, rfl⟩
          go_wp2_with fail
          refine (fc _).mono ?_
          rintro e v4 ⟨rfl, rfl⟩
          go_wp2_with fail
          go_ret
          exact ⟨rfl, (q1).grown⟩
      · rw [decide_eq_false gB] at fb
        clear gA gB MA LG RA
        clear w0
        generalize logV a = LV at *
        generalize (a : Int) = A at *
        go_enter Try.func6, Try.ntmps6
        go_wp2_with fail
        refine (known7_any _).mono ?_
        rintro e v1 ⟨rfl, q1⟩
        go_wp2_with fail
        refine (fa _).mono ?_
        rintro e v2 ⟨rfl, rfl⟩
        go_wp2_with fail
        refine (fb _).mono ?_
        rintro e v3 ⟨rfl, rfl⟩
        go_wp2_with fail
        go_ret
        exact ⟨rfl, (q1).grown⟩
    · rw [decide_eq_false gA] at fa
      clear gA MA LG RA
      clear w0
      generalize logV a = LV at *
      generalize (a : Int) = A at *
      go_enter Try.func6, Try.ntmps6
      go_wp2_with fail
      refine (known7_any _).mono ?_
      rintro e v1 ⟨rfl, q1⟩
      go_wp2_with fail
      refine (fa _).mono ?_
      rintro e v2 ⟨rfl, rfl⟩
      go_wp2_with fail
      go_ret
      exact ⟨rfl, (q1).grown⟩

set_option maxRecDepth 100000 in
theorem spaceMean_lifted (os : Os) (started : os.Started) (H : Type) (enc : TypeId × Value → H) :
    ReturnsInHanded {} Try.checked os 6 .any (Rows.spaceMeanSpec.pre6 enc Try.prog Try.f6 Rows.spaceMeanRow.domain false) (Rows.spaceMeanSpec.post enc Try.prog Try.f6 false true false false) := by
  refine returnsInHanded_of_change (C := Try.checked) spaceMean_own started (by kernel_rfl) Try.func6
    (ChangeSpec.witness6 (enc := enc) (C := Try.checked) false ⟨#[], #[.int .u32 0, .int .u32 0, .int .u32 0], []⟩ 8 (by kernel_rfl) (by kernel_rfl) (by kernel_rfl) (by kernel_rfl)) ?_
  intro W base args ds gs before hval0 hW hcnd _
  have hval : ∀ (j : Nat) t v, Try.f6.params[j]? = some t → args[j]? = some v → Value.okWide Try.prog W .any base t v := hval0
  have hW' := hW
  obtain ⟨p, q, hA0, hV, rfl, hfz, hnd⟩ := hW
  have hA : DataW.TrodAll enc Try.prog W 0 (fun _ => true) true Try.f6.params.toList args.toList ds p := hA0
  rw [Try.params6] at hA hval
  obtain ⟨v0, vs0, d0, ds0, p0, q0, hargs, rfl, rfl, h0, r0⟩ := trodAll_cons hA
  obtain ⟨v1, vs1, d1, ds1, p1, q1, rfl, rfl, rfl, h1, r1⟩ := trodAll_cons r0
  obtain ⟨v2, vs2, d2, ds2, p2, q2, rfl, rfl, rfl, h2, r2⟩ := trodAll_cons r1
  obtain ⟨rfl, rfl, rfl⟩ := trodAll_nil r2
  obtain rfl : args = #[v0, v1, v2] := by cases args; simp_all
  obtain ⟨rfl, rfl⟩ := trodVars_none hV
  obtain ⟨a0, rfl, rfl, rfl, w0⟩ := open_int Try.underlying22 (hval 0 22 v0 rfl rfl) h0
  obtain ⟨a1, rfl, rfl, rfl, w1⟩ := open_int Try.underlying22 (hval 1 22 v1 rfl rfl) h1
  obtain ⟨a2, rfl, rfl, rfl, w2⟩ := open_int Try.underlying22 (hval 2 22 v2 rfl rfl) h2
  clear hA0 hval0
  simp only [List.append_nil] at hW'
  refine (spaceMean_walk a0 a1 a2 w0 w1 w2 W).mono fun e W' ⟨he, hg⟩ => ?_
  subst he
  exact ⟨_, rfl, post_of_same (pa := []) (pv := []) hW' (fun _ _ _ => (trodAll_cons_mk (shut_bool Try.underlying4 _) trodAll_mk0)) (fun sp _ => (trodAll_cons_mk (shut_int Try.underlying22 w0) (trodAll_cons_mk (shut_int Try.underlying22 w1) (trodAll_cons_mk (shut_int Try.underlying22 w2) trodAll_mk0)))) (fun _ _ => rfl) rfl
    (hg.frame _) hg.2.1 (ok_one (by kernel_rfl) rfl (okWide_bool_mk Try.underlying4 _))⟩

theorem spaceMean_over : Rows.spaceMeanRow.holds Try.pinned (OpenSpec.ofChange Rows.spaceMeanSpec) :=
  OpenClaim.holds_of_wide 6 Try.f6 rfl rfl rfl rfl rfl rfl rfl ⟨rfl, rfl, rfl, rfl, rfl⟩ rfl rfl rfl rfl rfl (by kernel_rfl) Try.func6 (by kernel_rfl)
    (of_decide_eq_true (by kernel_rfl)) (by unfold Func.isWrapper; first | (rw [if_pos (by decide +kernel)]; kernel_rfl) | (rw [if_neg (by decide +kernel)]; exact ⟨rfl, rfl⟩))
    (fun os started H enc _ => spaceMean_lifted os started H enc)

theorem spaceMean_holds : Rows.SpaceMeanSaid :=
  spaceMean_over
#print axioms spaceMean_holds
end Go.Proofs.Ytedafbbpcpebbab

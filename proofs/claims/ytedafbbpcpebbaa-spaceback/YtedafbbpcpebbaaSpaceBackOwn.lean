/- YCC there and back: for finite samples at most 2^100 in size, each comes back within 5 of 2^24 parts of the greatest of the three sizes and 2^-147; three alike come back alike, with no colour; no condition. -/
import Derived.Test.YtedafbbpcpebbaaRows
import Derived.WalkKit
import Derived.ProofKit
import Derived.OpenShut
import Derived.Test.YtedafbbpcpebbaaG2039cae3
import Derived.Test.YtedafbbpcpebbaaG76c6a4a2
import Derived.Test.YtedafbbpcpebbaaGa0c776ad
import Derived.Test.YtedafbbpcpebbaaGe4cd8341
namespace Go.Proofs.Ytedafbbpcpebbaa
open Go.ChangeShapes Go.WideShapes Go.ChangeAt Go.RowKit
set_option linter.unusedVariables false

theorem spaceBack_own : ownKnob Try.prog.godebug = none := by kernel_rfl

structure MS (w wx : World) (V M : Nat) : Prop where
  q : Q w wx
  m : MB wx V M
  f : ∀ j, wx.frozen? ⟨V, j, none⟩ = false
  v : w.heap.size ≤ V
theorem MS.next {w wx wy : World} {V M : Nat} (h : MS w wx V M) (q : Q wx wy) : MS w wy V M := ⟨h.q.trans q, h.m.next q, fun j => (q.2 _).trans (h.f j), h.v⟩
theorem Sm.form {w : World} {v : Value} {Z : Nat} (h : Sm w v Z) : ∃ p L C E N, v = num5 2 false p L C E false ∧ NumAt w (num5 2 false p L C E false) (.fin false N E false) ∧ N < 16777216 ∧ -149 ≤ E ∧ E ≤ 200 ∧ zm N E = Z := by
  obtain ⟨N, E, ⟨nv, rfl, p, bb, L, C, rfl, hI⟩, h⟩ := h
  exact ⟨p, L, C, E, N, rfl, ⟨_, rfl, p, bb, L, C, rfl, hI⟩, h⟩
theorem MS.make {w w1 : World} {v : Value} {Z : Nat} {p : Option Addr} {L C N : Nat} {E : Int} (q : Q w w1) (h : NumAt w1 (num5 2 false p L C E false) (.fin false N E false)) (h1 : N < 16777216) (h2 : -149 ≤ E) (h3 : E ≤ 200) (h4 : zm N E = Z) {ty : TypeId} : MS w (w1.alloc (.cells #[.int .i64 2, .bool false, .slice p L C, .int .i64 E, .bool false] ty)) w1.heap.size Z := by
  have q1 : Q w1 (w1.alloc (.cells #[.int .i64 2, .bool false, .slice p L C, .int .i64 E, .bool false] ty)) := (Q.refl w1).cells _ _
  refine ⟨q.trans q1, ⟨N, E, ⟨2, false, p, L, C, E, false, ⟨by simp [go_sem], by simp [go_sem], by simp [go_sem], by simp [go_sem], by simp [go_sem]⟩, q1.num h⟩, h1, h2, h3, h4⟩, fun j => ?_, q.1.size⟩
  rw [q1.2]
  exact (((Q.refl w1).cells _ _).2 _).symm.trans ((zero_box w1).2 j)
set_option linter.unusedSimpArgs false in
theorem MS.store {w x : World} {V M Z : Nat} (h : MS w x V M) {p : Option Addr} {L C N : Nat} {E : Int} (s1 : NumAt x (num5 2 false p L C E false) (.fin false N E false)) (h1 : N < 16777216) (h2 : -149 ≤ E) (h3 : E ≤ 200) (h4 : zm N E = Z) : MS w (((((x.setCell ⟨V, 0, none⟩ (.int .i64 2)).setCell ⟨V, 1, none⟩ (.bool false)).setCell ⟨V, 2, none⟩ (.slice p L C)).setCell ⟨V, 3, none⟩ (.int .i64 E)).setCell ⟨V, 4, none⟩ (.bool false)) V Z := by
  obtain ⟨N0, E0, ⟨k, s, p0, L0, C0, e0, m0, bx, _⟩, _⟩ := h.m
  obtain ⟨g1, g2⟩ := five_set bx 2 false p L C E false
  have n1 := g1 _ _ s1
  have q1 := g2 w h.q h.v
  obtain ⟨c0, c1, c2, c3, c4⟩ := bx
  refine ⟨q1, ⟨N, E, ⟨2, false, p, L, C, E, false, ⟨by simp [go_sem, c0, c1, c2, c3, c4], by simp [go_sem, c0, c1, c2, c3, c4], by simp [go_sem, c0, c1, c2, c3, c4], by simp [go_sem, c0, c1, c2, c3, c4], by simp [go_sem, c0, c1, c2, c3, c4]⟩, n1⟩, h1, h2, h3, h4⟩, fun j => ?_, h.v⟩
  simp only [World.frozen?_setCell]
  exact h.f j
theorem MB.form {w : World} {V M : Nat} (h : MB w V M) : ∃ N E p L C, Box5 w V 2 false p L C E false ∧ NumAt w (num5 2 false p L C E false) (.fin false N E false) ∧ N < 16777216 ∧ -149 ≤ E ∧ E ≤ 200 ∧ zm N E = M := by
  obtain ⟨N, E, ⟨k, s, p, L, C, e, m, bx, nv, hnv, hN⟩, h⟩ := h
  simp only [num5, Value.agg.injEq, Array.mk.injEq, List.cons.injEq, Value.int.injEq, Value.bool.injEq, true_and, and_true] at hnv
  obtain ⟨rfl, rfl, rfl, rfl, rfl⟩ := hnv
  exact ⟨N, e, p, L, C, bx, ⟨_, rfl, hN⟩, h⟩
theorem nb_make {w1 : World} {p : Option Addr} {L C N : Nat} {E : Int} (h : NumAt w1 (num5 2 false p L C E false) (.fin false N E false)) {ty : TypeId} : NBox (w1.alloc (.cells #[.int .i64 2, .bool false, .slice p L C, .int .i64 E, .bool false] ty)) w1.heap.size (.fin false N E false) ∧ (∀ j, (w1.alloc (.cells #[.int .i64 2, .bool false, .slice p L C, .int .i64 E, .bool false] ty)).frozen? ⟨w1.heap.size, j, none⟩ = false) ∧ Q w1 (w1.alloc (.cells #[.int .i64 2, .bool false, .slice p L C, .int .i64 E, .bool false] ty)) := by
  have q1 : Q w1 (w1.alloc (.cells #[.int .i64 2, .bool false, .slice p L C, .int .i64 E, .bool false] ty)) := (Q.refl w1).cells _ _
  refine ⟨⟨2, false, p, L, C, E, false, ⟨by simp [go_sem], by simp [go_sem], by simp [go_sem], by simp [go_sem], by simp [go_sem]⟩, q1.num h⟩, fun j => ?_, q1⟩
  rw [q1.2]
  exact (((Q.refl w1).cells _ _).2 _).symm.trans ((zero_box w1).2 j)
theorem same_back {u r : Nat} (hu : u < 4294967296) (hr : r < 4294967296) (fr : rung32 r < 2139095040) (h : srung32 u = srung32 r) (w : World) : Calls Try.prog 31 #[.int .u32 (u : Int), .int .u32 (r : Int)] w fun e w' => e = .returned (.bool true) ∧ Q w w' := by
  have e1 : rung32 u = rung32 r := by unfold srung32 at h; split at h <;> split at h <;> omega
  have n1 : nanN u = false := by rw [nanN_rung]; exact decide_eq_false (by rw [e1]; omega)
  have n2 : nanN r = false := by rw [nanN_rung]; exact decide_eq_false (by omega)
  have h1 := requal_any u r w hu hr
  rw [n1, n2, keyR_srung7 hu, keyR_srung7 hr, h] at h1
  simpa using h1
set_option maxHeartbeats 4000000 in
theorem spaceBack_walk (a0 : Int) (a1 : Int) (a2 : Int) (w0 : (Lit.int .u32 a0).wf = true) (w1 : (Lit.int .u32 a1).wf = true) (w2 : (Lit.int .u32 a2).wf = true) (w : World) :
    Calls Try.prog 8 #[.int .u32 a0, .int .u32 a1, .int .u32 a2] w fun e w' => e = .returned (.bool true) ∧ Grown w w' := by
  obtain ⟨x0, x1⟩ := bounds_u32 w0
  obtain ⟨y0, y1⟩ := bounds_u32 w1
  obtain ⟨z0, z1⟩ := bounds_u32 w2
  obtain ⟨r, rfl⟩ := Int.eq_ofNat_of_zero_le x0
  obtain ⟨g, rfl⟩ := Int.eq_ofNat_of_zero_le y0
  obtain ⟨b, rfl⟩ := Int.eq_ofNat_of_zero_le z0
  have HR : Hid (r < 4294967296) := by show r < 4294967296; omega
  have HG : Hid (g < 4294967296) := by show g < 4294967296; omega
  have HB : Hid (b < 4294967296) := by show b < 4294967296; omega
  have fr := fun w => fin7_any r HR.out w
  have fg := fun w => fin7_any g HG.out w
  have fb := fun w => fin7_any b HB.out w
  clear x0 x1 y0 y1 z0 z1 w0 w1 w2
  by_cases hr : rung32 r < 2139095040
  · by_cases hg : rung32 g < 2139095040
    · by_cases hb : rung32 b < 2139095040
      · rw [decide_eq_true hr] at fr
        rw [decide_eq_true hg] at fg
        rw [decide_eq_true hb] at fb
        have FR : Hid (rung32 r < 2139095040) := hr
        have FG : Hid (rung32 g < 2139095040) := hg
        have FB : Hid (rung32 b < 2139095040) := hb
        clear hr hg hb
        go_enter Try.func8, Try.ntmps8
        go_wp2_with fail
        refine (known7_any _).mono ?_
        rintro e v1 ⟨rfl, q1⟩
        go_wp2_with fail
        refine (fr _).mono ?_
        rintro e v2 ⟨rfl, rfl⟩
        go_wp2_with fail
        refine (fg _).mono ?_
        rintro e v3 ⟨rfl, rfl⟩
        go_wp2_with fail
        refine (fb _).mono ?_
        rintro e v4 ⟨rfl, rfl⟩
        go_wp2_with fail
        refine (size_num r HR.out FR.out _).mono ?_
        rintro e v5 ⟨u, rfl, hS, q5⟩
        obtain ⟨p, L, C, E, N, rfl, s1, s2, s3, s4, s5⟩ := hS.form
        have H6 : Hid (MS w (v5.alloc (.cells #[.int .i64 2, .bool false, .slice p L C, .int .i64 E, .bool false] 38)) v5.heap.size (sampleZ r).natAbs) := MS.make (v := .bool true) (q1.trans q5) s1 s2 s3 s4 s5
        clear hS s1 s2 s3 s4 s5 q1 q5 fr fg fb
        unfold num5
        go_upto_region 6 with fail
        generalize v5.alloc (.cells #[.int .i64 2, .bool false, .slice p L C, .int .i64 E, .bool false] 38) = v6 at H6 ⊢
        generalize v5.heap.size = V at H6 ⊢
        generalize Value.agg #[.int .i64 2, .bool false, .slice p L C, .int .i64 E, .bool false] = u31
        clear v5 p L C E N
        refine regionBa (V := V) (Z := (sampleZ r).natAbs) (A := g) rfl rfl ⟨rfl, rfl, H6.out.m.zb, HG.out, FG.out⟩ ?_
        intro v7 u32 u34 q7
        rw [normBa]
        replace H6 : Hid (MS w v7 V (sampleZ r).natAbs) := H6.out.next q7
        clear q7
        go_upto_if 35 with fail
        go_cut [37] from 35 to 37 (fun s37 wx => ∃ M, Hid (MS w wx V M ∧ (sampleZ r).natAbs ≤ M ∧ (sampleZ g).natAbs ≤ M))
        case first =>
          by_cases hc : (sampleZ r).natAbs ≤ (sampleZ g).natAbs
          · rw [decide_eq_true hc]
            have HC : Hid ((sampleZ r).natAbs ≤ (sampleZ g).natAbs) := hc
            clear hc
            go_wp2_with fail
            refine (size_num g HG.out FG.out _).mono ?_
            rintro e v8 ⟨u, rfl, hS, q8⟩
            replace H6 : Hid (MS w v8 V (sampleZ r).natAbs) := H6.out.next q8
            obtain ⟨p, L, C, E, N, rfl, s1, s2, s3, s4, s5⟩ := hS.form
            have H7 : Hid _ := H6.out.store s1 s2 s3 s4 s5
            have hf := H6.out.f
            obtain ⟨N0, E0, ⟨k, s, p0, L0, C0, e0, m0, ⟨c0, c1, c2, c3, c4⟩, _⟩, _⟩ := H6.out.m
            clear hS s1 s2 s3 s4 s5 q8 H6
            unfold num5
            go_wp2_with fail
            go_meet
            exact ⟨_, H7.out, HC.out, Nat.le_refl _⟩
          · rw [decide_eq_false hc]
            have HC : Hid (¬ (sampleZ r).natAbs ≤ (sampleZ g).natAbs) := hc
            clear hc
            go_wp2_with fail
            go_meet
            exact ⟨_, H6.out, Nat.le_refl _, Nat.le_of_lt (Nat.lt_of_not_le HC.out)⟩
        case rest =>
          obtain ⟨M, H8⟩ := hcut
          clear H6
          go_upto_region 8 with fail
          refine regionBb (V := V) (Z := M) (A := b) rfl rfl ⟨rfl, rfl, H8.out.1.m.zb, HB.out, FB.out⟩ ?_
          intro v9 u38 u40 q9
          rw [normBb]
          replace H8 : Hid (MS w v9 V M ∧ (sampleZ r).natAbs ≤ M ∧ (sampleZ g).natAbs ≤ M) := ⟨H8.out.1.next q9, H8.out.2⟩
          clear q9
          go_upto_if 41 with fail
          go_cut [43] from 41 to 43 (fun s43 wx => ∃ M, Hid (MS w wx V M ∧ (sampleZ r).natAbs ≤ M ∧ (sampleZ g).natAbs ≤ M ∧ (sampleZ b).natAbs ≤ M))
          case first =>
            by_cases hc : M ≤ (sampleZ b).natAbs
            · rw [decide_eq_true hc]
              have HC : Hid (M ≤ (sampleZ b).natAbs) := hc
              clear hc
              go_wp2_with fail
              refine (size_num b HB.out FB.out _).mono ?_
              rintro e v8 ⟨u, rfl, hS, q8⟩
              have H6 : Hid (MS w v8 V M) := H8.out.1.next q8
              obtain ⟨p, L, C, E, N, rfl, s1, s2, s3, s4, s5⟩ := hS.form
              have H7 : Hid _ := H6.out.store s1 s2 s3 s4 s5
              have hf := H6.out.f
              obtain ⟨N0, E0, ⟨k, s, p0, L0, C0, e0, m0, ⟨c0, c1, c2, c3, c4⟩, _⟩, _⟩ := H6.out.m
              clear hS s1 s2 s3 s4 s5 q8 H6
              unfold num5
              go_wp2_with fail
              go_meet
              exact ⟨_, H7.out, Nat.le_trans H8.out.2.1 HC.out, Nat.le_trans H8.out.2.2 HC.out, Nat.le_refl _⟩
            · rw [decide_eq_false hc]
              have HC : Hid (¬ M ≤ (sampleZ b).natAbs) := hc
              clear hc
              go_wp2_with fail
              go_meet
              exact ⟨_, H8.out.1, H8.out.2.1, H8.out.2.2, Nat.le_of_lt (Nat.lt_of_not_le HC.out)⟩
          case rest =>
            clear M H8
            obtain ⟨M, H9⟩ := hcut
            go_upto_region 10 with fail
            refine regionBc (V := V) (Z := M) rfl rfl ⟨rfl, H9.out.1.m.zb⟩ ?_
            intro v10 u44 u45 q10
            rw [normBc]
            replace H9 : Hid (MS w v10 V M ∧ (sampleZ r).natAbs ≤ M ∧ (sampleZ g).natAbs ≤ M ∧ (sampleZ b).natAbs ≤ M) := ⟨H9.out.1.next q10, H9.out.2⟩
            clear q10
            by_cases hM : M ≤ zm 1 100
            · rw [decide_eq_true hM]
              have HM : Hid (M ≤ zm 1 100) := hM
              clear hM
              obtain ⟨N, E, p, L, C, ⟨c0, c1, c2, c3, c4⟩, nm, n1, n2, n3, n4⟩ := H9.out.1.m.form
              obtain ⟨nb, fz, q11⟩ := nb_make (ty := 38) nm
              have Q11 : Hid (Q w _) := H9.out.1.q.trans q11
              have NB : Hid _ := nb
              have FZ : Hid _ := fz
              have LE : Hid (w.heap.size ≤ v10.heap.size) := H9.out.1.q.1.size
              have NN : Hid (N < 16777216 ∧ -149 ≤ E ∧ E ≤ 200 ∧ zm N E = M) := ⟨n1, n2, n3, n4⟩
              clear nb fz q11 nm n1 n2 n3 n4
              rw [show (!true) = false from rfl]
              set_option maxRecDepth 100000 in go_upto_region 13 with fail
              clear c0 c1 c2 c3 c4
              generalize v10.alloc (.cells #[.int .i64 2, .bool false, .slice p L C, .int .i64 E, .bool false] 38) = v11 at NB FZ Q11 ⊢
              generalize v10.heap.size = VB at NB FZ LE ⊢
              refine regionBf (b := VB) (mg := N) (e := E) rfl rfl rfl (by have := NN.out; omega) (by have := NN.out; omega) (lt_cap (k := 24) NN.out.1 (by decide)) NB.out FZ.out ?_
              intro v12 a0 a1 a2 a3 a4 a5 a6 a8 q12 nb12 fz12
              rw [normBf]
              replace Q11 : Hid (Q w v12) := q12 w Q11.out LE.out
              clear q12 NB FZ
              go_upto_region 14 with fail
              refine regionBe (V := VB) (n := N * 5) (e := E - 24) rfl rfl ⟨rfl, nb12, ⟨Nat.le_trans (blen_le (k := 27) (by have := NN.out; omega)) (by decide), by have := NN.out; omega, by have := NN.out; omega⟩, fz12⟩ ?_
              intro v13 v14 b0 b1 b2 q13 q14 nb14
              rw [normBe]
              have Q14 : Hid (Q w v14) := q14 w (Q11.out.trans q13) LE.out
              have ZZ : Hid (ZB v14 VB (zm (N * 5) (E - 24) + zm 1 (-147))) := bound_zb NN.out.1 NN.out.2.1 NN.out.2.2.1 nb14
              have BK : Hid _ := back_bound FR.out FG.out FB.out H9.out.2.1 H9.out.2.2.1 H9.out.2.2.2 HM.out NN.out.2.1 NN.out.2.2.2 rfl
              clear q13 q14 nb14 nb12 fz12 Q11
              have l0 : ycc0 r g b < 4294967296 := toldD_lt _
              have l1 : ycc1 r g b < 4294967296 := toldD_lt _
              have l2 : ycc2 r g b < 4294967296 := toldD_lt _
              have g0 : rgb0 (ycc0 r g b) (ycc1 r g b) (ycc2 r g b) < 4294967296 := toldD_lt _
              have g1 : rgb1 (ycc0 r g b) (ycc1 r g b) (ycc2 r g b) < 4294967296 := toldD_lt _
              have g2 : rgb2 (ycc0 r g b) (ycc1 r g b) (ycc2 r g b) < 4294967296 := toldD_lt _
              have y1 := fun w => toycc_any r g b HR.out HG.out HB.out w
              have y2 := fun w => fromycc_any _ _ _ l0 l1 l2 w
              have y3 := fun w => toycc_any r r r HR.out HR.out HR.out w
              have y4 := fun w => fromycc_any r 0 0 HR.out (by decide) (by decide) w
              obtain ⟨k1, k2, k3⟩ := alike HR.out FR.out
              rw [k1, k2, k3] at y3
              clear k1 k2 k3
              obtain ⟨k1, k2, k3⟩ := alike_back FR.out
              have m0 : rgb0 r 0 0 < 4294967296 := toldD_lt _
              have m1 : rgb1 r 0 0 < 4294967296 := toldD_lt _
              have m2 : rgb2 r 0 0 < 4294967296 := toldD_lt _
              have z0 := same_back m0 HR.out FR.out k1
              have z1 := same_back m1 HR.out FR.out k2
              have z2 := same_back m2 HR.out FR.out k3
              unfold t3 at y1 y2 y3 y4
              clear m0 m1 m2 k1 k2 k3 l0 l1 l2
              have GG : Hid _ := And.intro g0 (And.intro g1 g2)
              clear g0 g1 g2
              generalize rgb0 (ycc0 r g b) (ycc1 r g b) (ycc2 r g b) = G0 at *
              generalize rgb1 (ycc0 r g b) (ycc1 r g b) (ycc2 r g b) = G1 at *
              generalize rgb2 (ycc0 r g b) (ycc1 r g b) (ycc2 r g b) = G2 at *
              generalize ycc0 r g b = Y0 at *
              generalize ycc1 r g b = Y1 at *
              generalize ycc2 r g b = Y2 at *
              generalize rgb0 r 0 0 = K0 at *
              generalize rgb1 r 0 0 = K1 at *
              generalize rgb2 r 0 0 = K2 at *
              go_wp2_with fail
              refine (y1 _).mono ?_
              rintro e v15 ⟨rfl, q15⟩
              go_wp2_with fail
              refine (y2 _).mono ?_
              rintro e v16 ⟨rfl, q16⟩
              set_option maxRecDepth 100000 in go_upto_region 17 with fail
              refine regionBd (VB := VB) (X := r) (Y := g) (Z := b) (U := G0) (V := G1) (W := G2) rfl rfl ⟨rfl, rfl, rfl, rfl, rfl, rfl, rfl, (ZZ.out.next q15).next q16, HR.out, HG.out, HB.out, GG.out.1, GG.out.2.1, GG.out.2.2, FR.out, FG.out, FB.out, BK.out.1.1, BK.out.2.1.1, BK.out.2.2.1, BK.out.1.2, BK.out.2.1.2, BK.out.2.2.2⟩ ?_
              intro v17 d1 d2 d3 d4 d5 d6 q17
              rw [normBd]
              have Q17 : Hid (Q w v17) := ((Q14.out.trans q15).trans q16).trans q17
              clear q15 q16 q17
              go_wp2_with fail
              refine (y3 _).mono ?_
              rintro e v18 ⟨rfl, q18⟩
              go_wp2_with fail
              refine (y4 _).mono ?_
              rintro e v19 ⟨rfl, q19⟩
              go_wp2_with fail
              refine (z0 _).mono ?_
              rintro e v20 ⟨rfl, q20⟩
              go_wp2_with fail
              refine (z1 _).mono ?_
              rintro e v21 ⟨rfl, q21⟩
              go_wp2_with fail
              refine (z2 _).mono ?_
              rintro e v22 ⟨rfl, q22⟩
              go_wp2_with fail
              go_ret
              exact ⟨rfl, (((((Q17.out.trans q18).trans q19).trans q20).trans q21).trans q22).grown⟩
            · rw [decide_eq_false hM]
              have Q10 : Hid (Q w v10) := H9.out.1.q
              clear hM
              go_wp2_with fail
              go_ret
              exact ⟨rfl, Q10.out.grown⟩
      · rw [decide_eq_true hr] at fr
        rw [decide_eq_true hg] at fg
        rw [decide_eq_false hb] at fb
        clear hr hg hb
        go_enter Try.func8, Try.ntmps8
        go_wp2_with fail
        refine (known7_any _).mono ?_
        rintro e v1 ⟨rfl, q1⟩
        go_wp2_with fail
        refine (fr _).mono ?_
        rintro e v2 ⟨rfl, rfl⟩
        go_wp2_with fail
        refine (fg _).mono ?_
        rintro e v3 ⟨rfl, rfl⟩
        go_wp2_with fail
        refine (fb _).mono ?_
        rintro e v4 ⟨rfl, rfl⟩
        go_wp2_with fail
        go_ret
        exact ⟨rfl, q1.grown⟩
    · rw [decide_eq_true hr] at fr
      rw [decide_eq_false hg] at fg
      clear hr hg
      go_enter Try.func8, Try.ntmps8
      go_wp2_with fail
      refine (known7_any _).mono ?_
      rintro e v1 ⟨rfl, q1⟩
      go_wp2_with fail
      refine (fr _).mono ?_
      rintro e v2 ⟨rfl, rfl⟩
      go_wp2_with fail
      refine (fg _).mono ?_
      rintro e v3 ⟨rfl, rfl⟩
      go_wp2_with fail
      go_ret
      exact ⟨rfl, q1.grown⟩
  · rw [decide_eq_false hr] at fr
    clear hr
    go_enter Try.func8, Try.ntmps8
    go_wp2_with fail
    refine (known7_any _).mono ?_
    rintro e v1 ⟨rfl, q1⟩
    go_wp2_with fail
    refine (fr _).mono ?_
    rintro e v2 ⟨rfl, rfl⟩
    go_wp2_with fail
    go_ret
    exact ⟨rfl, q1.grown⟩

set_option maxRecDepth 100000 in
theorem spaceBack_lifted (os : Os) (started : os.Started) (H : Type) (enc : TypeId × Value → H) :
    ReturnsInHanded {} Try.checked os 8 .any (Rows.spaceBackSpec.pre6 enc Try.prog Try.f8 Rows.spaceBackRow.domain false) (Rows.spaceBackSpec.post enc Try.prog Try.f8 false true false false) := by
  refine returnsInHanded_of_change (C := Try.checked) spaceBack_own started (by kernel_rfl) Try.func8
    (ChangeSpec.witness6 (enc := enc) (C := Try.checked) false ⟨#[], #[.int .u32 0, .int .u32 0, .int .u32 0], []⟩ 8 (by kernel_rfl) (by kernel_rfl) (by kernel_rfl) (by kernel_rfl)) ?_
  intro W base args ds gs before hval0 hW hcnd _
  have hval : ∀ (j : Nat) t v, Try.f8.params[j]? = some t → args[j]? = some v → Value.okWide Try.prog W .any base t v := hval0
  have hW' := hW
  obtain ⟨p, q, hA0, hV, rfl, hfz, hnd⟩ := hW
  have hA : DataW.TrodAll enc Try.prog W 0 (fun _ => true) true Try.f8.params.toList args.toList ds p := hA0
  rw [Try.params8] at hA hval
  obtain ⟨v0, vs0, d0, ds0, p0, q0, hargs, rfl, rfl, h0, r0⟩ := trodAll_cons hA
  obtain ⟨v1, vs1, d1, ds1, p1, q1, rfl, rfl, rfl, h1, r1⟩ := trodAll_cons r0
  obtain ⟨v2, vs2, d2, ds2, p2, q2, rfl, rfl, rfl, h2, r2⟩ := trodAll_cons r1
  obtain ⟨rfl, rfl, rfl⟩ := trodAll_nil r2
  obtain rfl : args = #[v0, v1, v2] := by cases args; simp_all
  obtain ⟨rfl, rfl⟩ := trodVars_none hV
  obtain ⟨a0, rfl, rfl, rfl, w0⟩ := open_int Try.underlying23 (hval 0 23 v0 rfl rfl) h0
  obtain ⟨a1, rfl, rfl, rfl, w1⟩ := open_int Try.underlying23 (hval 1 23 v1 rfl rfl) h1
  obtain ⟨a2, rfl, rfl, rfl, w2⟩ := open_int Try.underlying23 (hval 2 23 v2 rfl rfl) h2
  clear hA0 hval0
  simp only [List.append_nil] at hW'
  refine (spaceBack_walk a0 a1 a2 w0 w1 w2 W).mono fun e W' ⟨he, hg⟩ => ?_
  subst he
  exact ⟨_, rfl, post_of_same (pa := []) (pv := []) hW' (fun _ _ _ => (trodAll_cons_mk (shut_bool Try.underlying4 _) trodAll_mk0)) (fun sp _ => (trodAll_cons_mk (shut_int Try.underlying23 w0) (trodAll_cons_mk (shut_int Try.underlying23 w1) (trodAll_cons_mk (shut_int Try.underlying23 w2) trodAll_mk0)))) (fun _ _ => rfl) rfl
    (hg.frame _) hg.2.1 (ok_one (by kernel_rfl) rfl (okWide_bool_mk Try.underlying4 _))⟩

theorem spaceBack_over : Rows.spaceBackRow.holds Try.pinned (OpenSpec.ofChange Rows.spaceBackSpec) :=
  OpenClaim.holds_of_wide 8 Try.f8 rfl rfl rfl rfl rfl rfl rfl ⟨rfl, rfl, rfl, rfl, rfl⟩ rfl rfl rfl rfl rfl (by kernel_rfl) Try.func8 (by kernel_rfl)
    (of_decide_eq_true (by kernel_rfl)) (by unfold Func.isWrapper; first | (rw [if_pos (by decide +kernel)]; kernel_rfl) | (rw [if_neg (by decide +kernel)]; exact ⟨rfl, rfl⟩))
    (fun os started H enc _ => spaceBack_lifted os started H enc)

theorem spaceBack_holds : Rows.SpaceBackSaid :=
  spaceBack_over
#print axioms spaceBack_holds
end Go.Proofs.Ytedafbbpcpebbaa

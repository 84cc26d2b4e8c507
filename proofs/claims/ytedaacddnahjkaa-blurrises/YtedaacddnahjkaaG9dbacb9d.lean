/- The statement BlurRises: its walk. -/
import Derived.Test.YtedaacddnahjkaaG5ef3ba5c
namespace Go.Proofs.Ytedaacddnahjkaa
open Go.RowKit
set_option linter.unusedVariables false
set_option linter.unusedSimpArgs false

theorem normBq6 {t0 t1 t2 t3 t4 t5 t6 t7 t8 t9 t10 t11 t12 t13 t14 t15 t16 t17 t18 t19 t20 t21 t22 t23 t24 t25 t26 t27 t28 t29 t30 t31 t32 t33 t34 t35 t36 t37 t38 t39 t40 t41 t42 t43 t44 t45 t46 t47 t48 t49 t50 t51 t52 t53 t54 t55 t56 t57 t58 t59 t60 t61 t62 t63 t64 t65 t66 t67 t68 t69 t70 t71 t72 t73 t74 t75 t76 t77 t78 t79 t80 t81 t82 t83 t84 t85 t86 t87 t88 t89 t90 t91 t92 t93 t94 t95 t96 t97 t98 t99 t100 t101 t102 t103 t104 t105 t106 t107 t108 t109 t110 t111 t112 t113 t114 t115 t116 t117 t118 t119 t120 t121 t122 t123 t124 t125 t126 t127 t128 t129 t130 t131 t132 t133 t134 t135 t136 t137 t138 t139 t140 t141 t142 t143 t144 t145 t146 t147 t148 t149 t150 t151 t152 t153 t154 t155 t156 t157 t158 t159 t160 t161 t162 t163 t164 t165 t166 t167 t168 t169 t170 t171 t172 t173 t174 t175 t176 t177 t178 t179 t180 t181 t182 t183 t184 t185 t186 t187 t188 t189 t190 t191 t192 t193 t194 t195 t196 t197 t198 t199 t200 t201 t202 t203 t204 t205 t206 v54 v55 v56 v57 v58 v59 v60 v61 v62 v63 v13 v14 : Value} {d : List Deferred} : putAll ⟨#[t0, t1, t2, t3, t4, t5, t6, t7, t8, t9, t10, t11, t12, t13, t14, t15, t16, t17, t18, t19, t20, t21, t22, t23, t24, t25, t26, t27, t28, t29, t30, t31, t32, t33, t34, t35, t36, t37, t38, t39, t40, t41, t42, t43, t44, t45, t46, t47, t48, t49, t50, t51, t52, t53, t54, t55, t56, t57, t58, t59, t60, t61, t62, t63, t64, t65, t66, t67, t68, t69, t70, t71, t72, t73, t74, t75, t76, t77, t78, t79, t80, t81, t82, t83, t84, t85, t86, t87, t88, t89, t90, t91, t92, t93, t94, t95, t96, t97, t98, t99, t100, t101, t102, t103, t104, t105, t106, t107, t108, t109, t110, t111, t112, t113, t114, t115, t116, t117, t118, t119, t120, t121, t122, t123, t124, t125, t126, t127, t128, t129, t130, t131, t132, t133, t134, t135, t136, t137, t138, t139, t140, t141, t142, t143, t144, t145, t146, t147, t148, t149, t150, t151, t152, t153, t154, t155, t156, t157, t158, t159, t160, t161, t162, t163, t164, t165, t166, t167, t168, t169, t170, t171, t172, t173, t174, t175, t176, t177, t178, t179, t180, t181, t182, t183, t184, t185, t186, t187, t188, t189, t190, t191, t192, t193, t194, t195, t196, t197, t198, t199, t200, t201, t202, t203, t204, t205, t206], d⟩ [(54, v54), (55, v55), (56, v56), (57, v57), (58, v58), (59, v59), (60, v60), (61, v61), (62, v62), (63, v63), (13, v13), (14, v14)] = ⟨#[t0, t1, t2, t3, t4, t5, t6, t7, t8, t9, t10, t11, t12, v13, v14, t15, t16, t17, t18, t19, t20, t21, t22, t23, t24, t25, t26, t27, t28, t29, t30, t31, t32, t33, t34, t35, t36, t37, t38, t39, t40, t41, t42, t43, t44, t45, t46, t47, t48, t49, t50, t51, t52, t53, v54, v55, v56, v57, v58, v59, v60, v61, v62, v63, t64, t65, t66, t67, t68, t69, t70, t71, t72, t73, t74, t75, t76, t77, t78, t79, t80, t81, t82, t83, t84, t85, t86, t87, t88, t89, t90, t91, t92, t93, t94, t95, t96, t97, t98, t99, t100, t101, t102, t103, t104, t105, t106, t107, t108, t109, t110, t111, t112, t113, t114, t115, t116, t117, t118, t119, t120, t121, t122, t123, t124, t125, t126, t127, t128, t129, t130, t131, t132, t133, t134, t135, t136, t137, t138, t139, t140, t141, t142, t143, t144, t145, t146, t147, t148, t149, t150, t151, t152, t153, t154, t155, t156, t157, t158, t159, t160, t161, t162, t163, t164, t165, t166, t167, t168, t169, t170, t171, t172, t173, t174, t175, t176, t177, t178, t179, t180, t181, t182, t183, t184, t185, t186, t187, t188, t189, t190, t191, t192, t193, t194, t195, t196, t197, t198, t199, t200, t201, t202, t203, t204, t205, t206], d⟩ := by
  kernel_rfl
set_option maxHeartbeats 8000000 in
set_option maxRecDepth 100000 in
theorem brise_walk (W0 : World) (pw ph qw qh kind r bd : Int) (sv ov : Value) (S O : List Nat) (us : USl W0 sv S) (uo : USl W0 ov O) (hb : ∀ i, S.getD i 0 < 4294967296) (ho : ∀ i, O.getD i 0 < 4294967296) :
    Calls Try.prog 6 #[.agg #[.int .i64 pw, .int .i64 ph, sv], .agg #[.int .i64 qw, .int .i64 qh, ov], .int .i64 kind, .int .i64 r, .int .i64 bd] W0 fun e w' => e = .returned (.bool true) ∧ Q W0 w' := by
  obtain ⟨ad, c, rfl⟩ := us.form
  obtain ⟨ao, co, rfl⟩ := uo.form
  obtain ⟨n, hn⟩ : ∃ n, S.length = n := ⟨_, rfl⟩
  obtain ⟨m, hm⟩ : ∃ m, O.length = m := ⟨_, rfl⟩
  have HU : Hid (USl W0 (.slice ad n c) S) := by rw [hn] at us; exact us
  have HO : Hid (USl W0 (.slice ao m co) O) := by rw [hm] at uo; exact uo
  have HN : Hid (S.length = n) := hn
  have HM : Hid (O.length = m) := hm
  have HB : Hid (∀ i, S.getD i 0 < 4294967296) := hb
  have HBO : Hid (∀ i, O.getD i 0 < 4294967296) := ho
  rw [hn, hm]
  clear us uo hn hm hb ho
  obtain ⟨w1, hw1⟩ : ∃ w1, (W0.alloc (.cells #[.int .i64 pw, .int .i64 ph, .slice ad n c] 43)).alloc (.cells #[.int .i64 qw, .int .i64 qh, .slice ao m co] 43) = w1 := ⟨_, rfl⟩
  have HP1 : Hid (Pbb W0 w1 W0.heap.size pw ph (.slice ad n c) ∧ Pbb W0 w1 (W0.heap.size + 1) qw qh (.slice ao m co)) := by
    have q : Q W0 w1 := by rw [← hw1]; exact ((Q.refl W0).cells _ _).cells _ _
    refine ⟨⟨?_, ?_, ?_, q⟩, ⟨?_, ?_, ?_, q⟩⟩ <;> rw [← hw1] <;> simp [go_sem]
  have C0 := known11_any w1
  have CR : Hid (∀ w : World, Calls Try.prog 22 #[.agg #[.int .i64 pw, .int .i64 ph, .slice ad n c], .int .i64 kind, .int .i64 r, .int .i64 bd] w fun e w' => e = .returned (.bool (rgtB pw ph n kind r bd)) ∧ Q w w') := fun w => right_any pw ph ad n c kind r bd w
  have CM : Hid (∀ w : World, Calls Try.prog 23 #[.agg #[.int .i64 qw, .int .i64 qh, .slice ao m co]] w fun e w' => e = .returned (.int .i64 (chk qw qh m)) ∧ Q w w') := fun w => may_any qw qh ao m co w
  obtain ⟨B, hB⟩ : ∃ B, rgtB pw ph n kind r bd = B := ⟨_, rfl⟩
  have HRB : Hid (rgtB pw ph n kind r bd = B) := hB
  rw [hB] at CR
  clear hB
  obtain ⟨E, hE⟩ : ∃ E, chk qw qh m = E := ⟨_, rfl⟩
  have HE : Hid (chk qw qh m = E) := hE
  rw [hE] at CM
  clear hE
  go_enter Try.func6, Try.ntmps6
  go_wp2_with fail
  refine C0.mono ?_
  rintro e w2 ⟨rfl, q2⟩
  have HP2 : Hid (Pbb W0 w2 W0.heap.size pw ph (.slice ad n c) ∧ Pbb W0 w2 (W0.heap.size + 1) qw qh (.slice ao m co)) := ⟨HP1.out.1.next q2, HP1.out.2.next q2⟩
  clear C0 q2 hw1 HP1
  have k0 := HP2.out.1.c0
  have k1 := HP2.out.1.c1
  have k2 := HP2.out.1.c2
  go_wp2_with fail
  refine (CR.out w2).mono ?_
  rintro e w3 ⟨rfl, q3⟩
  have HP3 : Hid (Pbb W0 w3 W0.heap.size pw ph (.slice ad n c) ∧ Pbb W0 w3 (W0.heap.size + 1) qw qh (.slice ao m co)) := ⟨HP2.out.1.next q3, HP2.out.2.next q3⟩
  clear CR q3 HP2 k0 k1 k2
  cases B
  · go_wp2_with fail
    go_ret
    exact ⟨rfl, HP3.out.1.q⟩
  obtain ⟨rr, k, rfl, hr7, hbw, rfl, hk, hchk⟩ := rgt_bw HRB.out
  obtain ⟨pa, pb, rfl, rfl, hsz, hnn0⟩ := chk_zero hchk
  have HNN : Hid (n = pa * pb ∧ Size pa pb ∧ bwE kind rr = 0) := ⟨hnn0, hsz, hbw⟩
  clear HRB hchk hnn0 hsz hbw
  have j0 := HP3.out.2.c0
  have j1 := HP3.out.2.c1
  have j2 := HP3.out.2.c2
  by_cases hE0 : E = 0
  rotate_left
  · have e1 : (E != 0) = true := by simpa using hE0
    clear hE0
    go_wp2_with fail
    refine (CM.out w3).mono ?_
    rintro e w4 ⟨rfl, q4⟩
    have HQ4 : Hid (Q W0 w4) := HP3.out.1.q.trans q4
    clear q4
    go_wp2_with fail
    go_ret
    exact ⟨rfl, HQ4.out⟩
  subst hE0
  obtain ⟨qa, qb, rfl, rfl, hsq, hmm0⟩ := chk_zero HE.out
  have HMM : Hid (m = qa * qb) := hmm0
  clear hsq hmm0
  go_wp2_with fail
  refine (CM.out w3).mono ?_
  rintro e w4 ⟨rfl, q4⟩
  have HP4 : Hid (Pbb W0 w4 W0.heap.size (pa : Int) (pb : Int) (.slice ad n c) ∧ Pbb W0 w4 (W0.heap.size + 1) (qa : Int) (qb : Int) (.slice ao m co)) := ⟨HP3.out.1.next q4, HP3.out.2.next q4⟩
  clear q4 HP3 j0 j1 j2 HE CM
  have k0 := HP4.out.1.c0
  have k1 := HP4.out.1.c1
  have k2 := HP4.out.1.c2
  have j0 := HP4.out.2.c0
  have j1 := HP4.out.2.c1
  have j2 := HP4.out.2.c2
  by_cases hpq : pa = qa
  rotate_left
  · have e1 : ((pa : Int) != (qa : Int)) = true := by simpa using (fun h : (pa : Int) = (qa : Int) => hpq (by omega))
    go_wp2_with fail
    go_ret
    exact ⟨rfl, HP4.out.1.q⟩
  by_cases hpq2 : pb = qb
  rotate_left
  · have e1 : ((pb : Int) != (qb : Int)) = true := by simpa using (fun h : (pb : Int) = (qb : Int) => hpq2 (by omega))
    subst hpq
    go_wp2_with fail
    go_ret
    exact ⟨rfl, HP4.out.1.q⟩
  subst hpq hpq2
  have hmn : m = n := by rw [HMM.out, HNN.out.1]
  subst hmn
  have hsz := HNN.out.2.1
  have hnn := HNN.out.1
  have hbw := HNN.out.2.2
  obtain ⟨g0, o0, d0, hs0, hle, hI⟩ := HU.out.some (by rw [HN.out, hnn]; exact hsz.pos)
  rw [HN.out] at hs0
  injection hs0 with e1 e2 e3
  subst e1 e3
  obtain ⟨g9, o9, d9, hs9, hle9, hI9⟩ := HO.out.some (by rw [HM.out, hnn]; exact hsz.pos)
  rw [HM.out] at hs9
  injection hs9 with e4 e5 e6
  subst e4 e6
  have HUI : Hid (∀ w : World, Q W0 w → UIs w g0 o0 S) := fun w q i hi => q.cell (hI i hi)
  have HUO : Hid (∀ w : World, Q W0 w → UIs w g9 o9 O) := fun w q i hi => q.cell (hI9 i hi)
  have HSZ : Hid (Size pa pb ∧ m = pa * pb ∧ (k = 1 ∨ k = 2 ∨ k = 3) ∧ bwE kind rr = 0 ∧ rr ≤ 7) := ⟨hsz, hnn, hk, hbw, hr7⟩
  have hm1 : 1 ≤ m := by rw [hnn]; exact hsz.pos
  have hm2 : m ≤ 65536 := by rw [hnn]; exact hsz.ab
  have ha1 := hsz.a1
  have hb1 := hsz.b1
  clear hI hI9 hle hle9 e2 e5 hsz hk hbw hnn
  go_wp2_with fail
  have HCC : Hid (∀ x : World, Q w4 x → Calls Try.prog 24 #[.agg #[.int .i64 (pa : Int), .int .i64 (pb : Int), .slice (some ⟨g0, o0, none⟩) m c]] x fun e x' => ∃ v, e = .returned v ∧ CpV (pa : Int) (pb : Int) m S x.heap.size x'.heap.size x' v ∧ Q x x') := fun x q => hcopy_cp (pa : Int) (pb : Int) (some ⟨g0, o0, none⟩) m c S x (HU.out.next (HP4.out.1.q.trans q)) HN.out (by omega)
  refine regionCp (pw := (pa : Int)) (ph := (pb : Int)) (ad := some ⟨g0, o0, none⟩) (n := m) (c := c) (b5 := W0.heap.size) (S := S) rfl rfl ⟨rfl, k0, k1, k2, HCC.out⟩ ?_
  intro w5 a1 c1 a2 c2 g1 g2 HT
  rw [normCp]
  clear k0 k1 k2 j0 j1 j2 HCC
  have hlw4 : W0.heap.size + 1 < w4.heap.size := World.block_lt_of_cell? w4 ⟨W0.heap.size + 1, 0, none⟩ HP4.out.2.c0
  rcases HT.two with h0 | ⟨b1, b2, rfl, rfl, l1, l2, n1, n2, n3, n4, n5, u1, u2, z1, z2⟩
  · omega
  have HR : Hid (Ris W0 w5 W0.heap.size g1 g2 (pa : Int) (pb : Int) (.slice (some ⟨g0, o0, none⟩) m c) m S O (some ⟨b1, 0, none⟩) (some ⟨b2, 0, none⟩) c1 c2 0 ∧ Pbb W0 w5 (W0.heap.size + 1) (pa : Int) (pb : Int) (.slice (some ⟨g9, o9, none⟩) m co)) := by
    refine ⟨⟨HP4.out.1.next HT.q, ⟨HT.c10, HT.c11, HT.c12, HP4.out.1.q.trans HT.q⟩, ⟨HT.c20, HT.c21, HT.c22, HP4.out.1.q.trans HT.q⟩, Or.inr ⟨b1, b2, rfl, rfl, by omega, by omega, n1, n2, n3, n4, n5, fun j hj => ?_, fun j hj => ?_, z1, z2⟩, fun j hj => by omega, rfl⟩, HP4.out.2.next HT.q⟩
    · have := u1 j (by rw [HN.out]; exact hj)
      rw [Nat.zero_add] at this
      exact this
    · have := u2 j (by rw [HN.out]; exact hj)
      rw [Nat.zero_add] at this
      exact this
  have HCN : Hid (m ≤ c1 ∧ m ≤ c2) := ⟨HT.k1, HT.k2⟩
  have HBN : Hid (b1 ≠ W0.heap.size + 1 ∧ b2 ≠ W0.heap.size + 1 ∧ W0.heap.size ≤ b1 ∧ W0.heap.size ≤ b2) := ⟨by omega, by omega, by omega, by omega⟩
  have r2 := HR.out.1.p.c2
  have rc := HUI.out w5 HR.out.1.p.q 0 (by rw [HN.out]; omega)
  obtain ⟨s0, hs0⟩ : ∃ s0, S.getD 0 0 = s0 := ⟨_, rfl⟩
  have hs4 : s0 < 4294967296 := by rw [← hs0]; exact HB.out 0
  rw [hs0, Nat.add_zero] at rc
  have HS0 : Hid (S.getD 0 0 = s0 ∧ s0 < 4294967296) := ⟨hs0, hs4⟩
  clear HT HP4 hlw4 l1 l2 n1 n2 n3 n4 n5 u1 u2 z1 z2 hs0
  go_wp2_with fail
  refine regionBq6 (V5 := W0.heap.size) (g0 := g0) (o0 := o0) (n := m) (c := c) (s0 := s0) rfl rfl ⟨rfl, r2, rc, by omega, hs4⟩ ?_
  rintro w6 v4 v9 v10 v11 ⟨X0, rfl, hX0⟩ ⟨Y0, rfl, hY0⟩ q6
  rw [normBq6]
  have HX0 : Hid ((Ris W0 w6 W0.heap.size g1 g2 (pa : Int) (pb : Int) (.slice (some ⟨g0, o0, none⟩) m c) m S O (some ⟨b1, 0, none⟩) (some ⟨b2, 0, none⟩) c1 c2 0 ∧ Pbb W0 w6 (W0.heap.size + 1) (pa : Int) (pb : Int) (.slice (some ⟨g9, o9, none⟩) m co)) ∧ LstP S O 0 X0 Y0) := ⟨⟨HR.out.1.next q6, HR.out.2.next q6⟩, LstP.start HS0.out.1 HS0.out.2 hX0 hY0⟩
  clear q6 HR r2 rc hX0 hY0 hs4
  go_wp2_with fail
  go_loopg [13, 14, 15] m (fun kk s13 s14 s15 wr => ∃ (i X Y : Nat), s15 = .int .i64 (i : Int) ∧ i + kk = m ∧ s13 = .float .f64 X ∧ s14 = .float .f64 Y ∧ Hid ((Ris W0 wr W0.heap.size g1 g2 (pa : Int) (pb : Int) (.slice (some ⟨g0, o0, none⟩) m c) m S O (some ⟨b1, 0, none⟩) (some ⟨b2, 0, none⟩) c1 c2 i ∧ Pbb W0 wr (W0.heap.size + 1) (pa : Int) (pb : Int) (.slice (some ⟨g9, o9, none⟩) m co)) ∧ LstP S O i X Y))
  case atStart => exact ⟨0, X0, Y0, rfl, by omega, rfl, rfl, HX0⟩
  case round =>
    clear HX0
    obtain ⟨i, X, Y, rfl, hi', rfl, rfl, HX⟩ := hrel
    have c2' := HX.out.1.1.p.c2
    by_cases hlt : i < m
    · have hlt' : (i : Int) < (m : Int) := by omega
      have e2' := HX.out.1.2.c2
      have ci := HUI.out wr HX.out.1.1.p.q i (by rw [HN.out]; exact hlt)
      have di := HUO.out wr HX.out.1.1.p.q i (by rw [HM.out]; exact hlt)
      have hx4 := HB.out i
      have hy4 := HBO.out i
      obtain ⟨x, hx⟩ : ∃ x, S.getD i 0 = x := ⟨_, rfl⟩
      obtain ⟨y, hy⟩ : ∃ y, O.getD i 0 = y := ⟨_, rfl⟩
      rw [hx] at ci hx4
      rw [hy] at di hy4
      have CF : Hid (∀ w : World, Calls Try.prog 26 #[.int .u32 (x : Int)] w fun e w' => e = .returned (.bool (decide (rung32 x < 2139095040))) ∧ w' = w) := fun w => lfinite_any x hx4 w
      have CG : Hid (∀ w : World, Calls Try.prog 26 #[.int .u32 (y : Int)] w fun e w' => e = .returned (.bool (decide (rung32 y < 2139095040))) ∧ w' = w) := fun w => lfinite_any y hy4 w
      have HXY : Hid (S.getD i 0 = x ∧ O.getD i 0 = y) := ⟨hx, hy⟩
      clear hx hy
      rcases Nat.lt_or_ge (rung32 x) 2139095040 with hf | hf
      rotate_left
      · rw [decide_eq_false (by omega)] at CF
        clear hf
        go_wp2_with fail
        refine (CF.out _).mono ?_
        rintro e w6 ⟨rfl, hw6⟩
        obtain rfl := hw6.symm
        clear hw6
        go_wp2_with fail
        go_ret
        exact ⟨rfl, HX.out.1.1.p.q⟩
      rw [decide_eq_true hf] at CF
      rcases Nat.lt_or_ge (rung32 y) 2139095040 with hg | hg
      rotate_left
      · rw [decide_eq_false (by omega)] at CG
        clear hg
        go_wp2_with fail
        refine (CF.out _).mono ?_
        rintro e w6 ⟨rfl, hw6⟩
        obtain rfl := hw6.symm
        clear hw6
        go_wp2_with fail
        refine (CG.out _).mono ?_
        rintro e w6 ⟨rfl, hw6⟩
        obtain rfl := hw6.symm
        clear hw6
        go_wp2_with fail
        go_ret
        exact ⟨rfl, HX.out.1.1.p.q⟩
      rw [decide_eq_true hg] at CG
      have CV : Hid (∀ (z : Nat) (w : World), (z = x ∨ z = y) → Calls Try.prog 25 #[.int .u32 (z : Int)] w fun e w' => e = .returned (.float .f64 (wideN z)) ∧ w' = w) := fun z w hz => lvalue_any z (nan_fin (by rcases hz with rfl | rfl <;> assumption)) w
      have HFG : Hid (rung32 x < 2139095040 ∧ rung32 y < 2139095040 ∧ x < 4294967296 ∧ y < 4294967296) := ⟨hf, hg, hx4, hy4⟩
      obtain ⟨lw, mw, rfl, rfl, hlw, hmw, hall⟩ := HX.out.2 (by
        rcases Nat.eq_zero_or_pos i with h | h
        · subst h; rw [HXY.out.1]; exact hf
        · exact (HX.out.1.1.fin 0 h).1)
      have HLM : Hid (Fnt lw ∧ Fnt mw ∧ ∀ j, j < i → srung32 lw ≤ srung32 (loF S O j) ∧ srung32 (hiF S O j) ≤ srung32 mw) := ⟨hlw, hmw, hall⟩
      by_cases hcmp : srung32 y < srung32 x
      · have HCM : Hid (srung32 y < srung32 x) := hcmp
        clear hcmp
        have hord := ord_lt hg hf
        rw [decide_eq_true HCM.out] at hord
        have hord2 : (FloatKind.f64.format.order (wideN y) (wideN x) == some Ordering.lt) = true := hord
        clear hlw hmw hall hf hg hx4 hy4
        go_wp2_with fail
        refine (CF.out _).mono ?_
        rintro e w6 ⟨rfl, hw6⟩
        obtain rfl := hw6.symm
        clear hw6
        go_wp2_with fail
        refine (CG.out _).mono ?_
        rintro e w6 ⟨rfl, hw6⟩
        obtain rfl := hw6.symm
        clear hw6 CF CG
        have n0 := qw_some wr
        have q1 := qw_cell ci
        have q2 := qw_cell di
        have q3 := qw_cell c2'
        have q4 := qw_cell e2'
        go_wp2_with fail
        refine wp_region_quiet_Q (by kernel_rfl) (by kernel_rfl) ?_
        repeat (first | go_big_quiet_step (first | (go_at_call 25; exact calls_qs (CV.out _ _ (by first | exact Or.inl rfl | exact Or.inr rfl)))) | quiet_step (first | (go_at_call 25; exact calls_qs (CV.out _ _ (by first | exact Or.inl rfl | exact Or.inr rfl)))))
        refine wpQuiet_nil ?_
        intro w7 hw'
        have hq7 := qw_out hw'
        clear n0 q1 q2 q3 q4
        obtain ⟨⟨u, hu⟩, hz⟩ : (∃ u, wr.cell? ⟨b1, i, none⟩ = some u) ∧ wr.frozen? ⟨b1, i, none⟩ = false := by
          rcases HX.out.1.1.two with h0 | ⟨d1, d2, e1, e2, _, _, _, _, _, _, _, u1, u2, z1, z2⟩
          · omega
          · injection e1 with e1
            injection e1 with e1
            injection e2 with e2
            injection e2 with e2
            subst e1 e2
            exact ⟨⟨_, u1 i hlt⟩, z1 i⟩
        have n0 := qw_some w7
        have d1 := qw_cell (hq7.cell di)
        have d2 := qw_cell (hq7.cell HX.out.1.1.lo.c2)
        have d9 := qw_cell (hq7.cell e2')
        have d3 := hq7.cell hu
        have d4 : w7.frozen? ⟨b1, i, none⟩ = false := by rw [hq7.2]; exact hz
        clear ci di c2' e2' hw' hu hz
        go_wp2_with fail
        refine wp_region_mk [0, 1, 2, 3, 4, 5, 6, 7, 8] [[9]] 1 _ (by kernel_rfl) (by kernel_rfl) rfl (by kernel_rfl) ?_
        simp only [List.filterMap_cons, List.filterMap_nil, List.getElem?_cons_zero, List.getElem?_cons_succ]
        repeat (first | go_big_quiet_step (fail) | quiet_step (fail))
        refine wpQuiet_nil ?_
        intro w8 hx8
        have d5 := hx8.cell d3
        have d6 : w8.frozen? ⟨b1, i, none⟩ = false := by rw [hx8.2]; exact d4
        refine tree_skipF 9 rfl rfl rfl (x' := w8.setCell ⟨b1, i, none⟩ (.int .u32 (y : Int))) (by simp [execOp, go_sem, d5, d6]) ?_
        refine tree_nil ?_
        have HP10 : Hid (Ris W0 (w8.setCell ⟨b1, i, none⟩ (.int .u32 (y : Int))) W0.heap.size g1 g2 (pa : Int) (pb : Int) (.slice (some ⟨g0, o0, none⟩) m c) m S O (some ⟨b1, 0, none⟩) (some ⟨b2, 0, none⟩) c1 c2 (i + 1) ∧ Pbb W0 (w8.setCell ⟨b1, i, none⟩ (.int .u32 (y : Int))) (W0.heap.size + 1) (pa : Int) (pb : Int) (.slice (some ⟨g9, o9, none⟩) m co)) := by
          have hR := (((HX.out.1.1.next hq7).next hx8).put (b1 := b1) (b2 := b2) rfl rfl hlt (by rw [HXY.out.1]; exact HFG.out.1) (by rw [HXY.out.2]; exact HFG.out.2.1)).1
          rw [HXY.out.1, HXY.out.2] at hR
          exact ⟨hR HCM.out, ((HX.out.1.2.next hq7).next hx8).setR (p := ⟨b1, i, none⟩) HBN.out.1 HBN.out.2.2.1 _⟩
        generalize w8.setCell ⟨b1, i, none⟩ (.int .u32 (y : Int)) = w9 at HP10 ⊢
        clear n0 d1 d2 d3 d4 d5 d6 d9 hx8 hq7
        have eL : loF S O i = y := by unfold loF; rw [HXY.out.1, HXY.out.2, if_pos HCM.out]
        have eH : hiF S O i = x := by unfold hiF; rw [HXY.out.1, HXY.out.2, if_pos HCM.out]
        obtain ⟨cl, ch⟩ : w9.cell? ⟨b1, i, none⟩ = some (.int .u32 (y : Int)) ∧ w9.cell? ⟨b2, i, none⟩ = some (.int .u32 (x : Int)) := by
          rcases HP10.out.1.two with h0 | ⟨d1, d2, e1, e2, _, _, _, _, _, _, _, u1, u2, z1, z2⟩
          · omega
          · injection e1 with e1
            injection e1 with e1
            injection e2 with e2
            injection e2 with e2
            subst e1 e2
            have a1 := u1 i hlt
            have a2 := u2 i hlt
            unfold mixF at a1 a2
            rw [if_pos (by omega)] at a1 a2
            rw [eL] at a1
            rw [eH] at a2
            exact ⟨a1, a2⟩
        obtain ⟨cm, hcm, hc1, hc2, hcr⟩ := run_minw (a := lw) (b := y) HLM.out.1.1 HFG.out.2.1
        obtain ⟨dm, hdm, hd1, hd2, hdr⟩ := run_maxw (a := mw) (b := x) HLM.out.2.1.1 HFG.out.1
        have HL2 : Hid (LstP S O (i + 1) (wideN cm) (wideN dm)) := LstP.step HLM.out.2.2 (by rcases hcm with rfl | rfl; exact HLM.out.1; exact ⟨HFG.out.2.1, HFG.out.2.2.2⟩) (by rcases hdm with rfl | rfl; exact HLM.out.2.1; exact ⟨HFG.out.1, HFG.out.2.2.1⟩) hc1 (by rw [eL]; exact hc2) hd1 (by rw [eH]; exact hd2)
        have n0 := qw_some w9
        have q1 := qw_cell cl
        have q2 := qw_cell ch
        have q3 := qw_cell HP10.out.1.lo.c2
        have q4 := qw_cell HP10.out.1.hi.c2
        clear hcm hdm hc1 hc2 hd1 hd2 eL eH cl ch HX hord hord2
        go_wp2_with fail
        refine wp_region_quiet_Q (by kernel_rfl) (by kernel_rfl) ?_
        repeat (first | go_big_quiet_step (first | (go_at_call 25; exact calls_qs (CV.out _ _ (by first | exact Or.inl rfl | exact Or.inr rfl)))) | quiet_step (first | (go_at_call 25; exact calls_qs (CV.out _ _ (by first | exact Or.inl rfl | exact Or.inr rfl)))))
        refine wpQuiet_nil ?_
        intro w10 hw'
        have HE : Hid ((Ris W0 w10 W0.heap.size g1 g2 (pa : Int) (pb : Int) (.slice (some ⟨g0, o0, none⟩) m c) m S O (some ⟨b1, 0, none⟩) (some ⟨b2, 0, none⟩) c1 c2 (i + 1) ∧ Pbb W0 w10 (W0.heap.size + 1) (pa : Int) (pb : Int) (.slice (some ⟨g9, o9, none⟩) m co)) ∧ LstP S O (i + 1) (wideN cm) (wideN dm)) := ⟨⟨HP10.out.1.next (qw_out hw'), HP10.out.2.next (qw_out hw')⟩, HL2.out⟩
        clear n0 q1 q2 q3 q4 hw' HP10 HL2 hcr hdr
        go_wp2_with fail
        go_roundg (m - (i + 1))
        case measure => go_light; omega
        case rel => go_light; exact ⟨i + 1, _, _, by go_num, by omega, rfl, rfl, HE⟩
      · have HCM : Hid (srung32 x ≤ srung32 y) := Int.not_lt.1 hcmp
        clear hcmp
        have hord := ord_lt hg hf
        rw [decide_eq_false (Int.not_lt.2 HCM.out)] at hord
        have hord2 : (FloatKind.f64.format.order (wideN y) (wideN x) == some Ordering.lt) = false := hord
        clear hlw hmw hall hf hg hx4 hy4
        go_wp2_with fail
        refine (CF.out _).mono ?_
        rintro e w6 ⟨rfl, hw6⟩
        obtain rfl := hw6.symm
        clear hw6
        go_wp2_with fail
        refine (CG.out _).mono ?_
        rintro e w6 ⟨rfl, hw6⟩
        obtain rfl := hw6.symm
        clear hw6 CF CG
        have n0 := qw_some wr
        have q1 := qw_cell ci
        have q2 := qw_cell di
        have q3 := qw_cell c2'
        have q4 := qw_cell e2'
        go_wp2_with fail
        refine wp_region_quiet_Q (by kernel_rfl) (by kernel_rfl) ?_
        repeat (first | go_big_quiet_step (first | (go_at_call 25; exact calls_qs (CV.out _ _ (by first | exact Or.inl rfl | exact Or.inr rfl)))) | quiet_step (first | (go_at_call 25; exact calls_qs (CV.out _ _ (by first | exact Or.inl rfl | exact Or.inr rfl)))))
        refine wpQuiet_nil ?_
        intro w7 hw'
        have hq7 := qw_out hw'
        clear n0 q1 q2 q3 q4
        obtain ⟨⟨u, hu⟩, hz⟩ : (∃ u, wr.cell? ⟨b2, i, none⟩ = some u) ∧ wr.frozen? ⟨b2, i, none⟩ = false := by
          rcases HX.out.1.1.two with h0 | ⟨d1, d2, e1, e2, _, _, _, _, _, _, _, u1, u2, z1, z2⟩
          · omega
          · injection e1 with e1
            injection e1 with e1
            injection e2 with e2
            injection e2 with e2
            subst e1 e2
            exact ⟨⟨_, u2 i hlt⟩, z2 i⟩
        have n0 := qw_some w7
        have d1 := qw_cell (hq7.cell di)
        have d2 := qw_cell (hq7.cell HX.out.1.1.hi.c2)
        have d9 := qw_cell (hq7.cell e2')
        have d3 := hq7.cell hu
        have d4 : w7.frozen? ⟨b2, i, none⟩ = false := by rw [hq7.2]; exact hz
        clear ci di c2' e2' hw' hu hz
        go_wp2_with fail
        refine wp_region_mk [0, 1, 2, 3, 4, 5, 6, 7, 8] [[9]] 1 _ (by kernel_rfl) (by kernel_rfl) rfl (by kernel_rfl) ?_
        simp only [List.filterMap_cons, List.filterMap_nil, List.getElem?_cons_zero, List.getElem?_cons_succ]
        repeat (first | go_big_quiet_step (fail) | quiet_step (fail))
        refine wpQuiet_nil ?_
        intro w8 hx8
        have d5 := hx8.cell d3
        have d6 : w8.frozen? ⟨b2, i, none⟩ = false := by rw [hx8.2]; exact d4
        refine tree_skipF 9 rfl rfl rfl (x' := w8.setCell ⟨b2, i, none⟩ (.int .u32 (y : Int))) (by simp [execOp, go_sem, d5, d6]) ?_
        refine tree_nil ?_
        have HP10 : Hid (Ris W0 (w8.setCell ⟨b2, i, none⟩ (.int .u32 (y : Int))) W0.heap.size g1 g2 (pa : Int) (pb : Int) (.slice (some ⟨g0, o0, none⟩) m c) m S O (some ⟨b1, 0, none⟩) (some ⟨b2, 0, none⟩) c1 c2 (i + 1) ∧ Pbb W0 (w8.setCell ⟨b2, i, none⟩ (.int .u32 (y : Int))) (W0.heap.size + 1) (pa : Int) (pb : Int) (.slice (some ⟨g9, o9, none⟩) m co)) := by
          have hR := (((HX.out.1.1.next hq7).next hx8).put (b1 := b1) (b2 := b2) rfl rfl hlt (by rw [HXY.out.1]; exact HFG.out.1) (by rw [HXY.out.2]; exact HFG.out.2.1)).2
          rw [HXY.out.1, HXY.out.2] at hR
          exact ⟨hR (Int.not_lt.2 HCM.out), ((HX.out.1.2.next hq7).next hx8).setR (p := ⟨b2, i, none⟩) HBN.out.2.1 HBN.out.2.2.2 _⟩
        generalize w8.setCell ⟨b2, i, none⟩ (.int .u32 (y : Int)) = w9 at HP10 ⊢
        clear n0 d1 d2 d3 d4 d5 d6 d9 hx8 hq7
        have eL : loF S O i = x := by unfold loF; rw [HXY.out.1, HXY.out.2, if_neg (Int.not_lt.2 HCM.out)]
        have eH : hiF S O i = y := by unfold hiF; rw [HXY.out.1, HXY.out.2, if_neg (Int.not_lt.2 HCM.out)]
        obtain ⟨cl, ch⟩ : w9.cell? ⟨b1, i, none⟩ = some (.int .u32 (x : Int)) ∧ w9.cell? ⟨b2, i, none⟩ = some (.int .u32 (y : Int)) := by
          rcases HP10.out.1.two with h0 | ⟨d1, d2, e1, e2, _, _, _, _, _, _, _, u1, u2, z1, z2⟩
          · omega
          · injection e1 with e1
            injection e1 with e1
            injection e2 with e2
            injection e2 with e2
            subst e1 e2
            have a1 := u1 i hlt
            have a2 := u2 i hlt
            unfold mixF at a1 a2
            rw [if_pos (by omega)] at a1 a2
            rw [eL] at a1
            rw [eH] at a2
            exact ⟨a1, a2⟩
        obtain ⟨cm, hcm, hc1, hc2, hcr⟩ := run_minw (a := lw) (b := x) HLM.out.1.1 HFG.out.1
        obtain ⟨dm, hdm, hd1, hd2, hdr⟩ := run_maxw (a := mw) (b := y) HLM.out.2.1.1 HFG.out.2.1
        have HL2 : Hid (LstP S O (i + 1) (wideN cm) (wideN dm)) := LstP.step HLM.out.2.2 (by rcases hcm with rfl | rfl; exact HLM.out.1; exact ⟨HFG.out.1, HFG.out.2.2.1⟩) (by rcases hdm with rfl | rfl; exact HLM.out.2.1; exact ⟨HFG.out.2.1, HFG.out.2.2.2⟩) hc1 (by rw [eL]; exact hc2) hd1 (by rw [eH]; exact hd2)
        have n0 := qw_some w9
        have q1 := qw_cell cl
        have q2 := qw_cell ch
        have q3 := qw_cell HP10.out.1.lo.c2
        have q4 := qw_cell HP10.out.1.hi.c2
        clear hcm hdm hc1 hc2 hd1 hd2 eL eH cl ch HX hord hord2
        go_wp2_with fail
        refine wp_region_quiet_Q (by kernel_rfl) (by kernel_rfl) ?_
        repeat (first | go_big_quiet_step (first | (go_at_call 25; exact calls_qs (CV.out _ _ (by first | exact Or.inl rfl | exact Or.inr rfl)))) | quiet_step (first | (go_at_call 25; exact calls_qs (CV.out _ _ (by first | exact Or.inl rfl | exact Or.inr rfl)))))
        skip
        refine wpQuiet_nil ?_
        intro w10 hw'
        have HE : Hid ((Ris W0 w10 W0.heap.size g1 g2 (pa : Int) (pb : Int) (.slice (some ⟨g0, o0, none⟩) m c) m S O (some ⟨b1, 0, none⟩) (some ⟨b2, 0, none⟩) c1 c2 (i + 1) ∧ Pbb W0 w10 (W0.heap.size + 1) (pa : Int) (pb : Int) (.slice (some ⟨g9, o9, none⟩) m co)) ∧ LstP S O (i + 1) (wideN cm) (wideN dm)) := ⟨⟨HP10.out.1.next (qw_out hw'), HP10.out.2.next (qw_out hw')⟩, HL2.out⟩
        clear n0 q1 q2 q3 q4 hw' HP10 HL2 hcr hdr
        go_wp2_with fail
        go_roundg (m - (i + 1))
        case measure => go_light; omega
        case rel => go_light; exact ⟨i + 1, _, _, by go_num, by omega, rfl, rfl, HE⟩
    · obtain rfl : m = i := by omega
      have hge : ¬ (m : Int) < (m : Int) := by omega
      have l0 := HX.out.1.1.lo.c0
      have l1 := HX.out.1.1.lo.c1
      have l2 := HX.out.1.1.lo.c2
      obtain ⟨r1, r2⟩ : (∀ j, j < m → wr.cell? ⟨b1, j, none⟩ = some (.int .u32 ((loF S O j : Nat) : Int))) ∧ (∀ j, j < m → wr.cell? ⟨b2, j, none⟩ = some (.int .u32 ((hiF S O j : Nat) : Int))) := by
        rcases HX.out.1.1.two with h0 | ⟨d1, d2, e1, e2, _, _, _, _, _, _, _, u1, u2, _, _⟩
        · omega
        · injection e1 with e1
          injection e1 with e1
          injection e2 with e2
          injection e2 with e2
          subst e1 e2
          refine ⟨fun j hj => ?_, fun j hj => ?_⟩
          · have := u1 j hj
            unfold mixF at this
            rw [if_pos hj] at this
            exact this
          · have := u2 j hj
            unfold mixF at this
            rw [if_pos hj] at this
            exact this
      have U1 : UIs wr b1 0 (tabB m (loF S O)) := fun j hj => by rw [tabB_len] at hj; rw [Nat.zero_add, tabB_at hj]; exact r1 j hj
      have U2 : UIs wr b2 0 (tabB m (hiF S O)) := fun j hj => by rw [tabB_len] at hj; rw [Nat.zero_add, tabB_at hj]; exact r2 j hj
      have lo4 : ∀ j, loF S O j < 4294967296 := fun j => by unfold loF; split <;> first | exact HBO.out j | exact HB.out j
      have hi4 : ∀ j, hiF S O j < 4294967296 := fun j => by unfold hiF; split <;> first | exact HBO.out j | exact HB.out j
      have t4 : ∀ (F : Nat → Nat), (∀ j, F j < 4294967296) → ∀ j, (tabB m F).getD j 0 < 4294967296 := fun F hF j => by
        rcases Nat.lt_or_ge j m with h | h
        · rw [tabB_at h]; exact hF j
        · rw [List.getD_eq_getElem?_getD, List.getElem?_eq_none (by rw [tabB_len]; exact h)]; decide
      obtain ⟨lw, mw, rfl, rfl, hlw, hmw, hall⟩ := HX.out.2 (HX.out.1.1.fin 0 (by omega)).1
      have hnn := HSZ.out.2.1
      have hsz := HSZ.out.1
      have HV : Hid (∀ j, j < m → srung32 lw ≤ srung32 (bluV kind rr k pa pb (tabB m (loF S O)) j) ∧ srung32 (bluV kind rr k pa pb (tabB m (loF S O)) j) ≤ srung32 (bluV kind rr k pa pb (tabB m (hiF S O)) j) ∧ srung32 (bluV kind rr k pa pb (tabB m (hiF S O)) j) ≤ srung32 mw ∧ rung32 (bluV kind rr k pa pb (tabB m (loF S O)) j) < 2139095040 ∧ rung32 (bluV kind rr k pa pb (tabB m (hiF S O)) j) < 2139095040) := fun j hj => by
        have ff : ∀ t, t < pa * pb → rung32 ((tabB m (loF S O)).getD t 0) < 2139095040 ∧ rung32 ((tabB m (hiF S O)).getD t 0) < 2139095040 ∧ srung32 ((tabB m (loF S O)).getD t 0) ≤ srung32 ((tabB m (hiF S O)).getD t 0) ∧ srung32 lw ≤ srung32 ((tabB m (loF S O)).getD t 0) ∧ srung32 ((tabB m (hiF S O)).getD t 0) ≤ srung32 mw := fun t ht => by
          rw [← hnn] at ht
          rw [tabB_at ht, tabB_at ht]
          have a := lohi_facts (HX.out.1.1.fin t ht).1 (HX.out.1.1.fin t ht).2
          have b := hall t ht
          exact ⟨a.1, a.2.1, a.2.2, b.1, b.2⟩
        have hj' : j < pa * pb := by omega
        have b1 := blu_between (kind := kind) (r := rr) (k := k) (S := tabB m (loF S O)) (lo := lw) (hi := mw) HSZ.out.2.2.2.2 HSZ.out.2.2.2.1 hsz.a1 hsz.b1 ⟨hlw.1, hlw.2⟩ ⟨hmw.1, hmw.2⟩ (fun t ht => by have := ff t ht; exact ⟨this.1, this.2.2.2.1, by omega⟩) hj'
        have b2 := blu_between (kind := kind) (r := rr) (k := k) (S := tabB m (hiF S O)) (lo := lw) (hi := mw) HSZ.out.2.2.2.2 HSZ.out.2.2.2.1 hsz.a1 hsz.b1 ⟨hlw.1, hlw.2⟩ ⟨hmw.1, hmw.2⟩ (fun t ht => by have := ff t ht; exact ⟨this.2.1, by omega, this.2.2.2.2⟩) hj'
        have b3 := blu_rises (kind := kind) (r := rr) (k := k) (S := tabB m (loF S O)) (T := tabB m (hiF S O)) HSZ.out.2.2.2.2 HSZ.out.2.2.2.1 hsz.a1 hsz.b1 (fun t ht => (ff t ht).1) (fun t ht => (ff t ht).2.1) (fun t ht => (ff t ht).2.2.1) hj'
        exact ⟨b1.1, b3, b2.2.1, b1.2.2, b2.2.2⟩
      have CP1 := blur_good kind rr k pa pb b1 0 c1 m (tabB m (loF S O)) wr hsz hnn (tabB_len _ _) (t4 _ lo4) U1 HSZ.out.2.2.2.2 HSZ.out.2.2.1 HSZ.out.2.2.2.1
      have CP2 : Hid (∀ x : World, Q wr x → Calls Try.prog 16 #[.agg #[.int .i64 (pa : Int), .int .i64 (pb : Int), .slice (some ⟨b2, 0, none⟩) m c2], .int .i64 kind, .int .i64 (rr : Int), .int .i64 (k : Int)] x fun e w' => ∃ gt, e = .returned (.tuple #[.agg #[.int .i64 (pa : Int), .int .i64 (pb : Int), .slice (some ⟨gt, 0, none⟩) m m], .int .i64 0]) ∧ VR w' gt m (fun j => .int .u32 ((bluV kind rr k pa pb (tabB m (hiF S O)) j : Nat) : Int)) ∧ x.heap.size ≤ gt ∧ Q x w') := fun x q => blur_good kind rr k pa pb b2 0 c2 m (tabB m (hiF S O)) x hsz hnn (tabB_len _ _) (t4 _ hi4) (U2.next q) HSZ.out.2.2.2.2 HSZ.out.2.2.1 HSZ.out.2.2.2.1
      obtain ⟨F1, hF1⟩ : ∃ F, bluV kind rr k pa pb (tabB m (loF S O)) = F := ⟨_, rfl⟩
      obtain ⟨F2, hF2⟩ : ∃ F, bluV kind rr k pa pb (tabB m (hiF S O)) = F := ⟨_, rfl⟩
      simp only [hF1] at CP1 HV
      simp only [hF2] at CP2 HV
      have HLM : Hid (Fnt lw ∧ Fnt mw) := ⟨hlw, hmw⟩
      have CN : Hid (∀ (e0 : Int) (w : World), Calls Try.prog 10 #[.int .i64 e0] w fun e w' => e = .returned (.int .i64 e0) ∧ w' = w) := num11_any
      clear hF1 hF2 hnn hsz U1 U2 lo4 hi4 t4 r1 r2 hall hlw hmw
      go_wp2_with fail
      refine CP1.mono ?_
      rintro e w5 ⟨ga, rfl, hu, hl, q5⟩
      obtain ⟨w6, hw6⟩ : ∃ w6, w5.alloc (.cells #[.int .i64 (pa : Int), .int .i64 (pb : Int), .slice (some ⟨ga, 0, none⟩) m m] 43) = w6 := ⟨_, rfl⟩
      have q56 : Q w5 w6 := by rw [← hw6]; exact (Q.refl w5).cells _ _
      have HK6 : Hid (Pbb W0 w6 w5.heap.size (pa : Int) (pb : Int) (.slice (some ⟨ga, 0, none⟩) m m) ∧ VR w6 ga m (fun j => .int .u32 ((F1 j : Nat) : Int)) ∧ Q wr w6) := by
        refine ⟨?_, hu.next q56, q5.trans q56⟩
        rw [← hw6]; exact Pbb.mk' W0 w5 (HX.out.1.1.p.q.trans q5) _ _ _ _ _
      have hx6 := HX.out.1.1.next HK6.out.2.2
      have m0 := hx6.hi.c0
      have m1 := hx6.hi.c1
      have m2 := hx6.hi.c2
      have CP3 := CP2.out w6 HK6.out.2.2
      clear CP1 CP2 hu hl q5 q56 l0 l1 l2 hx6 c2'
      go_wp2_with fail
      refine CP3.mono ?_
      rintro e w7 ⟨gb, rfl, hu, hl, q7⟩
      obtain ⟨w8, hw8⟩ : ∃ w8, w7.alloc (.cells #[.int .i64 (pa : Int), .int .i64 (pb : Int), .slice (some ⟨gb, 0, none⟩) m m] 43) = w8 := ⟨_, rfl⟩
      have q78 : Q w7 w8 := by rw [← hw8]; exact (Q.refl w7).cells _ _
      have HK8 : Hid ((Pbb W0 w8 w5.heap.size (pa : Int) (pb : Int) (.slice (some ⟨ga, 0, none⟩) m m) ∧ VR w8 ga m (fun j => .int .u32 ((F1 j : Nat) : Int))) ∧ (Pbb W0 w8 w7.heap.size (pa : Int) (pb : Int) (.slice (some ⟨gb, 0, none⟩) m m) ∧ VR w8 gb m (fun j => .int .u32 ((F2 j : Nat) : Int))) ∧ Pbb W0 w8 W0.heap.size (pa : Int) (pb : Int) (.slice (some ⟨g0, o0, none⟩) m c)) := by
        refine ⟨⟨HK6.out.1.next (q7.trans q78), HK6.out.2.1.next (q7.trans q78)⟩, ⟨?_, hu.next q78⟩, (HX.out.1.1.next (HK6.out.2.2.trans (q7.trans q78))).p⟩
        rw [← hw8]; exact Pbb.mk' W0 w7 (HK6.out.1.q.trans q7) _ _ _ _ _
      have o2 := HK8.out.1.1.c2
      have p2 := HK8.out.2.1.1.c2
      have s2 := HK8.out.2.2.c2
      have hmm : ((m : Int) == (m : Int)) = true := by simp
      have hmm2 : ((m : Int) != (m : Int)) = false := by simp
      clear CP3 hu hl q7 q78 m0 m1 m2 hw6
      go_wp2_with fail
      clear hw8
      refine (CN.out _ _).mono ?_
      rintro e w9 ⟨rfl, hw9⟩
      obtain rfl := hw9.symm
      clear hw9
      go_wp2_with fail
      refine (CN.out _ _).mono ?_
      rintro e w9 ⟨rfl, hw9⟩
      obtain rfl := hw9.symm
      clear hw9
      go_wp2_with fail
      go_loopg [20] m (fun kk s20 wx => ∃ j : Nat, s20 = .int .i64 (j : Int) ∧ j + kk = m ∧ Hid (Q w8 wx))
      case atStart => exact ⟨0, rfl, by omega, Q.refl w8⟩
      case round =>
        obtain ⟨j, rfl, hj, HY⟩ := hrel
        have o2 := HY.out.cell HK8.out.1.1.c2
        have p2 := HY.out.cell HK8.out.2.1.1.c2
        by_cases hlt2 : j < m
        · have hlt3 : (j : Int) < (m : Int) := by omega
          have ck := HY.out.cell (HK8.out.1.2.cell j hlt2)
          have dk := HY.out.cell (HK8.out.2.1.2.cell j hlt2)
          obtain ⟨v1, v2, v3, v4, v5⟩ := HV.out j hlt2
          obtain ⟨x, hx⟩ : ∃ x, F1 j = x := ⟨_, rfl⟩
          obtain ⟨y, hy⟩ : ∃ y, F2 j = y := ⟨_, rfl⟩
          simp only [hx] at ck v1 v2 v4
          simp only [hy] at dk v2 v3 v5
          have CV : Hid (∀ (z : Nat) (w : World), (z = x ∨ z = y) → Calls Try.prog 25 #[.int .u32 (z : Int)] w fun e w' => e = .returned (.float .f64 (wideN z)) ∧ w' = w) := fun z w hz => lvalue_any z (nan_fin (by rcases hz with rfl | rfl <;> assumption)) w
          have g1 := ord_gt HLM.out.1.1 v4 v1
          have g2 := ord_gt v4 v5 v2
          have g3 := ord_gt v5 HLM.out.2.1 v3
          have HG : Hid _ := And.intro g1 (And.intro g2 g3)
          have n0 := qw_some wr
          have q1 := qw_cell ck
          have q2 := qw_cell dk
          have q3 := qw_cell o2
          have q4 := qw_cell p2
          clear v1 v2 v3 v4 v5 hx hy g1 g2 g3 ck dk
          go_wp2_with fail
          refine wp_region_quiet_Q (by kernel_rfl) (by kernel_rfl) ?_
          repeat (first | go_big_quiet_step (first | (go_at_call 25; exact calls_qs (CV.out _ _ (by first | exact Or.inl rfl | exact Or.inr rfl)))) | quiet_step (first | (go_at_call 25; exact calls_qs (CV.out _ _ (by first | exact Or.inl rfl | exact Or.inr rfl)))))
          refine wpQuiet_nil ?_
          intro w9 hw'
          have HY9 : Hid (Q w8 w9) := HY.out.trans (qw_out hw')
          clear n0 q1 q2 q3 q4 hw' o2 p2 HY
          have fle : ∀ {p q : Nat}, (Ieee.double.order p q = some Ordering.lt ∨ Ieee.double.order p q = some Ordering.eq) → (FloatKind.f64.format.order p q == some Ordering.lt || FloatKind.f64.format.order p q == some Ordering.eq) = true := fun {p q} h => by
            have e : FloatKind.f64.format.order p q = Ieee.double.order p q := rfl
            rw [e]
            rcases h with h | h <;> rw [h] <;> rfl
          have g1 := fle HG.out.1
          have g2 := fle HG.out.2.1
          have g3 := fle HG.out.2.2
          clear fle
          go_wp2_with fail
          go_roundg (m - (j + 1))
          case measure => go_light; omega
          case rel => go_light; exact ⟨j + 1, by go_num, by omega, HY9⟩
        · obtain rfl : m = j := by omega
          have hge2 : ¬ (m : Int) < (m : Int) := by omega
          go_wp2_with fail
          go_ret
          exact ⟨rfl, HK8.out.1.1.q.trans HY.out⟩
end Go.Proofs.Ytedaacddnahjkaa

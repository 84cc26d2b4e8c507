/- PyramidRises: its walk. (gen_pyri.py) -/
import Derived.Test.YtgaolakfgjmeiabGc6451bfc
namespace Go.Proofs.Ytgaolakfgjmeiab
open Go.RowKit
set_option linter.unusedVariables false
set_option linter.unusedSimpArgs false

theorem normPq6 {t0 t1 t2 t3 t4 t5 t6 t7 t8 t9 t10 t11 t12 t13 t14 t15 t16 t17 t18 t19 t20 t21 t22 t23 t24 t25 t26 t27 t28 t29 t30 t31 t32 t33 t34 t35 t36 t37 t38 t39 t40 t41 t42 t43 t44 t45 t46 t47 t48 t49 t50 t51 t52 t53 t54 t55 t56 t57 t58 t59 t60 t61 t62 t63 t64 t65 t66 t67 t68 t69 t70 t71 t72 t73 t74 t75 t76 t77 t78 t79 t80 t81 t82 t83 t84 t85 t86 t87 t88 t89 t90 t91 t92 t93 t94 t95 t96 t97 t98 t99 t100 t101 t102 t103 t104 t105 t106 t107 t108 t109 t110 t111 t112 t113 t114 t115 t116 t117 t118 t119 t120 t121 t122 t123 t124 t125 t126 t127 t128 t129 t130 t131 t132 t133 t134 t135 t136 t137 t138 t139 t140 t141 t142 t143 t144 t145 t146 t147 t148 t149 t150 t151 t152 t153 t154 t155 t156 t157 t158 t159 t160 t161 t162 t163 t164 t165 t166 t167 t168 t169 t170 t171 t172 t173 t174 t175 t176 t177 t178 t179 t180 t181 t182 t183 t184 t185 t186 t187 t188 t189 t190 t191 t192 t193 t194 t195 t196 t197 t198 t199 t200 t201 t202 t203 t204 t205 t206 t207 t208 t209 t210 t211 t212 t213 v71 v72 v73 v74 v75 v76 v77 v78 v79 v80 v9 v10 : Value} {d : List Deferred} : putAll ⟨#[t0, t1, t2, t3, t4, t5, t6, t7, t8, t9, t10, t11, t12, t13, t14, t15, t16, t17, t18, t19, t20, t21, t22, t23, t24, t25, t26, t27, t28, t29, t30, t31, t32, t33, t34, t35, t36, t37, t38, t39, t40, t41, t42, t43, t44, t45, t46, t47, t48, t49, t50, t51, t52, t53, t54, t55, t56, t57, t58, t59, t60, t61, t62, t63, t64, t65, t66, t67, t68, t69, t70, t71, t72, t73, t74, t75, t76, t77, t78, t79, t80, t81, t82, t83, t84, t85, t86, t87, t88, t89, t90, t91, t92, t93, t94, t95, t96, t97, t98, t99, t100, t101, t102, t103, t104, t105, t106, t107, t108, t109, t110, t111, t112, t113, t114, t115, t116, t117, t118, t119, t120, t121, t122, t123, t124, t125, t126, t127, t128, t129, t130, t131, t132, t133, t134, t135, t136, t137, t138, t139, t140, t141, t142, t143, t144, t145, t146, t147, t148, t149, t150, t151, t152, t153, t154, t155, t156, t157, t158, t159, t160, t161, t162, t163, t164, t165, t166, t167, t168, t169, t170, t171, t172, t173, t174, t175, t176, t177, t178, t179, t180, t181, t182, t183, t184, t185, t186, t187, t188, t189, t190, t191, t192, t193, t194, t195, t196, t197, t198, t199, t200, t201, t202, t203, t204, t205, t206, t207, t208, t209, t210, t211, t212, t213], d⟩ [(71, v71), (72, v72), (73, v73), (74, v74), (75, v75), (76, v76), (77, v77), (78, v78), (79, v79), (80, v80), (9, v9), (10, v10)] = ⟨#[t0, t1, t2, t3, t4, t5, t6, t7, t8, v9, v10, t11, t12, t13, t14, t15, t16, t17, t18, t19, t20, t21, t22, t23, t24, t25, t26, t27, t28, t29, t30, t31, t32, t33, t34, t35, t36, t37, t38, t39, t40, t41, t42, t43, t44, t45, t46, t47, t48, t49, t50, t51, t52, t53, t54, t55, t56, t57, t58, t59, t60, t61, t62, t63, t64, t65, t66, t67, t68, t69, t70, v71, v72, v73, v74, v75, v76, v77, v78, v79, v80, t81, t82, t83, t84, t85, t86, t87, t88, t89, t90, t91, t92, t93, t94, t95, t96, t97, t98, t99, t100, t101, t102, t103, t104, t105, t106, t107, t108, t109, t110, t111, t112, t113, t114, t115, t116, t117, t118, t119, t120, t121, t122, t123, t124, t125, t126, t127, t128, t129, t130, t131, t132, t133, t134, t135, t136, t137, t138, t139, t140, t141, t142, t143, t144, t145, t146, t147, t148, t149, t150, t151, t152, t153, t154, t155, t156, t157, t158, t159, t160, t161, t162, t163, t164, t165, t166, t167, t168, t169, t170, t171, t172, t173, t174, t175, t176, t177, t178, t179, t180, t181, t182, t183, t184, t185, t186, t187, t188, t189, t190, t191, t192, t193, t194, t195, t196, t197, t198, t199, t200, t201, t202, t203, t204, t205, t206, t207, t208, t209, t210, t211, t212, t213], d⟩ := by
  kernel_rfl
set_option maxHeartbeats 8000000 in
set_option maxRecDepth 100000 in
theorem prise_walk (W0 : World) (pw ph qw qh : Int) (od : Bool) (sv ov : Value) (S O : List Nat) (us : USl W0 sv S) (uo : USl W0 ov O) (hb : ∀ i, S.getD i 0 < 4294967296) (ho : ∀ i, O.getD i 0 < 4294967296) :
    Calls Try.prog 3 #[.agg #[.int .i64 pw, .int .i64 ph, sv], .agg #[.int .i64 qw, .int .i64 qh, ov], .bool od] W0 fun e w' => e = .returned (.bool true) ∧ Q W0 w' := by
  obtain ⟨ad, c, rfl⟩ := us.form
  obtain ⟨ao, co, rfl⟩ := uo.form
  obtain ⟨n, hn⟩ : ∃ n, S.length = n := ⟨_, rfl⟩
  obtain ⟨m, hm⟩ : ∃ m, O.length = m := ⟨_, rfl⟩
  have HU : Hid (USl W0 (.slice ad n c) S) := by rw [hn] at us; exact us
  have HO : Hid (USl W0 (.slice ao m co) O) := by rw [hm] at uo; exact uo
  have HN : Hid (S.length = n) := hn
  have HM : Hid (O.length = m) := hm
  have HB : Hid (∀ i, S.getD i 0 < 4294967296) := hb
  have HBO : Hid (∀ i, O.getD i 0 < 4294967296) := ho
  rw [hn, hm]
  clear us uo hn hm hb ho
  obtain ⟨w1, hw1⟩ : ∃ w1, (W0.alloc (.cells #[.int .i64 pw, .int .i64 ph, .slice ad n c] 24)).alloc (.cells #[.int .i64 qw, .int .i64 qh, .slice ao m co] 24) = w1 := ⟨_, rfl⟩
  have HP1 : Hid (Pbb W0 w1 W0.heap.size pw ph (.slice ad n c) ∧ Pbb W0 w1 (W0.heap.size + 1) qw qh (.slice ao m co)) := by
    have q : Q W0 w1 := by rw [← hw1]; exact ((Q.refl W0).cells _ _).cells _ _
    refine ⟨⟨?_, ?_, ?_, q⟩, ⟨?_, ?_, ?_, q⟩⟩ <;> rw [← hw1] <;> simp [go_sem]
  have C0 := known14_any w1
  have CP : Hid (∀ w : World, Calls Try.prog 6 #[.agg #[.int .i64 pw, .int .i64 ph, .slice ad n c]] w fun e w' => e = .returned (.int .i64 (chk pw ph n)) ∧ Q w w') := fun w => may_any pw ph ad n c w
  have CM : Hid (∀ w : World, Calls Try.prog 6 #[.agg #[.int .i64 qw, .int .i64 qh, .slice ao m co]] w fun e w' => e = .returned (.int .i64 (chk qw qh m)) ∧ Q w w') := fun w => may_any qw qh ao m co w
  obtain ⟨B, hB⟩ : ∃ B, chk pw ph n = B := ⟨_, rfl⟩
  have HB0 : Hid (chk pw ph n = B) := hB
  rw [hB] at CP
  clear hB
  obtain ⟨E, hE⟩ : ∃ E, chk qw qh m = E := ⟨_, rfl⟩
  have HE : Hid (chk qw qh m = E) := hE
  rw [hE] at CM
  clear hE
  go_enter Try.func3, Try.ntmps3
  go_wp2_with fail
  refine C0.mono ?_
  rintro e w2 ⟨rfl, q2⟩
  have HP2 : Hid (Pbb W0 w2 W0.heap.size pw ph (.slice ad n c) ∧ Pbb W0 w2 (W0.heap.size + 1) qw qh (.slice ao m co)) := ⟨HP1.out.1.next q2, HP1.out.2.next q2⟩
  clear C0 q2 hw1 HP1
  have k0 := HP2.out.1.c0
  have k1 := HP2.out.1.c1
  have k2 := HP2.out.1.c2
  by_cases hB0 : B = 0
  rotate_left
  · have e1 : (B != 0) = true := by simpa using hB0
    clear hB0
    go_wp2_with fail
    refine (CP.out w2).mono ?_
    rintro e w3 ⟨rfl, q3⟩
    have HQ3 : Hid (Q W0 w3) := HP2.out.1.q.trans q3
    clear q3
    go_wp2_with fail
    go_ret
    exact ⟨rfl, HQ3.out⟩
  subst hB0
  obtain ⟨pa, pb, rfl, rfl, hsz, hnn0⟩ := chk_zero HB0.out
  have HNN : Hid (n = pa * pb ∧ Size pa pb) := ⟨hnn0, hsz⟩
  clear HB0 hnn0 hsz
  go_wp2_with fail
  refine (CP.out w2).mono ?_
  rintro e w3 ⟨rfl, q3⟩
  have HP3 : Hid (Pbb W0 w3 W0.heap.size (pa : Int) (pb : Int) (.slice ad n c) ∧ Pbb W0 w3 (W0.heap.size + 1) qw qh (.slice ao m co)) := ⟨HP2.out.1.next q3, HP2.out.2.next q3⟩
  clear CP q3 HP2 k0 k1 k2
  have j0 := HP3.out.2.c0
  have j1 := HP3.out.2.c1
  have j2 := HP3.out.2.c2
  by_cases hE0 : E = 0
  rotate_left
  · have e1 : (E != 0) = true := by simpa using hE0
    clear hE0
    go_wp2_with fail
    refine (CM.out w3).mono ?_
    rintro e w4 ⟨rfl, q4⟩
    have HQ4 : Hid (Q W0 w4) := HP3.out.1.q.trans q4
    clear q4
    go_wp2_with fail
    go_ret
    exact ⟨rfl, HQ4.out⟩
  subst hE0
  obtain ⟨qa, qb, rfl, rfl, hsq, hmm0⟩ := chk_zero HE.out
  have HMM : Hid (m = qa * qb) := hmm0
  clear hsq hmm0
  go_wp2_with fail
  refine (CM.out w3).mono ?_
  rintro e w4 ⟨rfl, q4⟩
  have HP4 : Hid (Pbb W0 w4 W0.heap.size (pa : Int) (pb : Int) (.slice ad n c) ∧ Pbb W0 w4 (W0.heap.size + 1) (qa : Int) (qb : Int) (.slice ao m co)) := ⟨HP3.out.1.next q4, HP3.out.2.next q4⟩
  clear q4 HP3 j0 j1 j2 HE CM
  have k0 := HP4.out.1.c0
  have k1 := HP4.out.1.c1
  have k2 := HP4.out.1.c2
  have j0 := HP4.out.2.c0
  have j1 := HP4.out.2.c1
  have j2 := HP4.out.2.c2
  by_cases hpq : pa = qa
  rotate_left
  · have e1 : ((pa : Int) != (qa : Int)) = true := by simpa using (fun h : (pa : Int) = (qa : Int) => hpq (by omega))
    go_wp2_with fail
    go_ret
    exact ⟨rfl, HP4.out.1.q⟩
  by_cases hpq2 : pb = qb
  rotate_left
  · have e1 : ((pb : Int) != (qb : Int)) = true := by simpa using (fun h : (pb : Int) = (qb : Int) => hpq2 (by omega))
    subst hpq
    go_wp2_with fail
    go_ret
    exact ⟨rfl, HP4.out.1.q⟩
  subst hpq hpq2
  have e1 : ((pa : Int) != (pa : Int)) = false := by simp
  have e2 : ((pb : Int) != (pb : Int)) = false := by simp
  have ha1 := HNN.out.2.a1
  have hb1 := HNN.out.2.b1
  have ha2 := HNN.out.2.a2
  have hb2 := HNN.out.2.b2
  obtain ⟨q4, hq4'⟩ : ∃ q4, 4 * pa * pb = q4 := ⟨_, rfl⟩
  have HQ4 : Hid (4 * pa * pb = q4) := hq4'
  have hq4 : 4 * (pa : Int) * (pb : Int) = (q4 : Int) := by rw [← hq4']; push_cast; rfl
  have hq5 : (q4 : Int) ≤ 262144 := by have := HNN.out.2.ab; rw [← hq4', Nat.mul_assoc]; omega
  clear hq4'
  by_cases hbig : 16384 < (q4 : Int)
  · skip
    go_wp2_with fail
    go_ret
    exact ⟨rfl, HP4.out.1.q⟩
  by_cases hA2 : 1024 < 2 * (pa : Int)
  · skip
    go_wp2_with fail
    go_ret
    exact ⟨rfl, HP4.out.1.q⟩
  by_cases hB2 : 1024 < 2 * (pb : Int)
  · skip
    go_wp2_with fail
    go_ret
    exact ⟨rfl, HP4.out.1.q⟩
  have HAB : Hid (q4 ≤ 16384 ∧ 2 * pa ≤ 1024 ∧ 2 * pb ≤ 1024) := ⟨by omega, by omega, by omega⟩
  have hmn : m = n := by rw [HMM.out, HNN.out.1]
  subst hmn
  have hsz := HNN.out.2
  have hnn := HNN.out.1
  obtain ⟨g0, o0, d0, hs0, hle, hI⟩ := HU.out.some (by rw [HN.out, hnn]; exact hsz.pos)
  rw [HN.out] at hs0
  injection hs0 with e5 e6 e8
  subst e5 e8
  obtain ⟨g9, o9, d9, hs9, hle9, hI9⟩ := HO.out.some (by rw [HM.out, hnn]; exact hsz.pos)
  rw [HM.out] at hs9
  injection hs9 with e5 e7 e8
  subst e5 e8
  have HUI : Hid (∀ w : World, Q W0 w → UIs w g0 o0 S) := fun w q i hi => q.cell (hI i hi)
  have HUO : Hid (∀ w : World, Q W0 w → UIs w g9 o9 O) := fun w q i hi => q.cell (hI9 i hi)
  have HSZ : Hid (Size pa pb ∧ m = pa * pb) := ⟨hsz, hnn⟩
  have hm1 : 1 ≤ m := by rw [hnn]; exact hsz.pos
  have hm2 : m ≤ 65536 := by rw [hnn]; exact hsz.ab
  clear hI hI9 hle hle9 e6 e7 hsz hnn
  go_wp2_with fail
  have HCC : Hid (∀ x : World, Q w4 x → Calls Try.prog 7 #[.agg #[.int .i64 (pa : Int), .int .i64 (pb : Int), .slice (some ⟨g0, o0, none⟩) m c]] x fun e x' => ∃ v, e = .returned v ∧ CpV (pa : Int) (pb : Int) m S x.heap.size x'.heap.size x' v ∧ Q x x') := fun x q => hcopy_cp (pa : Int) (pb : Int) (some ⟨g0, o0, none⟩) m c S x (HU.out.next (HP4.out.1.q.trans q)) HN.out (by omega)
  refine regionCp (pw := (pa : Int)) (ph := (pb : Int)) (ad := some ⟨g0, o0, none⟩) (n := m) (c := c) (b5 := W0.heap.size) (S := S) rfl rfl ⟨rfl, k0, k1, k2, HCC.out⟩ ?_
  intro w5 a1 c1 a2 c2 g1 g2 HT
  rw [normCp]
  clear k0 k1 k2 j0 j1 j2 HCC
  have hlw4 : W0.heap.size + 1 < w4.heap.size := World.block_lt_of_cell? w4 ⟨W0.heap.size + 1, 0, none⟩ HP4.out.2.c0
  rcases HT.two with h0 | ⟨b1, b2, rfl, rfl, l1, l2, n1, n2, n3, n4, n5, u1, u2, z1, z2⟩
  · omega
  have HR : Hid (Ris W0 w5 W0.heap.size g1 g2 (pa : Int) (pb : Int) (.slice (some ⟨g0, o0, none⟩) m c) m S O (some ⟨b1, 0, none⟩) (some ⟨b2, 0, none⟩) c1 c2 0 ∧ Pbb W0 w5 (W0.heap.size + 1) (pa : Int) (pb : Int) (.slice (some ⟨g9, o9, none⟩) m co)) := by
    refine ⟨⟨HP4.out.1.next HT.q, ⟨HT.c10, HT.c11, HT.c12, HP4.out.1.q.trans HT.q⟩, ⟨HT.c20, HT.c21, HT.c22, HP4.out.1.q.trans HT.q⟩, Or.inr ⟨b1, b2, rfl, rfl, by omega, by omega, n1, n2, n3, n4, n5, fun j hj => ?_, fun j hj => ?_, z1, z2⟩, fun j hj => by omega, rfl⟩, HP4.out.2.next HT.q⟩
    · have := u1 j (by rw [HN.out]; exact hj)
      rw [Nat.zero_add] at this
      exact this
    · have := u2 j (by rw [HN.out]; exact hj)
      rw [Nat.zero_add] at this
      exact this
  have HCN : Hid (m ≤ c1 ∧ m ≤ c2) := ⟨HT.k1, HT.k2⟩
  have HBN : Hid (b1 ≠ W0.heap.size + 1 ∧ b2 ≠ W0.heap.size + 1 ∧ W0.heap.size ≤ b1 ∧ W0.heap.size ≤ b2) := ⟨by omega, by omega, by omega, by omega⟩
  have r2 := HR.out.1.p.c2
  have rc := HUI.out w5 HR.out.1.p.q 0 (by rw [HN.out]; omega)
  obtain ⟨s0, hs0⟩ : ∃ s0, S.getD 0 0 = s0 := ⟨_, rfl⟩
  have hs4 : s0 < 4294967296 := by rw [← hs0]; exact HB.out 0
  rw [hs0, Nat.add_zero] at rc
  have HS0 : Hid (S.getD 0 0 = s0 ∧ s0 < 4294967296) := ⟨hs0, hs4⟩
  clear HT HP4 hlw4 l1 l2 n1 n2 n3 n4 n5 u1 u2 z1 z2 hs0
  go_wp2_with fail
  refine regionPq6 (V5 := W0.heap.size) (g0 := g0) (o0 := o0) (n := m) (c := c) (s0 := s0) rfl rfl ⟨rfl, r2, rc, by omega, hs4⟩ ?_
  rintro w6 v4 v9 v10 v11 ⟨X0, rfl, hX0⟩ ⟨Y0, rfl, hY0⟩ q6
  rw [normPq6]
  have HX0 : Hid ((Ris W0 w6 W0.heap.size g1 g2 (pa : Int) (pb : Int) (.slice (some ⟨g0, o0, none⟩) m c) m S O (some ⟨b1, 0, none⟩) (some ⟨b2, 0, none⟩) c1 c2 0 ∧ Pbb W0 w6 (W0.heap.size + 1) (pa : Int) (pb : Int) (.slice (some ⟨g9, o9, none⟩) m co)) ∧ LstP S O 0 X0 Y0) := ⟨⟨HR.out.1.next q6, HR.out.2.next q6⟩, LstP.start HS0.out.1 HS0.out.2 hX0 hY0⟩
  clear q6 HR r2 rc hX0 hY0 hs4
  go_wp2_with fail
  go_loopg [9, 10, 11] m (fun kk s9 s10 s11 wr => ∃ (i X Y : Nat), s11 = .int .i64 (i : Int) ∧ i + kk = m ∧ s9 = .float .f64 X ∧ s10 = .float .f64 Y ∧ Hid ((Ris W0 wr W0.heap.size g1 g2 (pa : Int) (pb : Int) (.slice (some ⟨g0, o0, none⟩) m c) m S O (some ⟨b1, 0, none⟩) (some ⟨b2, 0, none⟩) c1 c2 i ∧ Pbb W0 wr (W0.heap.size + 1) (pa : Int) (pb : Int) (.slice (some ⟨g9, o9, none⟩) m co)) ∧ LstP S O i X Y))
  case atStart => exact ⟨0, X0, Y0, rfl, by omega, rfl, rfl, HX0⟩
  case round =>
    clear HX0
    obtain ⟨i, X, Y, rfl, hi', rfl, rfl, HX⟩ := hrel
    have c2' := HX.out.1.1.p.c2
    by_cases hlt : i < m
    · have hlt' : (i : Int) < (m : Int) := by omega
      have e2' := HX.out.1.2.c2
      have ci := HUI.out wr HX.out.1.1.p.q i (by rw [HN.out]; exact hlt)
      have di := HUO.out wr HX.out.1.1.p.q i (by rw [HM.out]; exact hlt)
      have hx4 := HB.out i
      have hy4 := HBO.out i
      obtain ⟨x, hx⟩ : ∃ x, S.getD i 0 = x := ⟨_, rfl⟩
      obtain ⟨y, hy⟩ : ∃ y, O.getD i 0 = y := ⟨_, rfl⟩
      rw [hx] at ci hx4
      rw [hy] at di hy4
      have HXY : Hid (S.getD i 0 = x ∧ O.getD i 0 = y) := ⟨hx, hy⟩
      have ex := fin_word x hx4
      have ey := fin_word y hy4
      clear hx hy
      rcases Nat.lt_or_ge (rung32 x) 2139095040 with hf | hf
      rotate_left
      · rw [decide_eq_true (by omega)] at ex
        clear hf ey
        go_wp2_with fail
        go_ret
        exact ⟨rfl, HX.out.1.1.p.q⟩
      rw [decide_eq_false (by omega)] at ex
      rcases Nat.lt_or_ge (rung32 y) 2139095040 with hg | hg
      rotate_left
      · rw [decide_eq_true (by omega)] at ey
        clear hg
        go_wp2_with fail
        go_ret
        exact ⟨rfl, HX.out.1.1.p.q⟩
      rw [decide_eq_false (by omega)] at ey
      have CV : Hid (∀ (z : Nat) (w : World), (z = x ∨ z = y) → Calls Try.prog 8 #[.int .u32 (z : Int)] w fun e w' => e = .returned (.float .f64 (wideN z)) ∧ w' = w) := fun z w hz => v14_any z (nan_fin (by rcases hz with rfl | rfl <;> assumption)) w
      have HFG : Hid (rung32 x < 2139095040 ∧ rung32 y < 2139095040 ∧ x < 4294967296 ∧ y < 4294967296) := ⟨hf, hg, hx4, hy4⟩
      obtain ⟨lw, mw, rfl, rfl, hlw, hmw, hall⟩ := HX.out.2 (by
        rcases Nat.eq_zero_or_pos i with h | h
        · subst h; rw [HXY.out.1]; exact hf
        · exact (HX.out.1.1.fin 0 h).1)
      have HLM : Hid (Fnt lw ∧ Fnt mw ∧ ∀ j, j < i → srung32 lw ≤ srung32 (loF S O j) ∧ srung32 (hiF S O j) ≤ srung32 mw) := ⟨hlw, hmw, hall⟩
      by_cases hcmp : srung32 y < srung32 x
      · have HCM : Hid (srung32 y < srung32 x) := hcmp
        clear hcmp
        have hord := ord_lt hg hf
        rw [decide_eq_true HCM.out] at hord
        have hord2 : (FloatKind.f64.format.order (wideN y) (wideN x) == some Ordering.lt) = true := hord
        clear hlw hmw hall hf hg hx4 hy4
        go_wp2_with fail
        clear ex ey
        have n0 := qw_some wr
        have q1 := qw_cell ci
        have q2 := qw_cell di
        have q3 := qw_cell c2'
        have q4 := qw_cell e2'
        go_wp2_with fail
        refine wp_region_quiet_Q (by kernel_rfl) (by kernel_rfl) ?_
        repeat (first | go_big_quiet_step (first | (go_at_call 8; exact calls_qs (CV.out _ _ (by first | exact Or.inl rfl | exact Or.inr rfl)))) | quiet_step (first | (go_at_call 8; exact calls_qs (CV.out _ _ (by first | exact Or.inl rfl | exact Or.inr rfl)))))
        refine wpQuiet_nil ?_
        intro w7 hw'
        have hq7 := qw_out hw'
        clear n0 q1 q2 q3 q4
        obtain ⟨⟨u, hu⟩, hz⟩ : (∃ u, wr.cell? ⟨b1, i, none⟩ = some u) ∧ wr.frozen? ⟨b1, i, none⟩ = false := by
          rcases HX.out.1.1.two with h0 | ⟨d1, d2, e1, e2, _, _, _, _, _, _, _, u1, u2, z1, z2⟩
          · omega
          · injection e1 with e1
            injection e1 with e1
            injection e2 with e2
            injection e2 with e2
            subst e1 e2
            exact ⟨⟨_, u1 i hlt⟩, z1 i⟩
        have n0 := qw_some w7
        have d1 := qw_cell (hq7.cell di)
        have d2 := qw_cell (hq7.cell HX.out.1.1.lo.c2)
        have d9 := qw_cell (hq7.cell e2')
        have d3 := hq7.cell hu
        have d4 : w7.frozen? ⟨b1, i, none⟩ = false := by rw [hq7.2]; exact hz
        clear ci di c2' e2' hw' hu hz
        go_wp2_with fail
        refine wp_region_mk [0, 1, 2, 3, 4, 5, 6, 7, 8] [[9]] 1 _ (by kernel_rfl) (by kernel_rfl) rfl (by kernel_rfl) ?_
        simp only [List.filterMap_cons, List.filterMap_nil, List.getElem?_cons_zero, List.getElem?_cons_succ]
        repeat (first | go_big_quiet_step (fail) | quiet_step (fail))
        refine wpQuiet_nil ?_
        intro w8 hx8
        have d5 := hx8.cell d3
        have d6 : w8.frozen? ⟨b1, i, none⟩ = false := by rw [hx8.2]; exact d4
        refine tree_skipF 9 rfl rfl rfl (x' := w8.setCell ⟨b1, i, none⟩ (.int .u32 (y : Int))) (by simp [execOp, go_sem, d5, d6]) ?_
        refine tree_nil ?_
        have HP10 : Hid (Ris W0 (w8.setCell ⟨b1, i, none⟩ (.int .u32 (y : Int))) W0.heap.size g1 g2 (pa : Int) (pb : Int) (.slice (some ⟨g0, o0, none⟩) m c) m S O (some ⟨b1, 0, none⟩) (some ⟨b2, 0, none⟩) c1 c2 (i + 1) ∧ Pbb W0 (w8.setCell ⟨b1, i, none⟩ (.int .u32 (y : Int))) (W0.heap.size + 1) (pa : Int) (pb : Int) (.slice (some ⟨g9, o9, none⟩) m co)) := by
          have hR := (((HX.out.1.1.next hq7).next hx8).put (b1 := b1) (b2 := b2) rfl rfl hlt (by rw [HXY.out.1]; exact HFG.out.1) (by rw [HXY.out.2]; exact HFG.out.2.1)).1
          rw [HXY.out.1, HXY.out.2] at hR
          exact ⟨hR HCM.out, ((HX.out.1.2.next hq7).next hx8).setR (p := ⟨b1, i, none⟩) HBN.out.1 HBN.out.2.2.1 _⟩
        generalize w8.setCell ⟨b1, i, none⟩ (.int .u32 (y : Int)) = w9 at HP10 ⊢
        clear n0 d1 d2 d3 d4 d5 d6 d9 hx8 hq7
        have eL : loF S O i = y := by unfold loF; rw [HXY.out.1, HXY.out.2, if_pos HCM.out]
        have eH : hiF S O i = x := by unfold hiF; rw [HXY.out.1, HXY.out.2, if_pos HCM.out]
        obtain ⟨cl, ch⟩ : w9.cell? ⟨b1, i, none⟩ = some (.int .u32 (y : Int)) ∧ w9.cell? ⟨b2, i, none⟩ = some (.int .u32 (x : Int)) := by
          rcases HP10.out.1.two with h0 | ⟨d1, d2, e1, e2, _, _, _, _, _, _, _, u1, u2, z1, z2⟩
          · omega
          · injection e1 with e1
            injection e1 with e1
            injection e2 with e2
            injection e2 with e2
            subst e1 e2
            have a1 := u1 i hlt
            have a2 := u2 i hlt
            unfold mixF at a1 a2
            rw [if_pos (by omega)] at a1 a2
            rw [eL] at a1
            rw [eH] at a2
            exact ⟨a1, a2⟩
        obtain ⟨cm, hcm, hc1, hc2, hcr⟩ := run_minw (a := lw) (b := y) HLM.out.1.1 HFG.out.2.1
        obtain ⟨dm, hdm, hd1, hd2, hdr⟩ := run_maxw (a := mw) (b := x) HLM.out.2.1.1 HFG.out.1
        have HL2 : Hid (LstP S O (i + 1) (wideN cm) (wideN dm)) := LstP.step HLM.out.2.2 (by rcases hcm with rfl | rfl; exact HLM.out.1; exact ⟨HFG.out.2.1, HFG.out.2.2.2⟩) (by rcases hdm with rfl | rfl; exact HLM.out.2.1; exact ⟨HFG.out.1, HFG.out.2.2.1⟩) hc1 (by rw [eL]; exact hc2) hd1 (by rw [eH]; exact hd2)
        have n0 := qw_some w9
        have q1 := qw_cell cl
        have q2 := qw_cell ch
        have q3 := qw_cell HP10.out.1.lo.c2
        have q4 := qw_cell HP10.out.1.hi.c2
        clear hcm hdm hc1 hc2 hd1 hd2 eL eH cl ch HX hord hord2
        go_wp2_with fail
        refine wp_region_quiet_Q (by kernel_rfl) (by kernel_rfl) ?_
        repeat (first | go_big_quiet_step (first | (go_at_call 8; exact calls_qs (CV.out _ _ (by first | exact Or.inl rfl | exact Or.inr rfl)))) | quiet_step (first | (go_at_call 8; exact calls_qs (CV.out _ _ (by first | exact Or.inl rfl | exact Or.inr rfl)))))
        refine wpQuiet_nil ?_
        intro w10 hw'
        have HE : Hid ((Ris W0 w10 W0.heap.size g1 g2 (pa : Int) (pb : Int) (.slice (some ⟨g0, o0, none⟩) m c) m S O (some ⟨b1, 0, none⟩) (some ⟨b2, 0, none⟩) c1 c2 (i + 1) ∧ Pbb W0 w10 (W0.heap.size + 1) (pa : Int) (pb : Int) (.slice (some ⟨g9, o9, none⟩) m co)) ∧ LstP S O (i + 1) (wideN cm) (wideN dm)) := ⟨⟨HP10.out.1.next (qw_out hw'), HP10.out.2.next (qw_out hw')⟩, HL2.out⟩
        clear n0 q1 q2 q3 q4 hw' HP10 HL2 hcr hdr
        go_wp2_with fail
        go_roundg (m - (i + 1))
        case measure => go_light; omega
        case rel => go_light; exact ⟨i + 1, _, _, by go_num, by omega, rfl, rfl, HE⟩
      · have HCM : Hid (srung32 x ≤ srung32 y) := Int.not_lt.1 hcmp
        clear hcmp
        have hord := ord_lt hg hf
        rw [decide_eq_false (Int.not_lt.2 HCM.out)] at hord
        have hord2 : (FloatKind.f64.format.order (wideN y) (wideN x) == some Ordering.lt) = false := hord
        clear hlw hmw hall hf hg hx4 hy4
        go_wp2_with fail
        clear ex ey
        have n0 := qw_some wr
        have q1 := qw_cell ci
        have q2 := qw_cell di
        have q3 := qw_cell c2'
        have q4 := qw_cell e2'
        go_wp2_with fail
        refine wp_region_quiet_Q (by kernel_rfl) (by kernel_rfl) ?_
        repeat (first | go_big_quiet_step (first | (go_at_call 8; exact calls_qs (CV.out _ _ (by first | exact Or.inl rfl | exact Or.inr rfl)))) | quiet_step (first | (go_at_call 8; exact calls_qs (CV.out _ _ (by first | exact Or.inl rfl | exact Or.inr rfl)))))
        refine wpQuiet_nil ?_
        intro w7 hw'
        have hq7 := qw_out hw'
        clear n0 q1 q2 q3 q4
        obtain ⟨⟨u, hu⟩, hz⟩ : (∃ u, wr.cell? ⟨b2, i, none⟩ = some u) ∧ wr.frozen? ⟨b2, i, none⟩ = false := by
          rcases HX.out.1.1.two with h0 | ⟨d1, d2, e1, e2, _, _, _, _, _, _, _, u1, u2, z1, z2⟩
          · omega
          · injection e1 with e1
            injection e1 with e1
            injection e2 with e2
            injection e2 with e2
            subst e1 e2
            exact ⟨⟨_, u2 i hlt⟩, z2 i⟩
        have n0 := qw_some w7
        have d1 := qw_cell (hq7.cell di)
        have d2 := qw_cell (hq7.cell HX.out.1.1.hi.c2)
        have d9 := qw_cell (hq7.cell e2')
        have d3 := hq7.cell hu
        have d4 : w7.frozen? ⟨b2, i, none⟩ = false := by rw [hq7.2]; exact hz
        clear ci di c2' e2' hw' hu hz
        go_wp2_with fail
        refine wp_region_mk [0, 1, 2, 3, 4, 5, 6, 7, 8] [[9]] 1 _ (by kernel_rfl) (by kernel_rfl) rfl (by kernel_rfl) ?_
        simp only [List.filterMap_cons, List.filterMap_nil, List.getElem?_cons_zero, List.getElem?_cons_succ]
        repeat (first | go_big_quiet_step (fail) | quiet_step (fail))
        refine wpQuiet_nil ?_
        intro w8 hx8
        have d5 := hx8.cell d3
        have d6 : w8.frozen? ⟨b2, i, none⟩ = false := by rw [hx8.2]; exact d4
        refine tree_skipF 9 rfl rfl rfl (x' := w8.setCell ⟨b2, i, none⟩ (.int .u32 (y : Int))) (by simp [execOp, go_sem, d5, d6]) ?_
        refine tree_nil ?_
        have HP10 : Hid (Ris W0 (w8.setCell ⟨b2, i, none⟩ (.int .u32 (y : Int))) W0.heap.size g1 g2 (pa : Int) (pb : Int) (.slice (some ⟨g0, o0, none⟩) m c) m S O (some ⟨b1, 0, none⟩) (some ⟨b2, 0, none⟩) c1 c2 (i + 1) ∧ Pbb W0 (w8.setCell ⟨b2, i, none⟩ (.int .u32 (y : Int))) (W0.heap.size + 1) (pa : Int) (pb : Int) (.slice (some ⟨g9, o9, none⟩) m co)) := by
          have hR := (((HX.out.1.1.next hq7).next hx8).put (b1 := b1) (b2 := b2) rfl rfl hlt (by rw [HXY.out.1]; exact HFG.out.1) (by rw [HXY.out.2]; exact HFG.out.2.1)).2
          rw [HXY.out.1, HXY.out.2] at hR
          exact ⟨hR (Int.not_lt.2 HCM.out), ((HX.out.1.2.next hq7).next hx8).setR (p := ⟨b2, i, none⟩) HBN.out.2.1 HBN.out.2.2.2 _⟩
        generalize w8.setCell ⟨b2, i, none⟩ (.int .u32 (y : Int)) = w9 at HP10 ⊢
        clear n0 d1 d2 d3 d4 d5 d6 d9 hx8 hq7
        have eL : loF S O i = x := by unfold loF; rw [HXY.out.1, HXY.out.2, if_neg (Int.not_lt.2 HCM.out)]
        have eH : hiF S O i = y := by unfold hiF; rw [HXY.out.1, HXY.out.2, if_neg (Int.not_lt.2 HCM.out)]
        obtain ⟨cl, ch⟩ : w9.cell? ⟨b1, i, none⟩ = some (.int .u32 (x : Int)) ∧ w9.cell? ⟨b2, i, none⟩ = some (.int .u32 (y : Int)) := by
          rcases HP10.out.1.two with h0 | ⟨d1, d2, e1, e2, _, _, _, _, _, _, _, u1, u2, z1, z2⟩
          · omega
          · injection e1 with e1
            injection e1 with e1
            injection e2 with e2
            injection e2 with e2
            subst e1 e2
            have a1 := u1 i hlt
            have a2 := u2 i hlt
            unfold mixF at a1 a2
            rw [if_pos (by omega)] at a1 a2
            rw [eL] at a1
            rw [eH] at a2
            exact ⟨a1, a2⟩
        obtain ⟨cm, hcm, hc1, hc2, hcr⟩ := run_minw (a := lw) (b := x) HLM.out.1.1 HFG.out.1
        obtain ⟨dm, hdm, hd1, hd2, hdr⟩ := run_maxw (a := mw) (b := y) HLM.out.2.1.1 HFG.out.2.1
        have HL2 : Hid (LstP S O (i + 1) (wideN cm) (wideN dm)) := LstP.step HLM.out.2.2 (by rcases hcm with rfl | rfl; exact HLM.out.1; exact ⟨HFG.out.1, HFG.out.2.2.1⟩) (by rcases hdm with rfl | rfl; exact HLM.out.2.1; exact ⟨HFG.out.2.1, HFG.out.2.2.2⟩) hc1 (by rw [eL]; exact hc2) hd1 (by rw [eH]; exact hd2)
        have n0 := qw_some w9
        have q1 := qw_cell cl
        have q2 := qw_cell ch
        have q3 := qw_cell HP10.out.1.lo.c2
        have q4 := qw_cell HP10.out.1.hi.c2
        clear hcm hdm hc1 hc2 hd1 hd2 eL eH cl ch HX hord hord2
        go_wp2_with fail
        refine wp_region_quiet_Q (by kernel_rfl) (by kernel_rfl) ?_
        repeat (first | go_big_quiet_step (first | (go_at_call 8; exact calls_qs (CV.out _ _ (by first | exact Or.inl rfl | exact Or.inr rfl)))) | quiet_step (first | (go_at_call 8; exact calls_qs (CV.out _ _ (by first | exact Or.inl rfl | exact Or.inr rfl)))))
        skip
        refine wpQuiet_nil ?_
        intro w10 hw'
        have HE : Hid ((Ris W0 w10 W0.heap.size g1 g2 (pa : Int) (pb : Int) (.slice (some ⟨g0, o0, none⟩) m c) m S O (some ⟨b1, 0, none⟩) (some ⟨b2, 0, none⟩) c1 c2 (i + 1) ∧ Pbb W0 w10 (W0.heap.size + 1) (pa : Int) (pb : Int) (.slice (some ⟨g9, o9, none⟩) m co)) ∧ LstP S O (i + 1) (wideN cm) (wideN dm)) := ⟨⟨HP10.out.1.next (qw_out hw'), HP10.out.2.next (qw_out hw')⟩, HL2.out⟩
        clear n0 q1 q2 q3 q4 hw' HP10 HL2 hcr hdr
        go_wp2_with fail
        go_roundg (m - (i + 1))
        case measure => go_light; omega
        case rel => go_light; exact ⟨i + 1, _, _, by go_num, by omega, rfl, rfl, HE⟩
    · obtain rfl : m = i := by omega
      have hge : ¬ (m : Int) < (m : Int) := by omega
      have l0 := HX.out.1.1.lo.c0
      have l1 := HX.out.1.1.lo.c1
      have l2 := HX.out.1.1.lo.c2
      obtain ⟨r1, r2⟩ : (∀ j, j < m → wr.cell? ⟨b1, j, none⟩ = some (.int .u32 ((loF S O j : Nat) : Int))) ∧ (∀ j, j < m → wr.cell? ⟨b2, j, none⟩ = some (.int .u32 ((hiF S O j : Nat) : Int))) := by
        rcases HX.out.1.1.two with h0 | ⟨d1, d2, e1, e2, _, _, _, _, _, _, _, u1, u2, _, _⟩
        · omega
        · injection e1 with e1
          injection e1 with e1
          injection e2 with e2
          injection e2 with e2
          subst e1 e2
          refine ⟨fun j hj => ?_, fun j hj => ?_⟩
          · have := u1 j hj
            unfold mixF at this
            rw [if_pos hj] at this
            exact this
          · have := u2 j hj
            unfold mixF at this
            rw [if_pos hj] at this
            exact this
      have U1 : UIs wr b1 0 (tabB m (loF S O)) := fun j hj => by rw [tabB_len] at hj; rw [Nat.zero_add, tabB_at hj]; exact r1 j hj
      have U2 : UIs wr b2 0 (tabB m (hiF S O)) := fun j hj => by rw [tabB_len] at hj; rw [Nat.zero_add, tabB_at hj]; exact r2 j hj
      have lo4 : ∀ j, loF S O j < 4294967296 := fun j => by unfold loF; split <;> first | exact HBO.out j | exact HB.out j
      have hi4 : ∀ j, hiF S O j < 4294967296 := fun j => by unfold hiF; split <;> first | exact HBO.out j | exact HB.out j
      have t4 : ∀ (F : Nat → Nat), (∀ j, F j < 4294967296) → ∀ j, (tabB m F).getD j 0 < 4294967296 := fun F hF j => by
        rcases Nat.lt_or_ge j m with h | h
        · rw [tabB_at h]; exact hF j
        · rw [List.getD_eq_getElem?_getD, List.getElem?_eq_none (by rw [tabB_len]; exact h)]; decide
      obtain ⟨lw, mw, rfl, rfl, hlw, hmw, hall⟩ := HX.out.2 (HX.out.1.1.fin 0 (by omega)).1
      have hnn := HSZ.out.2
      have hsz := HSZ.out.1
      have ff : ∀ t, t < pa * pb → RrP lw mw ((tabB m (loF S O)).getD t 0) ((tabB m (hiF S O)).getD t 0) := fun t ht => by
        rw [← hnn] at ht
        rw [tabB_at ht, tabB_at ht]
        have a := lohi_facts (HX.out.1.1.fin t ht).1 (HX.out.1.1.fin t ht).2
        have b := hall t ht
        exact ⟨⟨lo4 t, hi4 t⟩, a.1, a.2.1, b.1, a.2.2, b.2⟩
      obtain ⟨hp, hhp⟩ : ∃ hp, (pa + 1) / 2 = hp := ⟨_, rfl⟩
      obtain ⟨hq, hhq⟩ : ∃ hq, (pb + 1) / 2 = hq := ⟨_, rfl⟩
      obtain ⟨hn, hhn⟩ : ∃ hn, hp * hq = hn := ⟨_, rfl⟩
      have hh := hsz.half
      have hn1 : 1 ≤ hn := by rw [← hhn, ← hhp, ← hhq]; exact hh.pos
      have hn2 : hn ≤ 65536 := by rw [← hhn, ← hhp, ← hhq]; exact hh.ab
      obtain ⟨nw, hnw⟩ : ∃ nw : Nat, 2 * pa - (if od then 1 else 0) = nw := ⟨_, rfl⟩
      obtain ⟨nh, hnh⟩ : ∃ nh : Nat, 2 * pb - (if od then 1 else 0) = nh := ⟨_, rfl⟩
      obtain ⟨ne, hne⟩ : ∃ ne, nw * nh = ne := ⟨_, rfl⟩
      have hod : (if od then 1 else 0 : Nat) ≤ 1 := by cases od <;> decide
      have hsn : Size nw nh := by
        refine ⟨by omega, by omega, by omega, by omega, ?_⟩
        have h1 : nw * nh ≤ (2 * pa) * (2 * pb) := Nat.mul_le_mul (by omega) (by omega)
        have h2 : (2 * pa) * (2 * pb) = 4 * pa * pb := by rw [Nat.mul_mul_mul_comm, Nat.mul_assoc 4]
        rw [h2, HQ4.out] at h1
        omega
      have ne1 : 1 ≤ ne := by rw [← hne]; exact hsn.pos
      have ne2 : ne ≤ 65536 := by rw [← hne]; exact hsn.ab
      have hwa : (nw + 1) / 2 = pa := by cases od <;> simp at hnw <;> omega
      have hwb : (nh + 1) / 2 = pb := by cases od <;> simp at hnh <;> omega
      have CR1 : Hid (∀ x : World, Q wr x → Calls Try.prog 9 #[.agg #[.int .i64 (pa : Int), .int .i64 (pb : Int), .slice (some ⟨b1, 0, none⟩) m c1]] x fun e w' => ∃ gt, e = .returned (.tuple #[.agg #[.int .i64 (hp : Int), .int .i64 (hq : Int), .slice (some ⟨gt, 0, none⟩) hn hn], .int .i64 0]) ∧ VR w' gt hn (fun j => .int .u32 ((rdF pa pb (tabB m (loF S O)) j : Nat) : Int)) ∧ x.heap.size ≤ gt ∧ gt < w'.heap.size ∧ Qb x w') := fun x q => reduce_good pa pb hp hq hn b1 0 m c1 (tabB m (loF S O)) x hsz hnn hhp hhq hhn (tabB_len _ _) (t4 _ lo4) (fun j hj => q.cell (U1 j hj)) HCN.out.1
      have CR2 : Hid (∀ x : World, Q wr x → Calls Try.prog 9 #[.agg #[.int .i64 (pa : Int), .int .i64 (pb : Int), .slice (some ⟨b2, 0, none⟩) m c2]] x fun e w' => ∃ gt, e = .returned (.tuple #[.agg #[.int .i64 (hp : Int), .int .i64 (hq : Int), .slice (some ⟨gt, 0, none⟩) hn hn], .int .i64 0]) ∧ VR w' gt hn (fun j => .int .u32 ((rdF pa pb (tabB m (hiF S O)) j : Nat) : Int)) ∧ x.heap.size ≤ gt ∧ gt < w'.heap.size ∧ Qb x w') := fun x q => reduce_good pa pb hp hq hn b2 0 m c2 (tabB m (hiF S O)) x hsz hnn hhp hhq hhn (tabB_len _ _) (t4 _ hi4) (fun j hj => q.cell (U2 j hj)) HCN.out.2
      have CE1 : Hid (∀ x : World, Q wr x → Calls Try.prog 10 #[.agg #[.int .i64 (pa : Int), .int .i64 (pb : Int), .slice (some ⟨b1, 0, none⟩) m c1], .int .i64 (nw : Int), .int .i64 (nh : Int)] x fun e w' => ∃ gt, e = .returned (.tuple #[.agg #[.int .i64 (nw : Int), .int .i64 (nh : Int), .slice (some ⟨gt, 0, none⟩) ne ne], .int .i64 0]) ∧ VR w' gt ne (fun j => .int .u32 ((exF pa pb nw nh (tabB m (loF S O)) j : Nat) : Int)) ∧ x.heap.size ≤ gt ∧ gt < w'.heap.size ∧ Qb x w') := fun x q => expand_good pa pb nw nh ne b1 0 m c1 (tabB m (loF S O)) x hsz hnn hsn hwa hwb hne (tabB_len _ _) (t4 _ lo4) (fun j hj => q.cell (U1 j hj)) HCN.out.1
      have CE2 : Hid (∀ x : World, Q wr x → Calls Try.prog 10 #[.agg #[.int .i64 (pa : Int), .int .i64 (pb : Int), .slice (some ⟨b2, 0, none⟩) m c2], .int .i64 (nw : Int), .int .i64 (nh : Int)] x fun e w' => ∃ gt, e = .returned (.tuple #[.agg #[.int .i64 (nw : Int), .int .i64 (nh : Int), .slice (some ⟨gt, 0, none⟩) ne ne], .int .i64 0]) ∧ VR w' gt ne (fun j => .int .u32 ((exF pa pb nw nh (tabB m (hiF S O)) j : Nat) : Int)) ∧ x.heap.size ≤ gt ∧ gt < w'.heap.size ∧ Qb x w') := fun x q => expand_good pa pb nw nh ne b2 0 m c2 (tabB m (hiF S O)) x hsz hnn hsn hwa hwb hne (tabB_len _ _) (t4 _ hi4) (fun j hj => q.cell (U2 j hj)) HCN.out.2
      have HV1 : ∀ j, j < hn → RrP lw mw (rdF pa pb (tabB m (loF S O)) j) (rdF pa pb (tabB m (hiF S O)) j) := fun j hj => rd_rise hsz hlw hmw ff (by rw [hhp, hhq, hhn]; exact hj)
      have HV2 : ∀ j, j < ne → RrP lw mw (exF pa pb nw nh (tabB m (loF S O)) j) (exF pa pb nw nh (tabB m (hiF S O)) j) := fun j hj => ex_rise hsz (by have := hsn.a1; omega) hlw hmw ff (by rw [hne]; exact hj)
      obtain ⟨F1, hF1⟩ : ∃ F, rdF pa pb (tabB m (loF S O)) = F := ⟨_, rfl⟩
      obtain ⟨F2, hF2⟩ : ∃ F, rdF pa pb (tabB m (hiF S O)) = F := ⟨_, rfl⟩
      obtain ⟨F3, hF3⟩ : ∃ F, exF pa pb nw nh (tabB m (loF S O)) = F := ⟨_, rfl⟩
      obtain ⟨F4, hF4⟩ : ∃ F, exF pa pb nw nh (tabB m (hiF S O)) = F := ⟨_, rfl⟩
      simp only [hF1] at CR1 HV1
      simp only [hF2] at CR2 HV1
      simp only [hF3] at CE1 HV2
      simp only [hF4] at CE2 HV2
      have HK1 : Hid (∀ (x : World) (ga gb : Nat), VR x ga hn (fun j => .int .u32 ((F1 j : Nat) : Int)) → VR x gb hn (fun j => .int .u32 ((F2 j : Nat) : Int)) → Calls Try.prog 12 #[.agg #[.int .i64 (hp : Int), .int .i64 (hq : Int), .slice (some ⟨ga, 0, none⟩) hn hn], .agg #[.int .i64 (hp : Int), .int .i64 (hq : Int), .slice (some ⟨gb, 0, none⟩) hn hn], .float .f64 (wideN lw), .float .f64 (wideN mw)] x fun e w' => e = .returned (.bool true) ∧ Q x w') := fun x ga gb h1 h2 => rises14_any hp hq ga gb hn F1 F2 lw mw x hn1 hn2 h1 h2 hlw hmw (fun j hj => by have := HV1 j hj; exact ⟨this.1.1, this.1.2, this.2⟩)
      have HK2 : Hid (∀ (x : World) (ga gb : Nat), VR x ga ne (fun j => .int .u32 ((F3 j : Nat) : Int)) → VR x gb ne (fun j => .int .u32 ((F4 j : Nat) : Int)) → Calls Try.prog 12 #[.agg #[.int .i64 (nw : Int), .int .i64 (nh : Int), .slice (some ⟨ga, 0, none⟩) ne ne], .agg #[.int .i64 (nw : Int), .int .i64 (nh : Int), .slice (some ⟨gb, 0, none⟩) ne ne], .float .f64 (wideN lw), .float .f64 (wideN mw)] x fun e w' => e = .returned (.bool true) ∧ Q x w') := fun x ga gb h1 h2 => rises14_any nw nh ga gb ne F3 F4 lw mw x ne1 ne2 h1 h2 hlw hmw (fun j hj => by have := HV2 j hj; exact ⟨this.1.1, this.1.2, this.2⟩)
      have CN : Hid (∀ (e0 : Int) (w : World), Calls Try.prog 11 #[.int .i64 e0] w fun e w' => e = .returned (.int .i64 e0) ∧ w' = w) := num14_any
      have hwi : (if od then 2 * (pa : Int) - 1 else 2 * (pa : Int)) = (nw : Int) := by cases od <;> simp at hnw <;> simp <;> omega
      have hhi : (if od then 2 * (pb : Int) - 1 else 2 * (pb : Int)) = (nh : Int) := by cases od <;> simp at hnh <;> simp <;> omega
      have n0 := qw_some wr
      have q0 := qw_cell HX.out.1.1.p.c0
      have q1 := qw_cell HX.out.1.1.p.c1
      clear hF1 hF2 hF3 hF4 hnn hsz U1 U2 lo4 hi4 t4 r1 r2 hall hlw hmw HV1 HV2 ff hhp hhq hhn hh hnw hnh hne hod hsn hwa hwb l0 l1 l2
      go_wp2_with fail
      refine wp_region_quiet_Q (by kernel_rfl) (by kernel_rfl) ?_
      repeat (first | go_big_quiet_step (fail) | quiet_step (fail))
      refine wpQuiet_nil ?_
      intro w5 hw'
      have q5 := qw_out hw'
      have HX : Hid (Q wr w5 ∧ Pbb W0 w5 g1 (pa : Int) (pb : Int) (.slice (some ⟨b1, 0, none⟩) m c1) ∧ Pbb W0 w5 g2 (pa : Int) (pb : Int) (.slice (some ⟨b2, 0, none⟩) m c2)) := ⟨q5, HX.out.1.1.lo.next q5, HX.out.1.1.hi.next q5⟩
      clear hw' q5 n0 q0 q1 c2'
      cases od
      · simp at hwi hhi
        have HZ : Hid (Q wr w5) := HX.out.1
        have HL : Hid (Pbb W0 w5 g1 (pa : Int) (pb : Int) (.slice (some ⟨b1, 0, none⟩) m c1) ∧ Pbb W0 w5 g2 (pa : Int) (pb : Int) (.slice (some ⟨b2, 0, none⟩) m c2)) := HX.out.2
        have u0 := HL.out.1.c0
        have u1 := HL.out.1.c1
        have u2 := HL.out.1.c2
        have CC := CR1.out _ HZ.out
        go_wp2_with fail
        refine CC.mono ?_
        rintro e wa0 ⟨gz0, rfl, hu, hl, hl2, q⟩
        clear CC u0 u1 u2
        obtain ⟨wb0, hwb0⟩ : ∃ w, wa0.alloc (.cells #[.int .i64 (hp : Int), .int .i64 (hq : Int), .slice (some ⟨gz0, 0, none⟩) hn hn] 24) = w := ⟨_, rfl⟩
        have qab : Q w5 wb0 := by rw [← hwb0]; exact q.q.cells _ _
        have HV0 : Hid (VR wb0 gz0 hn (fun j => .int .u32 ((F1 j : Nat) : Int))) := by show VR _ _ _ _; rw [← hwb0]; exact hu.next ((Q.refl wa0).cells _ _)
        have HB0 : Hid (Pbb W0 wb0 wa0.heap.size (hp : Int) (hq : Int) (.slice (some ⟨gz0, 0, none⟩) hn hn)) := by show Pbb _ _ _ _ _ _; rw [← hwb0]; exact Pbb.mk' W0 wa0 (HL.out.1.q.trans q.q) _ _ _ _ _
        have HZ : Hid (Q wr wb0) := Q.trans HZ.out qab
        have HL : Hid (Pbb W0 wb0 g1 (pa : Int) (pb : Int) (.slice (some ⟨b1, 0, none⟩) m c1) ∧ Pbb W0 wb0 g2 (pa : Int) (pb : Int) (.slice (some ⟨b2, 0, none⟩) m c2)) := ⟨Pbb.next HL.out.1 qab, Pbb.next HL.out.2 qab⟩
        clear qab q hu hl hl2
        have u0 := HL.out.2.c0
        have u1 := HL.out.2.c1
        have u2 := HL.out.2.c2
        have CC := CR2.out _ HZ.out
        go_wp2_with fail
        refine CC.mono ?_
        rintro e wa1 ⟨gz1, rfl, hu, hl, hl2, q⟩
        clear CC u0 u1 u2
        obtain ⟨wb1, hwb1⟩ : ∃ w, wa1.alloc (.cells #[.int .i64 (hp : Int), .int .i64 (hq : Int), .slice (some ⟨gz1, 0, none⟩) hn hn] 24) = w := ⟨_, rfl⟩
        have qab : Q wb0 wb1 := by rw [← hwb1]; exact q.q.cells _ _
        have HV1 : Hid (VR wb1 gz1 hn (fun j => .int .u32 ((F2 j : Nat) : Int))) := by show VR _ _ _ _; rw [← hwb1]; exact hu.next ((Q.refl wa1).cells _ _)
        have HB1 : Hid (Pbb W0 wb1 wa1.heap.size (hp : Int) (hq : Int) (.slice (some ⟨gz1, 0, none⟩) hn hn)) := by show Pbb _ _ _ _ _ _; rw [← hwb1]; exact Pbb.mk' W0 wa1 (HL.out.1.q.trans q.q) _ _ _ _ _
        have HV0 : Hid (VR wb1 gz0 hn (fun j => .int .u32 ((F1 j : Nat) : Int))) := VR.next HV0.out qab
        have HB0 : Hid (Pbb W0 wb1 wa0.heap.size (hp : Int) (hq : Int) (.slice (some ⟨gz0, 0, none⟩) hn hn)) := Pbb.next HB0.out qab
        have HZ : Hid (Q wr wb1) := Q.trans HZ.out qab
        have HL : Hid (Pbb W0 wb1 g1 (pa : Int) (pb : Int) (.slice (some ⟨b1, 0, none⟩) m c1) ∧ Pbb W0 wb1 g2 (pa : Int) (pb : Int) (.slice (some ⟨b2, 0, none⟩) m c2)) := ⟨Pbb.next HL.out.1 qab, Pbb.next HL.out.2 qab⟩
        clear qab q hu hl hl2
        have u0 := HL.out.1.c0
        have u1 := HL.out.1.c1
        have u2 := HL.out.1.c2
        have CC := CE1.out _ HZ.out
        go_wp2_with fail
        refine CC.mono ?_
        rintro e wa2 ⟨gz2, rfl, hu, hl, hl2, q⟩
        clear CC u0 u1 u2
        obtain ⟨wb2, hwb2⟩ : ∃ w, wa2.alloc (.cells #[.int .i64 (nw : Int), .int .i64 (nh : Int), .slice (some ⟨gz2, 0, none⟩) ne ne] 24) = w := ⟨_, rfl⟩
        have qab : Q wb1 wb2 := by rw [← hwb2]; exact q.q.cells _ _
        have HV2 : Hid (VR wb2 gz2 ne (fun j => .int .u32 ((F3 j : Nat) : Int))) := by show VR _ _ _ _; rw [← hwb2]; exact hu.next ((Q.refl wa2).cells _ _)
        have HB2 : Hid (Pbb W0 wb2 wa2.heap.size (nw : Int) (nh : Int) (.slice (some ⟨gz2, 0, none⟩) ne ne)) := by show Pbb _ _ _ _ _ _; rw [← hwb2]; exact Pbb.mk' W0 wa2 (HL.out.1.q.trans q.q) _ _ _ _ _
        have HV0 : Hid (VR wb2 gz0 hn (fun j => .int .u32 ((F1 j : Nat) : Int))) := VR.next HV0.out qab
        have HB0 : Hid (Pbb W0 wb2 wa0.heap.size (hp : Int) (hq : Int) (.slice (some ⟨gz0, 0, none⟩) hn hn)) := Pbb.next HB0.out qab
        have HV1 : Hid (VR wb2 gz1 hn (fun j => .int .u32 ((F2 j : Nat) : Int))) := VR.next HV1.out qab
        have HB1 : Hid (Pbb W0 wb2 wa1.heap.size (hp : Int) (hq : Int) (.slice (some ⟨gz1, 0, none⟩) hn hn)) := Pbb.next HB1.out qab
        have HZ : Hid (Q wr wb2) := Q.trans HZ.out qab
        have HL : Hid (Pbb W0 wb2 g1 (pa : Int) (pb : Int) (.slice (some ⟨b1, 0, none⟩) m c1) ∧ Pbb W0 wb2 g2 (pa : Int) (pb : Int) (.slice (some ⟨b2, 0, none⟩) m c2)) := ⟨Pbb.next HL.out.1 qab, Pbb.next HL.out.2 qab⟩
        clear qab q hu hl hl2
        have u0 := HL.out.2.c0
        have u1 := HL.out.2.c1
        have u2 := HL.out.2.c2
        have CC := CE2.out _ HZ.out
        go_wp2_with fail
        refine CC.mono ?_
        rintro e wa3 ⟨gz3, rfl, hu, hl, hl2, q⟩
        clear CC u0 u1 u2
        obtain ⟨wb3, hwb3⟩ : ∃ w, wa3.alloc (.cells #[.int .i64 (nw : Int), .int .i64 (nh : Int), .slice (some ⟨gz3, 0, none⟩) ne ne] 24) = w := ⟨_, rfl⟩
        have qab : Q wb2 wb3 := by rw [← hwb3]; exact q.q.cells _ _
        have HV3 : Hid (VR wb3 gz3 ne (fun j => .int .u32 ((F4 j : Nat) : Int))) := by show VR _ _ _ _; rw [← hwb3]; exact hu.next ((Q.refl wa3).cells _ _)
        have HB3 : Hid (Pbb W0 wb3 wa3.heap.size (nw : Int) (nh : Int) (.slice (some ⟨gz3, 0, none⟩) ne ne)) := by show Pbb _ _ _ _ _ _; rw [← hwb3]; exact Pbb.mk' W0 wa3 (HL.out.1.q.trans q.q) _ _ _ _ _
        have HV0 : Hid (VR wb3 gz0 hn (fun j => .int .u32 ((F1 j : Nat) : Int))) := VR.next HV0.out qab
        have HB0 : Hid (Pbb W0 wb3 wa0.heap.size (hp : Int) (hq : Int) (.slice (some ⟨gz0, 0, none⟩) hn hn)) := Pbb.next HB0.out qab
        have HV1 : Hid (VR wb3 gz1 hn (fun j => .int .u32 ((F2 j : Nat) : Int))) := VR.next HV1.out qab
        have HB1 : Hid (Pbb W0 wb3 wa1.heap.size (hp : Int) (hq : Int) (.slice (some ⟨gz1, 0, none⟩) hn hn)) := Pbb.next HB1.out qab
        have HV2 : Hid (VR wb3 gz2 ne (fun j => .int .u32 ((F3 j : Nat) : Int))) := VR.next HV2.out qab
        have HB2 : Hid (Pbb W0 wb3 wa2.heap.size (nw : Int) (nh : Int) (.slice (some ⟨gz2, 0, none⟩) ne ne)) := Pbb.next HB2.out qab
        have HZ : Hid (Q wr wb3) := Q.trans HZ.out qab
        have HL : Hid (Pbb W0 wb3 g1 (pa : Int) (pb : Int) (.slice (some ⟨b1, 0, none⟩) m c1) ∧ Pbb W0 wb3 g2 (pa : Int) (pb : Int) (.slice (some ⟨b2, 0, none⟩) m c2)) := ⟨Pbb.next HL.out.1 qab, Pbb.next HL.out.2 qab⟩
        clear qab q hu hl hl2
        have d00 := HB0.out.c0
        have d01 := HB0.out.c1
        have d02 := HB0.out.c2
        have d10 := HB1.out.c0
        have d11 := HB1.out.c1
        have d12 := HB1.out.c2
        have d20 := HB2.out.c0
        have d21 := HB2.out.c1
        have d22 := HB2.out.c2
        have d30 := HB3.out.c0
        have d31 := HB3.out.c1
        have d32 := HB3.out.c2
        go_wp2_with fail
        clear hwb3
        refine (CN.out _ _).mono ?_
        rintro e w9 ⟨rfl, hw9⟩
        obtain rfl := hw9.symm
        clear hw9
        go_wp2_with fail
        refine (CN.out _ _).mono ?_
        rintro e w9 ⟨rfl, hw9⟩
        obtain rfl := hw9.symm
        clear hw9
        go_wp2_with fail
        refine (CN.out _ _).mono ?_
        rintro e w9 ⟨rfl, hw9⟩
        obtain rfl := hw9.symm
        clear hw9
        go_wp2_with fail
        refine (CN.out _ _).mono ?_
        rintro e w9 ⟨rfl, hw9⟩
        obtain rfl := hw9.symm
        clear hw9
        go_wp2_with fail
        refine (HK1.out _ _ _ HV0.out HV1.out).mono ?_
        rintro e x1 ⟨rfl, q1⟩
        have HV2 : Hid (VR x1 gz2 ne (fun j => .int .u32 ((F3 j : Nat) : Int))) := VR.next HV2.out q1
        have HV3 : Hid (VR x1 gz3 ne (fun j => .int .u32 ((F4 j : Nat) : Int))) := VR.next HV3.out q1
        have HB2 : Hid (Pbb W0 x1 wa2.heap.size (nw : Int) (nh : Int) (.slice (some ⟨gz2, 0, none⟩) ne ne)) := Pbb.next HB2.out q1
        have HB3 : Hid (Pbb W0 x1 wa3.heap.size (nw : Int) (nh : Int) (.slice (some ⟨gz3, 0, none⟩) ne ne)) := Pbb.next HB3.out q1
        clear q1
        have d20 := HB2.out.c0
        have d21 := HB2.out.c1
        have d22 := HB2.out.c2
        have d30 := HB3.out.c0
        have d31 := HB3.out.c1
        have d32 := HB3.out.c2
        go_wp2_with fail
        refine (HK2.out _ _ _ HV2.out HV3.out).mono ?_
        rintro e x2 ⟨rfl, q2⟩
        have HQE : Hid (Q W0 x2) := HB2.out.q.trans q2
        clear q2
        go_wp2_with fail
        go_ret
        exact ⟨rfl, HQE.out⟩
      · simp at hwi hhi
        have HZ : Hid (Q wr w5) := HX.out.1
        have HL : Hid (Pbb W0 w5 g1 (pa : Int) (pb : Int) (.slice (some ⟨b1, 0, none⟩) m c1) ∧ Pbb W0 w5 g2 (pa : Int) (pb : Int) (.slice (some ⟨b2, 0, none⟩) m c2)) := HX.out.2
        have u0 := HL.out.1.c0
        have u1 := HL.out.1.c1
        have u2 := HL.out.1.c2
        have CC := CR1.out _ HZ.out
        go_wp2_with fail
        refine CC.mono ?_
        rintro e wa0 ⟨gz0, rfl, hu, hl, hl2, q⟩
        clear CC u0 u1 u2
        obtain ⟨wb0, hwb0⟩ : ∃ w, wa0.alloc (.cells #[.int .i64 (hp : Int), .int .i64 (hq : Int), .slice (some ⟨gz0, 0, none⟩) hn hn] 24) = w := ⟨_, rfl⟩
        have qab : Q w5 wb0 := by rw [← hwb0]; exact q.q.cells _ _
        have HV0 : Hid (VR wb0 gz0 hn (fun j => .int .u32 ((F1 j : Nat) : Int))) := by show VR _ _ _ _; rw [← hwb0]; exact hu.next ((Q.refl wa0).cells _ _)
        have HB0 : Hid (Pbb W0 wb0 wa0.heap.size (hp : Int) (hq : Int) (.slice (some ⟨gz0, 0, none⟩) hn hn)) := by show Pbb _ _ _ _ _ _; rw [← hwb0]; exact Pbb.mk' W0 wa0 (HL.out.1.q.trans q.q) _ _ _ _ _
        have HZ : Hid (Q wr wb0) := Q.trans HZ.out qab
        have HL : Hid (Pbb W0 wb0 g1 (pa : Int) (pb : Int) (.slice (some ⟨b1, 0, none⟩) m c1) ∧ Pbb W0 wb0 g2 (pa : Int) (pb : Int) (.slice (some ⟨b2, 0, none⟩) m c2)) := ⟨Pbb.next HL.out.1 qab, Pbb.next HL.out.2 qab⟩
        clear qab q hu hl hl2
        have u0 := HL.out.2.c0
        have u1 := HL.out.2.c1
        have u2 := HL.out.2.c2
        have CC := CR2.out _ HZ.out
        go_wp2_with fail
        refine CC.mono ?_
        rintro e wa1 ⟨gz1, rfl, hu, hl, hl2, q⟩
        clear CC u0 u1 u2
        obtain ⟨wb1, hwb1⟩ : ∃ w, wa1.alloc (.cells #[.int .i64 (hp : Int), .int .i64 (hq : Int), .slice (some ⟨gz1, 0, none⟩) hn hn] 24) = w := ⟨_, rfl⟩
        have qab : Q wb0 wb1 := by rw [← hwb1]; exact q.q.cells _ _
        have HV1 : Hid (VR wb1 gz1 hn (fun j => .int .u32 ((F2 j : Nat) : Int))) := by show VR _ _ _ _; rw [← hwb1]; exact hu.next ((Q.refl wa1).cells _ _)
        have HB1 : Hid (Pbb W0 wb1 wa1.heap.size (hp : Int) (hq : Int) (.slice (some ⟨gz1, 0, none⟩) hn hn)) := by show Pbb _ _ _ _ _ _; rw [← hwb1]; exact Pbb.mk' W0 wa1 (HL.out.1.q.trans q.q) _ _ _ _ _
        have HV0 : Hid (VR wb1 gz0 hn (fun j => .int .u32 ((F1 j : Nat) : Int))) := VR.next HV0.out qab
        have HB0 : Hid (Pbb W0 wb1 wa0.heap.size (hp : Int) (hq : Int) (.slice (some ⟨gz0, 0, none⟩) hn hn)) := Pbb.next HB0.out qab
        have HZ : Hid (Q wr wb1) := Q.trans HZ.out qab
        have HL : Hid (Pbb W0 wb1 g1 (pa : Int) (pb : Int) (.slice (some ⟨b1, 0, none⟩) m c1) ∧ Pbb W0 wb1 g2 (pa : Int) (pb : Int) (.slice (some ⟨b2, 0, none⟩) m c2)) := ⟨Pbb.next HL.out.1 qab, Pbb.next HL.out.2 qab⟩
        clear qab q hu hl hl2
        have u0 := HL.out.1.c0
        have u1 := HL.out.1.c1
        have u2 := HL.out.1.c2
        have CC := CE1.out _ HZ.out
        go_wp2_with fail
        refine CC.mono ?_
        rintro e wa2 ⟨gz2, rfl, hu, hl, hl2, q⟩
        clear CC u0 u1 u2
        obtain ⟨wb2, hwb2⟩ : ∃ w, wa2.alloc (.cells #[.int .i64 (nw : Int), .int .i64 (nh : Int), .slice (some ⟨gz2, 0, none⟩) ne ne] 24) = w := ⟨_, rfl⟩
        have qab : Q wb1 wb2 := by rw [← hwb2]; exact q.q.cells _ _
        have HV2 : Hid (VR wb2 gz2 ne (fun j => .int .u32 ((F3 j : Nat) : Int))) := by show VR _ _ _ _; rw [← hwb2]; exact hu.next ((Q.refl wa2).cells _ _)
        have HB2 : Hid (Pbb W0 wb2 wa2.heap.size (nw : Int) (nh : Int) (.slice (some ⟨gz2, 0, none⟩) ne ne)) := by show Pbb _ _ _ _ _ _; rw [← hwb2]; exact Pbb.mk' W0 wa2 (HL.out.1.q.trans q.q) _ _ _ _ _
        have HV0 : Hid (VR wb2 gz0 hn (fun j => .int .u32 ((F1 j : Nat) : Int))) := VR.next HV0.out qab
        have HB0 : Hid (Pbb W0 wb2 wa0.heap.size (hp : Int) (hq : Int) (.slice (some ⟨gz0, 0, none⟩) hn hn)) := Pbb.next HB0.out qab
        have HV1 : Hid (VR wb2 gz1 hn (fun j => .int .u32 ((F2 j : Nat) : Int))) := VR.next HV1.out qab
        have HB1 : Hid (Pbb W0 wb2 wa1.heap.size (hp : Int) (hq : Int) (.slice (some ⟨gz1, 0, none⟩) hn hn)) := Pbb.next HB1.out qab
        have HZ : Hid (Q wr wb2) := Q.trans HZ.out qab
        have HL : Hid (Pbb W0 wb2 g1 (pa : Int) (pb : Int) (.slice (some ⟨b1, 0, none⟩) m c1) ∧ Pbb W0 wb2 g2 (pa : Int) (pb : Int) (.slice (some ⟨b2, 0, none⟩) m c2)) := ⟨Pbb.next HL.out.1 qab, Pbb.next HL.out.2 qab⟩
        clear qab q hu hl hl2
        have u0 := HL.out.2.c0
        have u1 := HL.out.2.c1
        have u2 := HL.out.2.c2
        have CC := CE2.out _ HZ.out
        go_wp2_with fail
        refine CC.mono ?_
        rintro e wa3 ⟨gz3, rfl, hu, hl, hl2, q⟩
        clear CC u0 u1 u2
        obtain ⟨wb3, hwb3⟩ : ∃ w, wa3.alloc (.cells #[.int .i64 (nw : Int), .int .i64 (nh : Int), .slice (some ⟨gz3, 0, none⟩) ne ne] 24) = w := ⟨_, rfl⟩
        have qab : Q wb2 wb3 := by rw [← hwb3]; exact q.q.cells _ _
        have HV3 : Hid (VR wb3 gz3 ne (fun j => .int .u32 ((F4 j : Nat) : Int))) := by show VR _ _ _ _; rw [← hwb3]; exact hu.next ((Q.refl wa3).cells _ _)
        have HB3 : Hid (Pbb W0 wb3 wa3.heap.size (nw : Int) (nh : Int) (.slice (some ⟨gz3, 0, none⟩) ne ne)) := by show Pbb _ _ _ _ _ _; rw [← hwb3]; exact Pbb.mk' W0 wa3 (HL.out.1.q.trans q.q) _ _ _ _ _
        have HV0 : Hid (VR wb3 gz0 hn (fun j => .int .u32 ((F1 j : Nat) : Int))) := VR.next HV0.out qab
        have HB0 : Hid (Pbb W0 wb3 wa0.heap.size (hp : Int) (hq : Int) (.slice (some ⟨gz0, 0, none⟩) hn hn)) := Pbb.next HB0.out qab
        have HV1 : Hid (VR wb3 gz1 hn (fun j => .int .u32 ((F2 j : Nat) : Int))) := VR.next HV1.out qab
        have HB1 : Hid (Pbb W0 wb3 wa1.heap.size (hp : Int) (hq : Int) (.slice (some ⟨gz1, 0, none⟩) hn hn)) := Pbb.next HB1.out qab
        have HV2 : Hid (VR wb3 gz2 ne (fun j => .int .u32 ((F3 j : Nat) : Int))) := VR.next HV2.out qab
        have HB2 : Hid (Pbb W0 wb3 wa2.heap.size (nw : Int) (nh : Int) (.slice (some ⟨gz2, 0, none⟩) ne ne)) := Pbb.next HB2.out qab
        have HZ : Hid (Q wr wb3) := Q.trans HZ.out qab
        have HL : Hid (Pbb W0 wb3 g1 (pa : Int) (pb : Int) (.slice (some ⟨b1, 0, none⟩) m c1) ∧ Pbb W0 wb3 g2 (pa : Int) (pb : Int) (.slice (some ⟨b2, 0, none⟩) m c2)) := ⟨Pbb.next HL.out.1 qab, Pbb.next HL.out.2 qab⟩
        clear qab q hu hl hl2
        have d00 := HB0.out.c0
        have d01 := HB0.out.c1
        have d02 := HB0.out.c2
        have d10 := HB1.out.c0
        have d11 := HB1.out.c1
        have d12 := HB1.out.c2
        have d20 := HB2.out.c0
        have d21 := HB2.out.c1
        have d22 := HB2.out.c2
        have d30 := HB3.out.c0
        have d31 := HB3.out.c1
        have d32 := HB3.out.c2
        go_wp2_with fail
        clear hwb3
        refine (CN.out _ _).mono ?_
        rintro e w9 ⟨rfl, hw9⟩
        obtain rfl := hw9.symm
        clear hw9
        go_wp2_with fail
        refine (CN.out _ _).mono ?_
        rintro e w9 ⟨rfl, hw9⟩
        obtain rfl := hw9.symm
        clear hw9
        go_wp2_with fail
        refine (CN.out _ _).mono ?_
        rintro e w9 ⟨rfl, hw9⟩
        obtain rfl := hw9.symm
        clear hw9
        go_wp2_with fail
        refine (CN.out _ _).mono ?_
        rintro e w9 ⟨rfl, hw9⟩
        obtain rfl := hw9.symm
        clear hw9
        go_wp2_with fail
        refine (HK1.out _ _ _ HV0.out HV1.out).mono ?_
        rintro e x1 ⟨rfl, q1⟩
        have HV2 : Hid (VR x1 gz2 ne (fun j => .int .u32 ((F3 j : Nat) : Int))) := VR.next HV2.out q1
        have HV3 : Hid (VR x1 gz3 ne (fun j => .int .u32 ((F4 j : Nat) : Int))) := VR.next HV3.out q1
        have HB2 : Hid (Pbb W0 x1 wa2.heap.size (nw : Int) (nh : Int) (.slice (some ⟨gz2, 0, none⟩) ne ne)) := Pbb.next HB2.out q1
        have HB3 : Hid (Pbb W0 x1 wa3.heap.size (nw : Int) (nh : Int) (.slice (some ⟨gz3, 0, none⟩) ne ne)) := Pbb.next HB3.out q1
        clear q1
        have d20 := HB2.out.c0
        have d21 := HB2.out.c1
        have d22 := HB2.out.c2
        have d30 := HB3.out.c0
        have d31 := HB3.out.c1
        have d32 := HB3.out.c2
        go_wp2_with fail
        refine (HK2.out _ _ _ HV2.out HV3.out).mono ?_
        rintro e x2 ⟨rfl, q2⟩
        have HQE : Hid (Q W0 x2) := HB2.out.q.trans q2
        clear q2
        go_wp2_with fail
        go_ret
        exact ⟨rfl, HQE.out⟩
end Go.Proofs.Ytgaolakfgjmeiab

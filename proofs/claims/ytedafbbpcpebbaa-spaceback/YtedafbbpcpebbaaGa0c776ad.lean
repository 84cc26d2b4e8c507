/- SpaceBack: the greatest size in its box, and the bound. -/
import Derived.Test.YtedafbbpcpebbaaGc87e52de
import Derived.Test.YtedafbbpcpebbaaG7a02fef1
namespace Go.Proofs.Ytedafbbpcpebbaa
open Go.RowKit
set_option linter.unusedVariables false
set_option linter.unusedSimpArgs false

/-- A sample's size as an exact number. -/
def Sm (w : World) (v : Value) (Z : Nat) : Prop := ∃ N E, NumAt w v (.fin false N E false) ∧ N < 16777216 ∧ -149 ≤ E ∧ E ≤ 200 ∧ zm N E = Z
def MB (w : World) (V M : Nat) : Prop := ∃ N E, NBox w V (.fin false N E false) ∧ N < 16777216 ∧ -149 ≤ E ∧ E ≤ 200 ∧ zm N E = M
theorem MB.next {w w' : World} {V M : Nat} (h : MB w V M) (q : Q w w') : MB w' V M := by
  obtain ⟨N, E, h1, h2⟩ := h
  exact ⟨N, E, h1.next q, h2⟩
theorem MB.zb {w : World} {V M : Nat} (h : MB w V M) : ZB w V M := by
  obtain ⟨N, E, ⟨k, s, p, L, C, e, m, b1, b2⟩, h1, h2, h3, h4⟩ := h
  have hm := blen_le (k := 24) (show N < 2 ^ 24 from h1)
  exact ⟨k, s, p, L, C, e, m, b1, N, E, b2, by omega, by omega, by omega, h4⟩
set_option maxHeartbeats 2000000 in
theorem size_num (a : Nat) (ha : a < 4294967296) (fa : rung32 a < 2139095040) (w : World) : Calls Try.prog 25 #[.int .u32 (a : Int)] w fun x w' => ∃ v, x = .returned v ∧ Sm w' v (sampleZ a).natAbs ∧ Q w w' := by
  have ew1 : IntKind.u64.wrap (a : Int) = a := by rw [IntKind.wrap_u64]; omega
  have HF : Hid (rung32 a < 2139095040) := fa
  clear fa
  go_enter Try.func25, Try.ntmps25
  go_wp2_with fail
  have hB : Hid (ABox w _ w.heap.size) := ⟨(Q.refl w).cells _ _, (zero_box w).1, (zero_box w).2, Nat.le_refl _⟩
  generalize w.alloc (.cells #[.int .i64 0, .bool false, .slice none 0 0, .int .i64 0, .bool false] 38) = wz at hB ⊢
  refine (f32_any _).mono ?_
  rintro e' w1 ⟨rfl, q1⟩
  replace hB : Hid (ABox w w1 w.heap.size) := hB.out.next q1
  clear q1
  go_wp2_with fail
  refine (of32_any a _ ha).mono ?_
  rintro e' w5 ⟨v, rfl, hv3, q5⟩
  replace hB : Hid (ABox w w5 w.heap.size) := hB.out.next q5
  rw [single_num HF.out] at hv3
  have HS : Hid (mag32 (rung32 a) < 16777216 ∧ -149 ≤ -149 + (plc32 (rung32 a) : Int) ∧ -149 + (plc32 (rung32 a) : Int) ≤ 200 ∧ zm (mag32 (rung32 a)) (-149 + (plc32 (rung32 a) : Int)) = (sampleZ a).natAbs) := by
    have hp := plc_le32 HF.out
    refine ⟨mag_lt32 _, by omega, by omega, ?_⟩
    unfold zm sampleZ
    rw [signed_abs, show (-149 + (plc32 (rung32 a) : Int) + 1074).toNat = plc32 (rung32 a) + 925 by omega]
  generalize mag32 (rung32 a) = N at *
  generalize -149 + (plc32 (rung32 a) : Int) = E at *
  obtain ⟨nv, rfl, p, bb, L, C, rfl, hI⟩ := hv3
  have HV : Hid (NumAt w5 (.agg #[.int .i64 2, .bool false, .slice p L C, .int .i64 E, .bool false]) (.fin false N E false)) := ⟨_, rfl, p, bb, L, C, rfl, hI⟩
  clear hI q5
  replace hB : Hid (ABox w (w5.alloc (.cells #[.int .i64 2, .bool false, .slice p L C, .int .i64 E, .bool false] 38)) w.heap.size) := hB.out.next ((Q.refl w5).cells _ _)
  replace HV : Hid (NumAt (w5.alloc (.cells #[.int .i64 2, .bool false, .slice p L C, .int .i64 E, .bool false] 38)) (.agg #[.int .i64 2, .bool false, .slice p L C, .int .i64 E, .bool false]) (.fin false N E false)) := ((Q.refl w5).cells #[.int .i64 2, .bool false, .slice p L C, .int .i64 E, .bool false] 38).num HV.out
  obtain ⟨h1, h2⟩ := five_set hB.out.b 2 false p L C E false
  have HN : Hid _ := h1 _ _ HV.out
  have HQ : Hid _ := h2 _ hB.out.q hB.out.v
  clear h1 h2 HV
  obtain ⟨c0, c1, c2, c3, c4⟩ := hB.out.b
  have hf := hB.out.f
  clear hB
  go_wp2_with fail
  refine bodyPost_ret (v := .agg #[.int .i64 2, .bool false, .slice p L C, .int .i64 E, .bool false]) (by simp [results, Try.results25, go_sem, c0, c1, c2, c3, c4]) rfl ⟨_, rfl, ⟨N, E, HN.out, HS.out⟩, HQ.out⟩
theorem rung_cap {m : Nat} (hm : m = 1184) : rungOf Ieee.single (2 ^ m) (-1074) < 2139095040 := by subst hm; decide +kernel
theorem samp_cap {m : Nat} (hm : m = 1190) : 2 ^ m ≤ ab (sampleZ 2139095039) := by subst hm; decide +kernel
theorem fin_cap : rung32 2139095039 < 2139095040 := by decide
theorem zm100 : ∃ c d : Nat, c = 924 ∧ d = 250 ∧ zm 1 100 = 2 ^ d * 2 ^ c := by
  obtain ⟨c, hc⟩ : ∃ c : Nat, c = 924 := ⟨_, rfl⟩
  obtain ⟨d, hd⟩ : ∃ d : Nat, d = 250 := ⟨_, rfl⟩
  obtain ⟨j, hj⟩ : ∃ j : Nat, j = ((100 : Int) + 1074).toNat := ⟨_, rfl⟩
  have h1 : j = d + c := by omega
  refine ⟨c, d, hc, hd, ?_⟩
  unfold zm
  rw [Nat.one_mul, ← hj, h1, Nat.pow_add]
theorem zm5 {N : Nat} {E : Int} (hE : -149 ≤ E) : 16777216 * zm (N * 5) (E - 24) = 5 * zm N E := by
  unfold zm
  obtain ⟨j, hj⟩ : ∃ j : Nat, j = (E - 24 + 1074).toNat := ⟨_, rfl⟩
  have h1 : (E + 1074).toNat = 24 + j := by omega
  rw [← hj, h1, Nat.pow_add, show (2 : Nat) ^ 24 = 16777216 from rfl]
  generalize 2 ^ j = P
  rw [Nat.mul_assoc N, Nat.mul_left_comm 16777216, Nat.mul_left_comm 5, Nat.mul_left_comm 5]
theorem zm147 {c : Nat} (hc : c = 924) : zm 1 (-147) = 8 * 2 ^ c := by
  obtain ⟨j, hj⟩ : ∃ j : Nat, j = ((-147 : Int) + 1074).toNat := ⟨_, rfl⟩
  have h1 : j = 3 + c := by omega
  unfold zm
  rw [Nat.one_mul, ← hj, h1, Nat.pow_add]
theorem eps_1 (m : Nat) : 1099511627776 * (m / 1099511627776 + 1) ≤ m + 2199023255552 := by omega
theorem eps_2 (m : Nat) : m < 1099511627776 * (m / 1099511627776 + 1) := by omega
theorem cap_1 {M q B SK K : Nat} (h : M ≤ B) (p : q ≤ B) (k1 : 65536 * B ≤ SK) (kk : SK < K) : 8 * (M + q) ≤ K := by omega
theorem cap_2 {M q B : Nat} {Z : Int} (h : M ≤ B) (p : q ≤ B) (hZ : ab Z ≤ 4 * (M + q)) : Z.natAbs ≤ 1024 * B := by unfold ab at hZ; omega
theorem last_step {x M q ZA ZC BD : Nat} (h : 16777216 * x ≤ 5 * M + 8 * 16777216 * q) (z1 : 16777216 * ZA = 5 * M) (z2 : ZC = 8 * q) (hb : BD = ZA + ZC) : x ≤ BD := by omega
set_option maxHeartbeats 1000000 in
theorem back_bound {r g b M N : Nat} {E : Int} (hr : rung32 r < 2139095040) (hg : rung32 g < 2139095040) (hb : rung32 b < 2139095040) (r1 : (sampleZ r).natAbs ≤ M) (g1 : (sampleZ g).natAbs ≤ M) (b1 : (sampleZ b).natAbs ≤ M) (h100 : M ≤ zm 1 100) (hE : -149 ≤ E) (hZ : zm N E = M) {BD : Nat} (hBD : BD = zm (N * 5) (E - 24) + zm 1 (-147)) :
    (rung32 (rgb0 (ycc0 r g b) (ycc1 r g b) (ycc2 r g b)) < 2139095040 ∧ (sampleZ r - sampleZ (rgb0 (ycc0 r g b) (ycc1 r g b) (ycc2 r g b))).natAbs ≤ BD) ∧
    (rung32 (rgb1 (ycc0 r g b) (ycc1 r g b) (ycc2 r g b)) < 2139095040 ∧ (sampleZ g - sampleZ (rgb1 (ycc0 r g b) (ycc1 r g b) (ycc2 r g b))).natAbs ≤ BD) ∧
    (rung32 (rgb2 (ycc0 r g b) (ycc1 r g b) (ycc2 r g b)) < 2139095040 ∧ (sampleZ b - sampleZ (rgb2 (ycc0 r g b) (ycc1 r g b) (ycc2 r g b))).natAbs ≤ BD) := by
  obtain ⟨D, K, C⟩ := caps
  obtain ⟨c, d, hc, hd, e100⟩ := zm100
  have z1 := zm5 (N := N) hE
  rw [hZ] at z1
  have z2 := zm147 hc
  have kk := C.sk 2139095039 fin_cap
  have k1 := samp_cap (m := 16 + (d + c)) (by omega)
  have rc := rung_cap (m := 10 + (d + c)) (by omega)
  rw [Nat.pow_add, Nat.pow_add] at k1 rc
  have p3 : (2 : Nat) ^ c ≤ 2 ^ d * 2 ^ c := Nat.le_mul_of_pos_left _ (Nat.two_pow_pos _)
  have p4 : (1152921504606846976 : Nat) ≤ 2 ^ c := by
    have := Nat.pow_le_pow_right (show 0 < 2 by decide) (show 60 ≤ c by omega)
    simpa using this
  rw [e100] at h100
  generalize 2 ^ d * 2 ^ c = B at *
  obtain ⟨q, hq⟩ : ∃ q : Nat, q = 2 ^ c := ⟨_, rfl⟩
  rw [← hq] at p3 p4 z2
  simp only [show (2 : Nat) ^ 16 = 65536 from rfl, show (2 : Nat) ^ 10 = 1024 from rfl] at k1 rc
  generalize ab (sampleZ 2139095039) = SK at *
  generalize zm (N * 5) (E - 24) = ZA at *
  generalize zm 1 (-147) = ZC at *
  clear e100 hd
  have := back_all (ε := (M + q) / 1099511627776 + 1) C hr hg hb hc hq p4 (eps_1 _) (eps_2 _) r1 g1 b1 (cap_1 h100 p3 k1 kk) (fun Z hZ => Nat.lt_of_le_of_lt (rung_mono Ieee.single (-1074) (cap_2 h100 p3 hZ)) rc)
  obtain ⟨⟨a1, a2⟩, ⟨a3, a4⟩, a5, a6⟩ := this
  exact ⟨⟨a1, last_step a2 z1 z2 hBD⟩, ⟨a3, last_step a4 z1 z2 hBD⟩, a5, last_step a6 z1 z2 hBD⟩
theorem bound_zb {w : World} {V N : Nat} {E : Int} (hN : N < 16777216) (hE : -149 ≤ E) (hE2 : E ≤ 200) (h : NBox w V (plusR (.fin false (N * 5) (E - 24) false) (.fin false 1 (-147) false))) : ZB w V (zm (N * 5) (E - 24) + zm 1 (-147)) := by
  obtain ⟨σ, N', e1, e2, e3⟩ := plus_zs false false (N * 5) 1 (E - 24) (-147) false false (by omega) (by decide)
  rw [e1] at h
  have hs : Ieee.signed false (N * 5) (E - 24 + 1074).toNat + Ieee.signed false 1 ((-147 : Int) + 1074).toNat = ((zm (N * 5) (E - 24) + zm 1 (-147) : Nat) : Int) := by
    unfold zm Ieee.signed
    generalize (E - 24 + 1074).toNat = i
    generalize ((-147 : Int) + 1074).toNat = j
    simp [Int.shiftLeft_eq]
  rw [hs] at e2 e3
  rw [Int.natAbs_natCast] at e2
  have hp : 0 < zm 1 (-147) := by unfold zm; exact Nat.mul_pos (by decide) (Nat.two_pow_pos _)
  have h0 : N' ≠ 0 := by
    rintro rfl
    have : zm 0 (min (E - 24) (-147)) = 0 := by unfold zm; exact Nat.zero_mul _
    omega
  have hσ : σ = false := by rw [e3 h0]; exact decide_eq_false (by omega)
  subst hσ
  obtain ⟨k, s, p, L, C, e, m, b1, b2⟩ := h
  have hb : blen N' ≤ 2000 := by
    obtain ⟨t, ht⟩ : ∃ t : Nat, t = 1300 := ⟨_, rfl⟩
    refine Nat.le_trans (blen_le (k := 100 + t) ?_) (by omega)
    have g1 : N' ≤ zm N' (min (E - 24) (-147)) := by unfold zm; exact Nat.le_mul_of_pos_right _ (Nat.two_pow_pos _)
    obtain ⟨P, hP⟩ : ∃ P : Nat, P = 2 ^ t := ⟨_, rfl⟩
    have g2 : zm (N * 5) (E - 24) ≤ (N * 5) * P := by unfold zm; rw [hP]; exact Nat.mul_le_mul_left _ (Nat.pow_le_pow_right (by decide) (by omega))
    have g3 : zm 1 (-147) ≤ 1 * P := by unfold zm; rw [hP]; exact Nat.mul_le_mul_left _ (Nat.pow_le_pow_right (by decide) (by omega))
    have g4 : (N * 5) * P ≤ 134217728 * P := Nat.mul_le_mul_right _ (by omega)
    have g5 : (2 : Nat) ^ (100 + t) = 2 ^ 100 * P := by rw [hP, Nat.pow_add]
    have g6 : 268435456 * P ≤ 2 ^ 100 * P := Nat.mul_le_mul_right _ (by decide)
    have g7 : 0 < P := by rw [hP]; exact Nat.two_pow_pos _
    rw [g5]
    generalize 2 ^ 100 * P = PP at *
    generalize zm (N * 5) (E - 24) = ZA at *
    generalize zm 1 (-147) = ZC at *
    clear hP g5 hs
    omega
  exact ⟨k, s, p, L, C, e, m, b1, N', _, b2, hb, by omega, by omega, e2⟩
end Go.Proofs.Ytedafbbpcpebbaa
/- SpaceBack: the frames behind its drawn regions. -/
namespace Go.Proofs.Ytedafbbpcpebbaa
open Go.RowKit
set_option linter.unusedVariables false

set_option maxRecDepth 100000 in
theorem normBa {t0 t1 t2 t3 t4 t5 t6 t7 t8 t9 t10 t11 t12 t13 t14 t15 t16 t17 t18 t19 t20 t21 t22 t23 t24 t25 t26 t27 t28 t29 t30 t31 t32 t33 t34 t35 t36 t37 t38 t39 t40 t41 t42 t43 t44 t45 t46 t47 t48 t49 t50 t51 t52 t53 t54 t55 t56 t57 t58 t59 t60 t61 t62 t63 t64 t65 t66 t67 t68 t69 t70 t71 t72 t73 t74 t75 t76 t77 t78 t79 t80 t81 t82 t83 t84 t85 t86 t87 t88 t89 t90 t91 t92 t93 t94 t95 t96 t97 t98 t99 t100 t101 t102 t103 t104 t105 t106 t107 t108 t109 t110 t111 t112 t113 t114 t115 t116 t117 t118 t119 t120 t121 t122 t123 t124 t125 t126 t127 t128 t129 t130 t131 t132 t133 t134 t135 t136 t137 t138 t139 t140 t141 t142 t143 t144 t145 t146 t147 t148 t149 t150 t151 t152 t153 t154 v32 v33 v34 v35 : Value} {d : List Deferred} : putAll ⟨#[t0, t1, t2, t3, t4, t5, t6, t7, t8, t9, t10, t11, t12, t13, t14, t15, t16, t17, t18, t19, t20, t21, t22, t23, t24, t25, t26, t27, t28, t29, t30, t31, t32, t33, t34, t35, t36, t37, t38, t39, t40, t41, t42, t43, t44, t45, t46, t47, t48, t49, t50, t51, t52, t53, t54, t55, t56, t57, t58, t59, t60, t61, t62, t63, t64, t65, t66, t67, t68, t69, t70, t71, t72, t73, t74, t75, t76, t77, t78, t79, t80, t81, t82, t83, t84, t85, t86, t87, t88, t89, t90, t91, t92, t93, t94, t95, t96, t97, t98, t99, t100, t101, t102, t103, t104, t105, t106, t107, t108, t109, t110, t111, t112, t113, t114, t115, t116, t117, t118, t119, t120, t121, t122, t123, t124, t125, t126, t127, t128, t129, t130, t131, t132, t133, t134, t135, t136, t137, t138, t139, t140, t141, t142, t143, t144, t145, t146, t147, t148, t149, t150, t151, t152, t153, t154], d⟩ [(32, v32), (33, v33), (34, v34), (35, v35)] = ⟨#[t0, t1, t2, t3, t4, t5, t6, t7, t8, t9, t10, t11, t12, t13, t14, t15, t16, t17, t18, t19, t20, t21, t22, t23, t24, t25, t26, t27, t28, t29, t30, t31, v32, v33, v34, v35, t36, t37, t38, t39, t40, t41, t42, t43, t44, t45, t46, t47, t48, t49, t50, t51, t52, t53, t54, t55, t56, t57, t58, t59, t60, t61, t62, t63, t64, t65, t66, t67, t68, t69, t70, t71, t72, t73, t74, t75, t76, t77, t78, t79, t80, t81, t82, t83, t84, t85, t86, t87, t88, t89, t90, t91, t92, t93, t94, t95, t96, t97, t98, t99, t100, t101, t102, t103, t104, t105, t106, t107, t108, t109, t110, t111, t112, t113, t114, t115, t116, t117, t118, t119, t120, t121, t122, t123, t124, t125, t126, t127, t128, t129, t130, t131, t132, t133, t134, t135, t136, t137, t138, t139, t140, t141, t142, t143, t144, t145, t146, t147, t148, t149, t150, t151, t152, t153, t154], d⟩ := by
  kernel_rfl
set_option maxRecDepth 100000 in
theorem normBb {t0 t1 t2 t3 t4 t5 t6 t7 t8 t9 t10 t11 t12 t13 t14 t15 t16 t17 t18 t19 t20 t21 t22 t23 t24 t25 t26 t27 t28 t29 t30 t31 t32 t33 t34 t35 t36 t37 t38 t39 t40 t41 t42 t43 t44 t45 t46 t47 t48 t49 t50 t51 t52 t53 t54 t55 t56 t57 t58 t59 t60 t61 t62 t63 t64 t65 t66 t67 t68 t69 t70 t71 t72 t73 t74 t75 t76 t77 t78 t79 t80 t81 t82 t83 t84 t85 t86 t87 t88 t89 t90 t91 t92 t93 t94 t95 t96 t97 t98 t99 t100 t101 t102 t103 t104 t105 t106 t107 t108 t109 t110 t111 t112 t113 t114 t115 t116 t117 t118 t119 t120 t121 t122 t123 t124 t125 t126 t127 t128 t129 t130 t131 t132 t133 t134 t135 t136 t137 t138 t139 t140 t141 t142 t143 t144 t145 t146 t147 t148 t149 t150 t151 t152 t153 t154 v38 v39 v40 v41 : Value} {d : List Deferred} : putAll ⟨#[t0, t1, t2, t3, t4, t5, t6, t7, t8, t9, t10, t11, t12, t13, t14, t15, t16, t17, t18, t19, t20, t21, t22, t23, t24, t25, t26, t27, t28, t29, t30, t31, t32, t33, t34, t35, t36, t37, t38, t39, t40, t41, t42, t43, t44, t45, t46, t47, t48, t49, t50, t51, t52, t53, t54, t55, t56, t57, t58, t59, t60, t61, t62, t63, t64, t65, t66, t67, t68, t69, t70, t71, t72, t73, t74, t75, t76, t77, t78, t79, t80, t81, t82, t83, t84, t85, t86, t87, t88, t89, t90, t91, t92, t93, t94, t95, t96, t97, t98, t99, t100, t101, t102, t103, t104, t105, t106, t107, t108, t109, t110, t111, t112, t113, t114, t115, t116, t117, t118, t119, t120, t121, t122, t123, t124, t125, t126, t127, t128, t129, t130, t131, t132, t133, t134, t135, t136, t137, t138, t139, t140, t141, t142, t143, t144, t145, t146, t147, t148, t149, t150, t151, t152, t153, t154], d⟩ [(38, v38), (39, v39), (40, v40), (41, v41)] = ⟨#[t0, t1, t2, t3, t4, t5, t6, t7, t8, t9, t10, t11, t12, t13, t14, t15, t16, t17, t18, t19, t20, t21, t22, t23, t24, t25, t26, t27, t28, t29, t30, t31, t32, t33, t34, t35, t36, t37, v38, v39, v40, v41, t42, t43, t44, t45, t46, t47, t48, t49, t50, t51, t52, t53, t54, t55, t56, t57, t58, t59, t60, t61, t62, t63, t64, t65, t66, t67, t68, t69, t70, t71, t72, t73, t74, t75, t76, t77, t78, t79, t80, t81, t82, t83, t84, t85, t86, t87, t88, t89, t90, t91, t92, t93, t94, t95, t96, t97, t98, t99, t100, t101, t102, t103, t104, t105, t106, t107, t108, t109, t110, t111, t112, t113, t114, t115, t116, t117, t118, t119, t120, t121, t122, t123, t124, t125, t126, t127, t128, t129, t130, t131, t132, t133, t134, t135, t136, t137, t138, t139, t140, t141, t142, t143, t144, t145, t146, t147, t148, t149, t150, t151, t152, t153, t154], d⟩ := by
  kernel_rfl
set_option maxRecDepth 100000 in
theorem normBc {t0 t1 t2 t3 t4 t5 t6 t7 t8 t9 t10 t11 t12 t13 t14 t15 t16 t17 t18 t19 t20 t21 t22 t23 t24 t25 t26 t27 t28 t29 t30 t31 t32 t33 t34 t35 t36 t37 t38 t39 t40 t41 t42 t43 t44 t45 t46 t47 t48 t49 t50 t51 t52 t53 t54 t55 t56 t57 t58 t59 t60 t61 t62 t63 t64 t65 t66 t67 t68 t69 t70 t71 t72 t73 t74 t75 t76 t77 t78 t79 t80 t81 t82 t83 t84 t85 t86 t87 t88 t89 t90 t91 t92 t93 t94 t95 t96 t97 t98 t99 t100 t101 t102 t103 t104 t105 t106 t107 t108 t109 t110 t111 t112 t113 t114 t115 t116 t117 t118 t119 t120 t121 t122 t123 t124 t125 t126 t127 t128 t129 t130 t131 t132 t133 t134 t135 t136 t137 t138 t139 t140 t141 t142 t143 t144 t145 t146 t147 t148 t149 t150 t151 t152 t153 t154 v44 v45 v46 v47 : Value} {d : List Deferred} : putAll ⟨#[t0, t1, t2, t3, t4, t5, t6, t7, t8, t9, t10, t11, t12, t13, t14, t15, t16, t17, t18, t19, t20, t21, t22, t23, t24, t25, t26, t27, t28, t29, t30, t31, t32, t33, t34, t35, t36, t37, t38, t39, t40, t41, t42, t43, t44, t45, t46, t47, t48, t49, t50, t51, t52, t53, t54, t55, t56, t57, t58, t59, t60, t61, t62, t63, t64, t65, t66, t67, t68, t69, t70, t71, t72, t73, t74, t75, t76, t77, t78, t79, t80, t81, t82, t83, t84, t85, t86, t87, t88, t89, t90, t91, t92, t93, t94, t95, t96, t97, t98, t99, t100, t101, t102, t103, t104, t105, t106, t107, t108, t109, t110, t111, t112, t113, t114, t115, t116, t117, t118, t119, t120, t121, t122, t123, t124, t125, t126, t127, t128, t129, t130, t131, t132, t133, t134, t135, t136, t137, t138, t139, t140, t141, t142, t143, t144, t145, t146, t147, t148, t149, t150, t151, t152, t153, t154], d⟩ [(44, v44), (45, v45), (46, v46), (47, v47)] = ⟨#[t0, t1, t2, t3, t4, t5, t6, t7, t8, t9, t10, t11, t12, t13, t14, t15, t16, t17, t18, t19, t20, t21, t22, t23, t24, t25, t26, t27, t28, t29, t30, t31, t32, t33, t34, t35, t36, t37, t38, t39, t40, t41, t42, t43, v44, v45, v46, v47, t48, t49, t50, t51, t52, t53, t54, t55, t56, t57, t58, t59, t60, t61, t62, t63, t64, t65, t66, t67, t68, t69, t70, t71, t72, t73, t74, t75, t76, t77, t78, t79, t80, t81, t82, t83, t84, t85, t86, t87, t88, t89, t90, t91, t92, t93, t94, t95, t96, t97, t98, t99, t100, t101, t102, t103, t104, t105, t106, t107, t108, t109, t110, t111, t112, t113, t114, t115, t116, t117, t118, t119, t120, t121, t122, t123, t124, t125, t126, t127, t128, t129, t130, t131, t132, t133, t134, t135, t136, t137, t138, t139, t140, t141, t142, t143, t144, t145, t146, t147, t148, t149, t150, t151, t152, t153, t154], d⟩ := by
  kernel_rfl
set_option maxRecDepth 100000 in
theorem normBd {t0 t1 t2 t3 t4 t5 t6 t7 t8 t9 t10 t11 t12 t13 t14 t15 t16 t17 t18 t19 t20 t21 t22 t23 t24 t25 t26 t27 t28 t29 t30 t31 t32 t33 t34 t35 t36 t37 t38 t39 t40 t41 t42 t43 t44 t45 t46 t47 t48 t49 t50 t51 t52 t53 t54 t55 t56 t57 t58 t59 t60 t61 t62 t63 t64 t65 t66 t67 t68 t69 t70 t71 t72 t73 t74 t75 t76 t77 t78 t79 t80 t81 t82 t83 t84 t85 t86 t87 t88 t89 t90 t91 t92 t93 t94 t95 t96 t97 t98 t99 t100 t101 t102 t103 t104 t105 t106 t107 t108 t109 t110 t111 t112 t113 t114 t115 t116 t117 t118 t119 t120 t121 t122 t123 t124 t125 t126 t127 t128 t129 t130 t131 t132 t133 t134 t135 t136 t137 t138 t139 t140 t141 t142 t143 t144 t145 t146 t147 t148 t149 t150 t151 t152 t153 t154 v76 v77 v78 v79 v80 v81 v82 v83 v84 v85 v86 v87 v88 v89 v90 v91 v92 v93 v94 v95 v96 v97 v98 v99 v100 v101 v102 v103 v104 v105 v106 v107 v108 v109 v110 v111 v112 : Value} {d : List Deferred} : putAll ⟨#[t0, t1, t2, t3, t4, t5, t6, t7, t8, t9, t10, t11, t12, t13, t14, t15, t16, t17, t18, t19, t20, t21, t22, t23, t24, t25, t26, t27, t28, t29, t30, t31, t32, t33, t34, t35, t36, t37, t38, t39, t40, t41, t42, t43, t44, t45, t46, t47, t48, t49, t50, t51, t52, t53, t54, t55, t56, t57, t58, t59, t60, t61, t62, t63, t64, t65, t66, t67, t68, t69, t70, t71, t72, t73, t74, t75, t76, t77, t78, t79, t80, t81, t82, t83, t84, t85, t86, t87, t88, t89, t90, t91, t92, t93, t94, t95, t96, t97, t98, t99, t100, t101, t102, t103, t104, t105, t106, t107, t108, t109, t110, t111, t112, t113, t114, t115, t116, t117, t118, t119, t120, t121, t122, t123, t124, t125, t126, t127, t128, t129, t130, t131, t132, t133, t134, t135, t136, t137, t138, t139, t140, t141, t142, t143, t144, t145, t146, t147, t148, t149, t150, t151, t152, t153, t154], d⟩ [(76, v76), (77, v77), (78, v78), (79, v79), (80, v80), (81, v81), (82, v82), (83, v83), (84, v84), (85, v85), (86, v86), (87, v87), (88, v88), (89, v89), (90, v90), (91, v91), (92, v92), (93, v93), (94, v94), (95, v95), (96, v96), (97, v97), (98, v98), (99, v99), (100, v100), (101, v101), (102, v102), (103, v103), (104, v104), (105, v105), (106, v106), (107, v107), (108, v108), (109, v109), (110, v110), (111, v111), (112, v112)] = ⟨#[t0, t1, t2, t3, t4, t5, t6, t7, t8, t9, t10, t11, t12, t13, t14, t15, t16, t17, t18, t19, t20, t21, t22, t23, t24, t25, t26, t27, t28, t29, t30, t31, t32, t33, t34, t35, t36, t37, t38, t39, t40, t41, t42, t43, t44, t45, t46, t47, t48, t49, t50, t51, t52, t53, t54, t55, t56, t57, t58, t59, t60, t61, t62, t63, t64, t65, t66, t67, t68, t69, t70, t71, t72, t73, t74, t75, v76, v77, v78, v79, v80, v81, v82, v83, v84, v85, v86, v87, v88, v89, v90, v91, v92, v93, v94, v95, v96, v97, v98, v99, v100, v101, v102, v103, v104, v105, v106, v107, v108, v109, v110, v111, v112, t113, t114, t115, t116, t117, t118, t119, t120, t121, t122, t123, t124, t125, t126, t127, t128, t129, t130, t131, t132, t133, t134, t135, t136, t137, t138, t139, t140, t141, t142, t143, t144, t145, t146, t147, t148, t149, t150, t151, t152, t153, t154], d⟩ := by
  kernel_rfl
set_option maxRecDepth 100000 in
theorem normBe {t0 t1 t2 t3 t4 t5 t6 t7 t8 t9 t10 t11 t12 t13 t14 t15 t16 t17 t18 t19 t20 t21 t22 t23 t24 t25 t26 t27 t28 t29 t30 t31 t32 t33 t34 t35 t36 t37 t38 t39 t40 t41 t42 t43 t44 t45 t46 t47 t48 t49 t50 t51 t52 t53 t54 t55 t56 t57 t58 t59 t60 t61 t62 t63 t64 t65 t66 t67 t68 t69 t70 t71 t72 t73 t74 t75 t76 t77 t78 t79 t80 t81 t82 t83 t84 t85 t86 t87 t88 t89 t90 t91 t92 t93 t94 t95 t96 t97 t98 t99 t100 t101 t102 t103 t104 t105 t106 t107 t108 t109 t110 t111 t112 t113 t114 t115 t116 t117 t118 t119 t120 t121 t122 t123 t124 t125 t126 t127 t128 t129 t130 t131 t132 t133 t134 t135 t136 t137 t138 t139 t140 t141 t142 t143 t144 t145 t146 t147 t148 t149 t150 t151 t152 t153 t154 v57 v58 v59 : Value} {d : List Deferred} : putAll ⟨#[t0, t1, t2, t3, t4, t5, t6, t7, t8, t9, t10, t11, t12, t13, t14, t15, t16, t17, t18, t19, t20, t21, t22, t23, t24, t25, t26, t27, t28, t29, t30, t31, t32, t33, t34, t35, t36, t37, t38, t39, t40, t41, t42, t43, t44, t45, t46, t47, t48, t49, t50, t51, t52, t53, t54, t55, t56, t57, t58, t59, t60, t61, t62, t63, t64, t65, t66, t67, t68, t69, t70, t71, t72, t73, t74, t75, t76, t77, t78, t79, t80, t81, t82, t83, t84, t85, t86, t87, t88, t89, t90, t91, t92, t93, t94, t95, t96, t97, t98, t99, t100, t101, t102, t103, t104, t105, t106, t107, t108, t109, t110, t111, t112, t113, t114, t115, t116, t117, t118, t119, t120, t121, t122, t123, t124, t125, t126, t127, t128, t129, t130, t131, t132, t133, t134, t135, t136, t137, t138, t139, t140, t141, t142, t143, t144, t145, t146, t147, t148, t149, t150, t151, t152, t153, t154], d⟩ [(57, v57), (58, v58), (59, v59)] = ⟨#[t0, t1, t2, t3, t4, t5, t6, t7, t8, t9, t10, t11, t12, t13, t14, t15, t16, t17, t18, t19, t20, t21, t22, t23, t24, t25, t26, t27, t28, t29, t30, t31, t32, t33, t34, t35, t36, t37, t38, t39, t40, t41, t42, t43, t44, t45, t46, t47, t48, t49, t50, t51, t52, t53, t54, t55, t56, v57, v58, v59, t60, t61, t62, t63, t64, t65, t66, t67, t68, t69, t70, t71, t72, t73, t74, t75, t76, t77, t78, t79, t80, t81, t82, t83, t84, t85, t86, t87, t88, t89, t90, t91, t92, t93, t94, t95, t96, t97, t98, t99, t100, t101, t102, t103, t104, t105, t106, t107, t108, t109, t110, t111, t112, t113, t114, t115, t116, t117, t118, t119, t120, t121, t122, t123, t124, t125, t126, t127, t128, t129, t130, t131, t132, t133, t134, t135, t136, t137, t138, t139, t140, t141, t142, t143, t144, t145, t146, t147, t148, t149, t150, t151, t152, t153, t154], d⟩ := by
  kernel_rfl
set_option maxRecDepth 100000 in
theorem normBf {t0 t1 t2 t3 t4 t5 t6 t7 t8 t9 t10 t11 t12 t13 t14 t15 t16 t17 t18 t19 t20 t21 t22 t23 t24 t25 t26 t27 t28 t29 t30 t31 t32 t33 t34 t35 t36 t37 t38 t39 t40 t41 t42 t43 t44 t45 t46 t47 t48 t49 t50 t51 t52 t53 t54 t55 t56 t57 t58 t59 t60 t61 t62 t63 t64 t65 t66 t67 t68 t69 t70 t71 t72 t73 t74 t75 t76 t77 t78 t79 t80 t81 t82 t83 t84 t85 t86 t87 t88 t89 t90 t91 t92 t93 t94 t95 t96 t97 t98 t99 t100 t101 t102 t103 t104 t105 t106 t107 t108 t109 t110 t111 t112 t113 t114 t115 t116 t117 t118 t119 t120 t121 t122 t123 t124 t125 t126 t127 t128 t129 t130 t131 t132 t133 t134 t135 t136 t137 t138 t139 t140 t141 t142 t143 t144 t145 t146 t147 t148 t149 t150 t151 t152 t153 t154 v49 v50 v51 v52 v53 v54 v55 v56 : Value} {d : List Deferred} : putAll ⟨#[t0, t1, t2, t3, t4, t5, t6, t7, t8, t9, t10, t11, t12, t13, t14, t15, t16, t17, t18, t19, t20, t21, t22, t23, t24, t25, t26, t27, t28, t29, t30, t31, t32, t33, t34, t35, t36, t37, t38, t39, t40, t41, t42, t43, t44, t45, t46, t47, t48, t49, t50, t51, t52, t53, t54, t55, t56, t57, t58, t59, t60, t61, t62, t63, t64, t65, t66, t67, t68, t69, t70, t71, t72, t73, t74, t75, t76, t77, t78, t79, t80, t81, t82, t83, t84, t85, t86, t87, t88, t89, t90, t91, t92, t93, t94, t95, t96, t97, t98, t99, t100, t101, t102, t103, t104, t105, t106, t107, t108, t109, t110, t111, t112, t113, t114, t115, t116, t117, t118, t119, t120, t121, t122, t123, t124, t125, t126, t127, t128, t129, t130, t131, t132, t133, t134, t135, t136, t137, t138, t139, t140, t141, t142, t143, t144, t145, t146, t147, t148, t149, t150, t151, t152, t153, t154], d⟩ [(49, v49), (50, v50), (51, v51), (52, v52), (53, v53), (54, v54), (55, v55), (56, v56)] = ⟨#[t0, t1, t2, t3, t4, t5, t6, t7, t8, t9, t10, t11, t12, t13, t14, t15, t16, t17, t18, t19, t20, t21, t22, t23, t24, t25, t26, t27, t28, t29, t30, t31, t32, t33, t34, t35, t36, t37, t38, t39, t40, t41, t42, t43, t44, t45, t46, t47, t48, v49, v50, v51, v52, v53, v54, v55, v56, t57, t58, t59, t60, t61, t62, t63, t64, t65, t66, t67, t68, t69, t70, t71, t72, t73, t74, t75, t76, t77, t78, t79, t80, t81, t82, t83, t84, t85, t86, t87, t88, t89, t90, t91, t92, t93, t94, t95, t96, t97, t98, t99, t100, t101, t102, t103, t104, t105, t106, t107, t108, t109, t110, t111, t112, t113, t114, t115, t116, t117, t118, t119, t120, t121, t122, t123, t124, t125, t126, t127, t128, t129, t130, t131, t132, t133, t134, t135, t136, t137, t138, t139, t140, t141, t142, t143, t144, t145, t146, t147, t148, t149, t150, t151, t152, t153, t154], d⟩ := by
  kernel_rfl
end Go.Proofs.Ytedafbbpcpebbaa

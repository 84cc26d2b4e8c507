/- Of every three samples: what is told of the exact sum, difference, product and a * b + c lies as near as its neighbours, is an infinity from 2^128 - 2^103 on alone, and has its sign; no condition. -/
import Derived.Test.YtgpgjbgobaaohaaRows
import Derived.WalkKit
import Derived.ProofKit
import Derived.OpenShut
import Derived.Test.YtgpgjbgobaaohaaG278b0e8c
import Derived.Test.YtgpgjbgobaaohaaGcbbc475d
namespace Go.Proofs.Ytgpgjbgobaaohaa
open Go.ChangeShapes Go.WideShapes Go.ChangeAt Go.RowKit
set_option linter.unusedVariables false

theorem arithNear_own : ownKnob Try.prog.godebug = none := by kernel_rfl

set_option linter.unusedSimpArgs false
set_option maxRecDepth 100000
set_option maxHeartbeats 4000000 in
theorem arithNear_walk (a0 : Int) (a1 : Int) (a2 : Int) (w0 : (Lit.int .u32 a0).wf = true) (w1 : (Lit.int .u32 a1).wf = true) (w2 : (Lit.int .u32 a2).wf = true) (w : World) :
    Calls Try.prog 3 #[.int .u32 a0, .int .u32 a1, .int .u32 a2] w fun e w' => e = .returned (.bool true) ∧ Grown w w' := by
  obtain ⟨x0, x1⟩ := bounds_u32 w0
  obtain ⟨y0, y1⟩ := bounds_u32 w1
  obtain ⟨z0, z1⟩ := bounds_u32 w2
  obtain ⟨a, rfl⟩ := Int.eq_ofNat_of_zero_le x0
  obtain ⟨b, rfl⟩ := Int.eq_ofNat_of_zero_le y0
  obtain ⟨c, rfl⟩ := Int.eq_ofNat_of_zero_le z0
  have ha : a < 4294967296 := by omega
  have hb : b < 4294967296 := by omega
  have hc : c < 4294967296 := by omega
  have na := fun w => lisnan_any a ha w
  have nb := fun w => lisnan_any b hb w
  have nc := fun w => lisnan_any c hc w
  have ia := fun w => linf_any a ha w
  have ib := fun w => linf_any b hb w
  have ic := fun w => linf_any c hc w
  go_enter Try.func3, Try.ntmps3
  go_wp2_with fail
  refine (known_any _).mono ?_
  rintro e v1 ⟨rfl, q1⟩
  cases hna : nanN a
  · rw [hna] at na
    cases hnb : nanN b
    · rw [hnb] at nb
      cases hnc : nanN c
      · rw [hnc] at nc
        by_cases hia : rung32 a = 2139095040
        · rw [decide_eq_true hia] at ia
          clear hia hna hnb hnc
          go_wp2_with fail
          refine (na _).mono ?_
          rintro e u0 ⟨rfl, rfl⟩
          go_wp2_with fail
          refine (nb _).mono ?_
          rintro e u1 ⟨rfl, rfl⟩
          go_wp2_with fail
          refine (nc _).mono ?_
          rintro e u2 ⟨rfl, rfl⟩
          go_wp2_with fail
          refine (ia _).mono ?_
          rintro e u3 ⟨rfl, rfl⟩
          go_wp2_with fail
          go_ret
          exact ⟨rfl, q1.grown⟩
        · rw [decide_eq_false hia] at ia
          by_cases hib : rung32 b = 2139095040
          · rw [decide_eq_true hib] at ib
            clear hib hna hnb hnc hia
            go_wp2_with fail
            refine (na _).mono ?_
            rintro e u0 ⟨rfl, rfl⟩
            go_wp2_with fail
            refine (nb _).mono ?_
            rintro e u1 ⟨rfl, rfl⟩
            go_wp2_with fail
            refine (nc _).mono ?_
            rintro e u2 ⟨rfl, rfl⟩
            go_wp2_with fail
            refine (ia _).mono ?_
            rintro e u3 ⟨rfl, rfl⟩
            go_wp2_with fail
            refine (ib _).mono ?_
            rintro e u4 ⟨rfl, rfl⟩
            go_wp2_with fail
            go_ret
            exact ⟨rfl, q1.grown⟩
          · rw [decide_eq_false hib] at ib
            by_cases hic : rung32 c = 2139095040
            · rw [decide_eq_true hic] at ic
              clear hic hna hnb hnc hia hib
              go_wp2_with fail
              refine (na _).mono ?_
              rintro e u0 ⟨rfl, rfl⟩
              go_wp2_with fail
              refine (nb _).mono ?_
              rintro e u1 ⟨rfl, rfl⟩
              go_wp2_with fail
              refine (nc _).mono ?_
              rintro e u2 ⟨rfl, rfl⟩
              go_wp2_with fail
              refine (ia _).mono ?_
              rintro e u3 ⟨rfl, rfl⟩
              go_wp2_with fail
              refine (ib _).mono ?_
              rintro e u4 ⟨rfl, rfl⟩
              go_wp2_with fail
              refine (ic _).mono ?_
              rintro e u5 ⟨rfl, rfl⟩
              go_wp2_with fail
              go_ret
              exact ⟨rfl, q1.grown⟩
            · rw [decide_eq_false hic] at ic
              go_wp2_with fail
              refine (na _).mono ?_
              rintro e u0 ⟨rfl, rfl⟩
              go_wp2_with fail
              refine (nb _).mono ?_
              rintro e u1 ⟨rfl, rfl⟩
              go_wp2_with fail
              refine (nc _).mono ?_
              rintro e u2 ⟨rfl, rfl⟩
              go_wp2_with fail
              refine (ia _).mono ?_
              rintro e u3 ⟨rfl, rfl⟩
              go_wp2_with fail
              refine (ib _).mono ?_
              rintro e u4 ⟨rfl, rfl⟩
              go_wp2_with fail
              refine (ic _).mono ?_
              rintro e u5 ⟨rfl, rfl⟩
              have fa : rung32 a < 2139095040 := by rcases cases32 hna with g | g <;> omega
              have fb : rung32 b < 2139095040 := by rcases cases32 hnb with g | g <;> omega
              have fc : rung32 c < 2139095040 := by rcases cases32 hnc with g | g <;> omega
              clear na nb nc ia ib ic hna hnb hnc hia hib hic
              go_wp2_with fail
              refine (f32_any _).mono ?_
              rintro e v2 ⟨rfl, q2⟩
              have HQ2 : Hid (Q w v2) := q1.trans q2
              clear q1 q2
              go_wp2_with fail
              refine regionN6 rfl rfl ⟨rfl, rfl, rfl, rfl, by simp [go_sem], by simp [go_sem], ha, hb, hc, fa, fb, fc, Nat.le_refl _⟩ ?_
              intro x V8 V9 V10 v46 v47 v48 v49 v50 v51 v52 v53 v54 v55 v56 v57 q3 n8 n9 n10 d89 d810 d910 l8 l9 l10 m8' m9' m10' z9
              have HQ3 : Hid (Q w x) := (HQ2.out.cells _ _).trans q3
              have HL9 : Hid (w.heap.size ≤ V9) := Nat.le_trans (HQ2.out.cells _ _).1.size l9
              have HN8 : Hid (NBox x V8 (sampR a)) := n8
              have HN9 : Hid (NBox x V9 (sampR b)) := n9
              have HN10 : Hid (NBox x V10 (sampR c)) := n10
              clear q3 n8 n9 n10 HQ2 l8 l9 l10
              go_wp2_with fail
              refine regionN7 rfl ((putAll_size _ _).trans rfl) ⟨putAll_at _ _ 8 (ptrV V8) (by show sN6.Nodup; decide) (by simp) (by show 8 < 157; decide), putAll_at _ _ 9 (ptrV V9) (by show sN6.Nodup; decide) (by simp) (by show 9 < 157; decide), HN8.out, HN9.out, Nat.le_refl _, fun va vb x h h' => plusnum_any va vb _ _ x h h' (samp_few fa).2.1 (samp_few fb).2.1, fun va vb x h h' => timesnum_any va vb _ _ x h h' (samp_few fa).1 (samp_few fb).1⟩ ?_
              intro x1 V11 V12 v58 v59 v60 v61 v62 v63 q4 n11 n12 d1112 l11 l12 m11' m12'
              have HQ4 : Hid (Q w x1) := HQ3.out.trans q4
              have sx := q4.1.size
              obtain ⟨k8, s8, p8, L8, C8, e8, m8, b8, h8⟩ := HN8.out.next q4
              obtain ⟨k9, s9, p9, L9, C9, e9, m9, b9, h9⟩ := HN9.out.next q4
              obtain ⟨k10, s10, p10, L10, C10, e10, m10, b10, h10⟩ := HN10.out.next q4
              obtain ⟨k11, s11, p11, L11, C11, e11, m11, b11, h11⟩ := n11
              obtain ⟨k12, s12, p12, L12, C12, e12, m12, b12, h12⟩ := n12
              have HB8 : Hid (Box5 x1 V8 k8 s8 p8 L8 C8 e8 m8) := b8
              have HB9 : Hid (Box5 x1 V9 k9 s9 p9 L9 C9 e9 m9) := b9
              have HB11 : Hid (Box5 x1 V11 k11 s11 p11 L11 C11 e11 m11) := b11
              have HB12 : Hid (Box5 x1 V12 k12 s12 p12 L12 C12 e12 m12) := b12
              have HH8 : Hid (NumAt x1 (num5 k8 s8 p8 L8 C8 e8 m8) (sampR a)) := h8
              have HH9 : Hid (NumAt x1 (num5 k9 s9 p9 L9 C9 e9 m9) (sampR b)) := h9
              have HH10 : Hid (NumAt x1 (num5 k10 s10 p10 L10 C10 e10 m10) (sampR c)) := h10
              have HH11 : Hid (NumAt x1 (num5 k11 s11 p11 L11 C11 e11 m11) (plusR (sampR a) (sampR b))) := h11
              have HH12 : Hid (NumAt x1 (num5 k12 s12 p12 L12 C12 e12 m12) (timesR (sampR a) (sampR b))) := h12
              have HZ9 : Hid (∀ j, x1.frozen? ⟨V9, j, none⟩ = false) := fun j => (q4.2 _).trans (z9 j)
              have HD : Hid (V8 ≠ V9 ∧ V9 ≠ V10 ∧ V9 ≠ V11 ∧ V9 ≠ V12 ∧ V8 < x1.heap.size ∧ V9 < x1.heap.size ∧ V11 < x1.heap.size ∧ V12 < x1.heap.size) := ⟨d89, d910, by omega, by omega, by omega, by omega, m11', m12'⟩
              obtain ⟨c100, c101, c102, c103, c104⟩ := b10
              obtain ⟨c120, c121, c122, c123, c124⟩ := b12
              clear b8 b9 b11 h8 h9 h10 h11 h12 z9 q4 HN8 HN9 HN10 HQ3 d89 d810 d910 m8' m9' m10' d1112 l11 l12 m11' m12' sx
              simp only [putAll, Act.put, ptrV]
              go_wp2_with fail
              refine (plusnum_any _ _ _ _ _ HH12.out HH10.out (by obtain ⟨_, _, _, h⟩ := near3 fa fb; exact h.small') (samp_few fc).2.1).mono ?_
              rintro e x2 ⟨v, rfl, h13, q5⟩
              obtain ⟨k13, s13, p13, L13, C13, e13, m13, rfl⟩ := h13.made
              have HQ5 : Hid (Q w x2) := HQ4.out.trans q5
              have KB8 : Hid (Box5 x2 V8 k8 s8 p8 L8 C8 e8 m8) := HB8.out.next q5
              have KB9 : Hid (Box5 x2 V9 k9 s9 p9 L9 C9 e9 m9) := HB9.out.next q5
              have KB11 : Hid (Box5 x2 V11 k11 s11 p11 L11 C11 e11 m11) := HB11.out.next q5
              have KB12 : Hid (Box5 x2 V12 k12 s12 p12 L12 C12 e12 m12) := HB12.out.next q5
              have KH8 : Hid (NumAt x2 (num5 k8 s8 p8 L8 C8 e8 m8) (sampR a)) := q5.num HH8.out
              have KH9 : Hid (NumAt x2 (num5 k9 s9 p9 L9 C9 e9 m9) (sampR b)) := q5.num HH9.out
              have KH11 : Hid (NumAt x2 (num5 k11 s11 p11 L11 C11 e11 m11) (plusR (sampR a) (sampR b))) := q5.num HH11.out
              have KH12 : Hid (NumAt x2 (num5 k12 s12 p12 L12 C12 e12 m12) (timesR (sampR a) (sampR b))) := q5.num HH12.out
              have KH13 : Hid (NumAt x2 (num5 k13 s13 p13 L13 C13 e13 m13) (plusR (timesR (sampR a) (sampR b)) (sampR c))) := h13
              have KZ9 : Hid (∀ j, x2.frozen? ⟨V9, j, none⟩ = false) := fun j => (q5.2 _).trans (HZ9.out j)
              have sz5 := q5.1.size
              obtain ⟨d89, d910, d911, d912, m8', m9', m11', m12'⟩ := id HD.out
              have r8 : V8 < x2.heap.size := by omega
              have r9 : V9 < x2.heap.size := by omega
              have r11 : V11 < x2.heap.size := by omega
              have r12 : V12 < x2.heap.size := by omega
              have t1 := d89.symm
              have t2 := d911.symm
              have t3 := d912.symm
              obtain ⟨a80, a81, a82, a83, a84⟩ := id KB8.out
              obtain ⟨a90, a91, a92, a93, a94⟩ := id KB9.out
              have y91 := KZ9.out 1
              clear HB8 HB9 HB11 HB12 HH8 HH9 HH10 HH11 HH12 HZ9 h13 q5 HD m8' m9' m11' m12' sz5 c100 c101 c102 c103 c104 c120 c121 c122 c123 c124
              go_wp2_with fail
              obtain ⟨x3, hx3⟩ : ∃ x3, (x2.setCell ⟨V9, 1, none⟩ (.bool !s9)).alloc (Obj.cells #[.int .i64 k13, .bool s13, .slice p13 L13 C13, .int .i64 e13, .bool m13] 31) = x3 := ⟨_, rfl⟩
              have nset : ∀ v X, NumAt x2 v X → NumAt x3 v X := fun v X h => by
                rw [← hx3]
                exact Q.num ((Q.refl _).cells _ _) (numAt_but h a90 (fun y hy => World.cell?_setCell_other _ _ _ _ (fun e => hy (by rw [← e]))))
              have N9' : NumAt x3 (.agg #[.int .i64 k9, .bool !s9, .slice p9 L9 C9, .int .i64 e9, .bool m9]) (oppR (sampR b)) := opp_num (nset _ _ KH9.out)
              have HQ6 : Hid (Q w x3) := by rw [← hx3]; exact (HQ5.out.set HL9.out _).cells _ _
              obtain ⟨V13, hV13⟩ : ∃ V13, V13 = x2.heap.size := ⟨_, rfl⟩
              have LB11 : Box5 x3 V11 k11 s11 p11 L11 C11 e11 m11 := by
                obtain ⟨g0, g1, g2, g3, g4⟩ := KB11.out
                rw [← hx3]
                exact ⟨by simp [go_sem, g0, t2, d911, r11], by simp [go_sem, g1, t2, d911, r11], by simp [go_sem, g2, t2, d911, r11], by simp [go_sem, g3, t2, d911, r11], by simp [go_sem, g4, t2, d911, r11]⟩
              have LB12 : Box5 x3 V12 k12 s12 p12 L12 C12 e12 m12 := by
                obtain ⟨g0, g1, g2, g3, g4⟩ := KB12.out
                rw [← hx3]
                exact ⟨by simp [go_sem, g0, t3, d912, r12], by simp [go_sem, g1, t3, d912, r12], by simp [go_sem, g2, t3, d912, r12], by simp [go_sem, g3, t3, d912, r12], by simp [go_sem, g4, t3, d912, r12]⟩
              have LB13 : Box5 x3 V13 k13 s13 p13 L13 C13 e13 m13 := by
                rw [← hx3, hV13]
                exact ⟨by simp [go_sem], by simp [go_sem], by simp [go_sem], by simp [go_sem], by simp [go_sem]⟩
              have sz3 : x3.heap.size = x2.heap.size + 1 := by rw [← hx3]; simp
              rw [hx3]
              refine (plusnum_any _ _ _ _ _ (nset _ _ KH8.out) N9' (samp_few fa).2.1 (samp_few fb).2.2).mono ?_
              rintro e x4 ⟨v, rfl, h14, q7⟩
              obtain ⟨k14, s14, p14, L14, C14, e14, m14, rfl⟩ := h14.made
              have sz4 := q7.1.size
              have HQ7 : Hid (Q w x4) := HQ6.out.trans q7
              have MH11 : Hid (NumAt x4 (num5 k11 s11 p11 L11 C11 e11 m11) (plusR (sampR a) (sampR b))) := q7.num (nset _ _ KH11.out)
              have MH12 : Hid (NumAt x4 (num5 k12 s12 p12 L12 C12 e12 m12) (timesR (sampR a) (sampR b))) := q7.num (nset _ _ KH12.out)
              have MH13 : Hid (NumAt x4 (num5 k13 s13 p13 L13 C13 e13 m13) (plusR (timesR (sampR a) (sampR b)) (sampR c))) := q7.num (nset _ _ KH13.out)
              have MH14 : Hid (NumAt x4 (num5 k14 s14 p14 L14 C14 e14 m14) (plusR (sampR a) (oppR (sampR b)))) := h14
              obtain ⟨a110, a111, a112, a113, a114⟩ := LB11.next q7
              obtain ⟨a120, a121, a122, a123, a124⟩ := LB12.next q7
              obtain ⟨a130, a131, a132, a133, a134⟩ := LB13.next q7
              have r11' : V11 < x4.heap.size := by omega
              have r12' : V12 < x4.heap.size := by omega
              have r13' : V13 < x4.heap.size := by omega
              rw [← hV13]
              clear hx3 nset N9' LB11 LB12 LB13 sz3 sz4 h14 q7 HQ5 HQ6 KB8 KB9 KB11 KB12 KH8 KH9 KH11 KH12 KH13 KZ9 a80 a81 a82 a83 a84 a90 a91 a92 a93 a94 y91 r8 r9 r11 r12 t1 t2 t3 d89 d910 d911 d912 hV13
              go_wp2_with fail
              obtain ⟨x5, hx5⟩ : ∃ x5, (x4.alloc (Obj.cells #[.int .i64 k14, .bool s14, .slice p14 L14 C14, .int .i64 e14, .bool m14] 31)).alloc (Obj.cells #[.int .i64 k11, .bool s11, .slice p11 L11 C11, .int .i64 e11, .bool m11, .int .i64 k14, .bool s14, .slice p14 L14 C14, .int .i64 e14, .bool m14, .int .i64 k12, .bool s12, .slice p12 L12 C12, .int .i64 e12, .bool m12, .int .i64 k13, .bool s13, .slice p13 L13 C13, .int .i64 e13, .bool m13] 31) = x5 := ⟨_, rfl⟩
              have Q45 : Q x4 x5 := by rw [← hx5]; exact ((Q.refl x4).cells _ _).cells _ _
              have E0 : Elt x5 (x4.heap.size + 1) 0 (plusR (sampR a) (sampR b)) := ⟨k11, s11, p11, L11, C11, e11, m11, by rw [← hx5]; simp [go_sem], by rw [← hx5]; simp [go_sem], by rw [← hx5]; simp [go_sem], by rw [← hx5]; simp [go_sem], by rw [← hx5]; simp [go_sem], Q45.num MH11.out⟩
              have E1 : Elt x5 (x4.heap.size + 1) 1 (plusR (sampR a) (oppR (sampR b))) := ⟨k14, s14, p14, L14, C14, e14, m14, by rw [← hx5]; simp [go_sem], by rw [← hx5]; simp [go_sem], by rw [← hx5]; simp [go_sem], by rw [← hx5]; simp [go_sem], by rw [← hx5]; simp [go_sem], Q45.num MH14.out⟩
              have E2 : Elt x5 (x4.heap.size + 1) 2 (timesR (sampR a) (sampR b)) := ⟨k12, s12, p12, L12, C12, e12, m12, by rw [← hx5]; simp [go_sem], by rw [← hx5]; simp [go_sem], by rw [← hx5]; simp [go_sem], by rw [← hx5]; simp [go_sem], by rw [← hx5]; simp [go_sem], Q45.num MH12.out⟩
              have E3 : Elt x5 (x4.heap.size + 1) 3 (plusR (timesR (sampR a) (sampR b)) (sampR c)) := ⟨k13, s13, p13, L13, C13, e13, m13, by rw [← hx5]; simp [go_sem], by rw [← hx5]; simp [go_sem], by rw [← hx5]; simp [go_sem], by rw [← hx5]; simp [go_sem], by rw [← hx5]; simp [go_sem], Q45.num MH13.out⟩
              rw [hx5]
              have HQ8 : Hid (Q w x5) := HQ7.out.trans Q45
              obtain ⟨BE, hBE⟩ : ∃ BE, BE = x4.heap.size + 1 := ⟨_, rfl⟩
              rw [← hBE] at E0 E1 E2 E3 ⊢
              have HE0 : Hid (Elt x5 BE 0 (plusR (sampR a) (sampR b))) := E0
              have HE1 : Hid (Elt x5 BE 1 (plusR (sampR a) (oppR (sampR b)))) := E1
              have HE2 : Hid (Elt x5 BE 2 (timesR (sampR a) (sampR b))) := E2
              have HE3 : Hid (Elt x5 BE 3 (plusR (timesR (sampR a) (sampR b)) (sampR c))) := E3
              obtain ⟨σ1, N1, b1, P1⟩ := near1 fa fb
              obtain ⟨σ2, N2, b2, P2⟩ := near2 fa fb
              obtain ⟨σ3, N3, b3, P3⟩ := near3 fa fb
              obtain ⟨σ4, N4, b4, P4⟩ := near4 fa fb fc
              have c1 := fun w => cadd_any a b w
              have c2 := fun w => csub_any a b w
              have c3 := fun w => cmul_any a b w
              have c4 := fun w => cfma_any a b c w
              generalize toldD ((Ieee.single.read a).sum (Ieee.single.read b)) = T1 at P1 c1
              generalize toldD ((Ieee.single.read a).sum (Ieee.single.read b).opposite) = T2 at P2 c2
              generalize toldD ((Ieee.single.read a).product (Ieee.single.read b)) = T3 at P3 c3
              generalize toldD (fmaD a b c) = T4 at P4 c4
              have HP1 : Hid (NearN (plusR (sampR a) (sampR b)) T1 σ1 N1 b1) := P1
              have HP2 : Hid (NearN (plusR (sampR a) (oppR (sampR b))) T2 σ2 N2 b2) := P2
              have HP3 : Hid (NearN (timesR (sampR a) (sampR b)) T3 σ3 N3 b3) := P3
              have HP4 : Hid (NearN (plusR (timesR (sampR a) (sampR b)) (sampR c)) T4 σ4 N4 b4) := P4
              clear hx5 Q45 E0 E1 E2 E3 hBE P1 P2 P3 P4 MH11 MH12 MH13 MH14 HQ7 a110 a111 a112 a113 a114 a120 a121 a122 a123 a124 a130 a131 a132 a133 a134 r11' r12' r13'
              refine (c1 _).mono ?_
              rintro e x6 ⟨rfl, g6⟩
              go_wp2_with fail
              refine (c2 _).mono ?_
              rintro e x7 ⟨rfl, g7⟩
              go_wp2_with fail
              refine (c3 _).mono ?_
              rintro e x8 ⟨rfl, g8⟩
              go_wp2_with fail
              refine (c4 _).mono ?_
              rintro e x9 ⟨rfl, g9⟩
              have Q59 : Q x5 x9 := ((g6.trans g7).trans g8).trans g9
              clear g6 g7 g8 g9 c1 c2 c3 c4
              have HQ59 : Hid (Q x5 x9) := Q59
              clear Q59
              go_wp2_with fail
              obtain ⟨xa, hxa⟩ : ∃ xa, x9.alloc (Obj.cells #[.int .u32 (T1 : Int), .int .u32 (T2 : Int), .int .u32 (T3 : Int), .int .u32 (T4 : Int)] 22) = xa := ⟨_, rfl⟩
              have Qa : Q x9 xa := by rw [← hxa]; exact (Q.refl x9).cells _ _
              have Q5a : Q x5 xa := HQ59.out.trans Qa
              have G0 : Pair xa BE x9.heap.size 0 := ⟨_, T1, σ1, N1, b1, HP1.out, HE0.out.next Q5a, by rw [← hxa]; simp [go_sem]⟩
              have G1 : Pair xa BE x9.heap.size 1 := ⟨_, T2, σ2, N2, b2, HP2.out, HE1.out.next Q5a, by rw [← hxa]; simp [go_sem]⟩
              have G2 : Pair xa BE x9.heap.size 2 := ⟨_, T3, σ3, N3, b3, HP3.out, HE2.out.next Q5a, by rw [← hxa]; simp [go_sem]⟩
              have G3 : Pair xa BE x9.heap.size 3 := ⟨_, T4, σ4, N4, b4, HP4.out, HE3.out.next Q5a, by rw [← hxa]; simp [go_sem]⟩
              have GA : Hid (∀ ix, ix < 4 → Pair xa BE x9.heap.size ix) := fun ix hix => by
                rcases ix with _ | _ | _ | _ | ix
                · exact G0
                · exact G1
                · exact G2
                · exact G3
                · omega
              have HQa : Hid (Q w xa) := HQ8.out.trans Q5a
              obtain ⟨BT, hBT⟩ : ∃ BT, BT = x9.heap.size := ⟨_, rfl⟩
              rw [← hBT] at GA
              rw [hxa]
              try rw [← hBT]
              clear hxa Qa Q5a G0 G1 G2 G3 HQ59 HQ8 HE0 HE1 HE2 HE3 HP1 HP2 HP3 HP4 hBT
              refine (natof_nat 33554431 _ (by decide)).mono ?_
              rintro e xb ⟨v, rfl, hnat, qb⟩
              obtain ⟨pn, bn, Ln, Cn, rfl, hI⟩ := id hnat
              have HNB : Hid (NatAt xb (.slice pn Ln Cn) 33554431) := hnat
              have GB : Hid (∀ ix, ix < 4 → Pair xb BE BT ix) := fun ix h => (GA.out ix h).next qb
              have HQb : Hid (Q w xb) := HQa.out.trans qb
              clear hnat hI qb GA HQa
              go_wp2_with fail
              obtain ⟨xc, hxc⟩ : ∃ xc, xb.alloc (Obj.cells #[Value.int .i64 2, Value.bool false, Value.slice pn Ln Cn, Value.int .i64 103, Value.bool false] 31) = xc := ⟨_, rfl⟩
              have Qc : Q xb xc := by rw [← hxc]; exact (Q.refl xb).cells _ _
              have GC : Hid (∀ ix, ix < 4 → Pair xc BE BT ix) := fun ix h => (GB.out ix h).next Qc
              have HNC : Hid (NatAt xc (.slice pn Ln Cn) 33554431) := Q.nat Qc HNB.out
              have HBB : Box5 xc xb.heap.size 2 false pn Ln Cn 103 false := by rw [← hxc]; exact ⟨by simp [go_sem], by simp [go_sem], by simp [go_sem], by simp [go_sem], by simp [go_sem]⟩
              have HQc : Hid (Q w xc) := HQb.out.trans Qc
              have szc : xb.heap.size < xc.heap.size := by rw [← hxc]; simp
              obtain ⟨V17, hV17⟩ : ∃ V17, V17 = xb.heap.size := ⟨_, rfl⟩
              rw [← hV17] at HBB szc ⊢
              rw [hxc]
              have HB17 : Hid (Box5 xc V17 2 false pn Ln Cn 103 false) := HBB
              have HSZ : Hid (V17 < xc.heap.size) := szc
              clear hxc Qc GB HNB HBB HQb szc hV17
              go_loopg [18] (4) (fun g s18 wr => ∃ ix : Nat, s18 = .int .i64 (ix : Int) ∧ ix ≤ 4 ∧ g = 4 - ix ∧ Q xc wr)
              case atStart => exact ⟨0, rfl, by omega, rfl, Q.refl _⟩
              case round =>
                obtain ⟨ix, rfl, hix, rfl, qr⟩ := hrel
                have HQR : Hid (Q xc wr) := qr
                by_cases h4 : ix < 4
                · obtain ⟨D, T, σ, N, bb, hN, hE, hT⟩ := (GC.out ix h4).next qr
                  have hE' := hE
                  rw [hN.hD] at hE'
                  obtain ⟨pa, La, Ca, f0, f1, f2, f3, f4, hnat⟩ := elt_fin hE'
                  obtain ⟨g0, g1, g2, g3, g4⟩ := HB17.out.next qr
                  have HNN : Hid (NearN D T σ N bb) := hN
                  have HEE : Hid (Elt wr BE ix D) := hE
                  have HTT : Hid (wr.cell? ⟨BT, ix, none⟩ = some (.int .u32 (T : Nat))) := hT
                  have HNA : Hid (NatAt wr (.slice pa La Ca) N) := hnat
                  have HS1 : Hid (wr.cell? ⟨BE, ix * 5 + 1, none⟩ = some (.bool σ)) := f1
                  have h17 : V17 < wr.heap.size := Nat.lt_of_lt_of_le HSZ.out qr.1.size
                  have h17' : V17 ≠ wr.heap.size := by omega
                  clear hE' hN hE hT hnat qr
                  go_wp2_with fail
                  refine (nearer_num _ _ false false false false 33554431 N 103 bb _ (at_fin (Q.nat (HQR.out.cells _ _) HNC.out)) (at_fin (Q.nat ((Q.refl wr).cells _ _) HNA.out)) (by decide) (by decide) (by decide) HNN.out.n1 HNN.out.b0 (by have := HNN.out.b1; omega)).mono ?_
                  rintro e y1 ⟨rfl, qy⟩
                  have QY : Hid (Q wr y1) := ((Q.refl wr).cells _ _).trans qy
                  obtain ⟨t1, t2, t3, t4⟩ := HNN.out.told
                  have cn := fun x => lisnan_any T t1 x
                  have ci := fun x => linf_any T t1 x
                  rw [t2] at cn
                  rw [← HNN.out.great] at ci
                  have HT1 : Hid (T < 4294967296) := t1
                  have HT4 : Hid (sgn32 T = σ) := t4
                  clear t1 t2 t3 t4 qy f0 f1 f2 f3 f4 g0 g1 g2 g3 g4 HNA h17 h17'
                  by_cases hg : zm 33554431 103 ≤ zm N bb
                  · rw [decide_eq_true hg] at ci ⊢
                    clear hg
                    have HCN : Hid _ := cn
                    have HCI : Hid _ := ci
                    clear cn ci
                    go_wp2_with fail
                    refine regionM rfl rfl ⟨rfl, rfl, rfl, rfl, h4, QY.out.cell HTT.out, HEE.out.next QY.out, HCN.out, HCI.out⟩ ?_
                    intro y2 z q20
                    have QY2 : Hid (Q wr y2) := QY.out.trans q20
                    clear q20 HCN HCI QY
                    rw [norm20]
                    go_wp2_with fail
                    by_cases hz : N = 0
                    · have cz := fun v x h => zero_fin v σ N bb x h
                      rw [decide_eq_true hz] at cz
                      refine regionZ rfl rfl ⟨rfl, rfl, rfl, h4, QY2.out.cell HTT.out, HEE.out.next QY2.out, fun v x h => by rw [HNN.out.hD] at h; exact cz v x h, HT1.out, HT4.out, QY2.out.cell HS1.out⟩ ?_
                      intro y3 z2 q22
                      have QY3 : Hid (Q xc y3) := (HQR.out.trans QY2.out).trans q22
                      clear q22 cz hz QY2 HTT HEE HNN HT1 HT4 HS1
                      rw [norm22]
                      go_wp2_with fail
                      go_roundg (4 - (ix + 1))
                      case measure => go_light; omega
                      case rel =>
                        go_light
                        exact ⟨ix + 1, by simp, by omega, rfl, QY3.out⟩
                    · have cz := fun v x h => zero_fin v σ N bb x h
                      rw [decide_eq_false hz] at cz
                      refine regionZB rfl rfl ⟨rfl, rfl, rfl, h4, QY2.out.cell HTT.out, HEE.out.next QY2.out, fun v x h => by rw [HNN.out.hD] at h; exact cz v x h, HT1.out, HT4.out, QY2.out.cell HS1.out⟩ ?_
                      intro y3 z2 q22
                      have QY3 : Hid (Q xc y3) := (HQR.out.trans QY2.out).trans q22
                      clear q22 cz hz QY2 HTT HEE HNN HT1 HT4 HS1
                      rw [norm22]
                      go_wp2_with fail
                      go_roundg (4 - (ix + 1))
                      case measure => go_light; omega
                      case rel =>
                        go_light
                        exact ⟨ix + 1, by simp, by omega, rfl, QY3.out⟩
                  · rw [decide_eq_false hg] at ci ⊢
                    have HCS : Hid (∀ v x, NumAt x v D → Calls Try.prog 18 #[v, .int .u32 (T : Nat)] x fun e x' => e = .returned (.bool true) ∧ Q x x') := fun v x h => HNN.out.nearest hg v x h
                    clear hg
                    have HCN : Hid _ := cn
                    have HCI : Hid _ := ci
                    clear cn ci
                    go_wp2_with fail
                    refine regionMB rfl rfl ⟨rfl, rfl, rfl, rfl, h4, QY.out.cell HTT.out, HEE.out.next QY.out, HCN.out, HCI.out, HCS.out⟩ ?_
                    intro y2 z q20
                    have QY2 : Hid (Q wr y2) := QY.out.trans q20
                    clear q20 HCN HCI HCS QY
                    rw [norm20]
                    go_wp2_with fail
                    by_cases hz : N = 0
                    · have cz := fun v x h => zero_fin v σ N bb x h
                      rw [decide_eq_true hz] at cz
                      refine regionZ rfl rfl ⟨rfl, rfl, rfl, h4, QY2.out.cell HTT.out, HEE.out.next QY2.out, fun v x h => by rw [HNN.out.hD] at h; exact cz v x h, HT1.out, HT4.out, QY2.out.cell HS1.out⟩ ?_
                      intro y3 z2 q22
                      have QY3 : Hid (Q xc y3) := (HQR.out.trans QY2.out).trans q22
                      clear q22 cz hz QY2 HTT HEE HNN HT1 HT4 HS1
                      rw [norm22]
                      go_wp2_with fail
                      go_roundg (4 - (ix + 1))
                      case measure => go_light; omega
                      case rel =>
                        go_light
                        exact ⟨ix + 1, by simp, by omega, rfl, QY3.out⟩
                    · have cz := fun v x h => zero_fin v σ N bb x h
                      rw [decide_eq_false hz] at cz
                      refine regionZB rfl rfl ⟨rfl, rfl, rfl, h4, QY2.out.cell HTT.out, HEE.out.next QY2.out, fun v x h => by rw [HNN.out.hD] at h; exact cz v x h, HT1.out, HT4.out, QY2.out.cell HS1.out⟩ ?_
                      intro y3 z2 q22
                      have QY3 : Hid (Q xc y3) := (HQR.out.trans QY2.out).trans q22
                      clear q22 cz hz QY2 HTT HEE HNN HT1 HT4 HS1
                      rw [norm22]
                      go_wp2_with fail
                      go_roundg (4 - (ix + 1))
                      case measure => go_light; omega
                      case rel =>
                        go_light
                        exact ⟨ix + 1, by simp, by omega, rfl, QY3.out⟩
                · obtain rfl : ix = 4 := by omega
                  go_wp2_with fail
                  go_ret
                  exact ⟨rfl, (HQc.out.trans HQR.out).grown⟩
      · rw [hnc] at nc
        clear hnc hna hnb
        go_wp2_with fail
        refine (na _).mono ?_
        rintro e u0 ⟨rfl, rfl⟩
        go_wp2_with fail
        refine (nb _).mono ?_
        rintro e u1 ⟨rfl, rfl⟩
        go_wp2_with fail
        refine (nc _).mono ?_
        rintro e u2 ⟨rfl, rfl⟩
        go_wp2_with fail
        go_ret
        exact ⟨rfl, q1.grown⟩
    · rw [hnb] at nb
      clear hnb hna
      go_wp2_with fail
      refine (na _).mono ?_
      rintro e u0 ⟨rfl, rfl⟩
      go_wp2_with fail
      refine (nb _).mono ?_
      rintro e u1 ⟨rfl, rfl⟩
      go_wp2_with fail
      go_ret
      exact ⟨rfl, q1.grown⟩
  · rw [hna] at na
    clear hna
    go_wp2_with fail
    refine (na _).mono ?_
    rintro e u0 ⟨rfl, rfl⟩
    go_wp2_with fail
    go_ret
    exact ⟨rfl, q1.grown⟩

set_option maxRecDepth 100000 in
theorem arithNear_lifted (os : Os) (started : os.Started) (H : Type) (enc : TypeId × Value → H) :
    ReturnsInHanded {} Try.checked os 3 .any (Rows.arithNearSpec.pre6 enc Try.prog Try.f3 Rows.arithNearRow.domain false) (Rows.arithNearSpec.post enc Try.prog Try.f3 false true false false) := by
  refine returnsInHanded_of_change (C := Try.checked) arithNear_own started (by kernel_rfl) Try.func3
    (ChangeSpec.witness6 (enc := enc) (C := Try.checked) false ⟨#[], #[.int .u32 0, .int .u32 0, .int .u32 0], []⟩ 8 (by kernel_rfl) (by kernel_rfl) (by kernel_rfl) (by kernel_rfl)) ?_
  intro W base args ds gs before hval0 hW hcnd _
  have hval : ∀ (j : Nat) t v, Try.f3.params[j]? = some t → args[j]? = some v → Value.okWide Try.prog W .any base t v := hval0
  have hW' := hW
  obtain ⟨p, q, hA0, hV, rfl, hfz, hnd⟩ := hW
  have hA : DataW.TrodAll enc Try.prog W 0 (fun _ => true) true Try.f3.params.toList args.toList ds p := hA0
  rw [Try.params3] at hA hval
  obtain ⟨v0, vs0, d0, ds0, p0, q0, hargs, rfl, rfl, h0, r0⟩ := trodAll_cons hA
  obtain ⟨v1, vs1, d1, ds1, p1, q1, rfl, rfl, rfl, h1, r1⟩ := trodAll_cons r0
  obtain ⟨v2, vs2, d2, ds2, p2, q2, rfl, rfl, rfl, h2, r2⟩ := trodAll_cons r1
  obtain ⟨rfl, rfl, rfl⟩ := trodAll_nil r2
  obtain rfl : args = #[v0, v1, v2] := by cases args; simp_all
  obtain ⟨rfl, rfl⟩ := trodVars_none hV
  obtain ⟨a0, rfl, rfl, rfl, w0⟩ := open_int Try.underlying22 (hval 0 22 v0 rfl rfl) h0
  obtain ⟨a1, rfl, rfl, rfl, w1⟩ := open_int Try.underlying22 (hval 1 22 v1 rfl rfl) h1
  obtain ⟨a2, rfl, rfl, rfl, w2⟩ := open_int Try.underlying22 (hval 2 22 v2 rfl rfl) h2
  clear hA0 hval0
  simp only [List.append_nil] at hW'
  refine (arithNear_walk a0 a1 a2 w0 w1 w2 W).mono fun e W' ⟨he, hg⟩ => ?_
  subst he
  exact ⟨_, rfl, post_of_same (pa := []) (pv := []) hW' (fun _ _ _ => (trodAll_cons_mk (shut_bool Try.underlying4 _) trodAll_mk0)) (fun sp _ => (trodAll_cons_mk (shut_int Try.underlying22 w0) (trodAll_cons_mk (shut_int Try.underlying22 w1) (trodAll_cons_mk (shut_int Try.underlying22 w2) trodAll_mk0)))) (fun _ _ => rfl) rfl
    (hg.frame _) hg.2.1 (ok_one (by kernel_rfl) rfl (okWide_bool_mk Try.underlying4 _))⟩

theorem arithNear_over : Rows.arithNearRow.holds Try.pinned (OpenSpec.ofChange Rows.arithNearSpec) :=
  OpenClaim.holds_of_wide 3 Try.f3 rfl rfl rfl rfl rfl rfl rfl ⟨rfl, rfl, rfl, rfl, rfl⟩ rfl rfl rfl rfl rfl (by kernel_rfl) Try.func3 (by kernel_rfl)
    (of_decide_eq_true (by kernel_rfl)) (by unfold Func.isWrapper; first | (rw [if_pos (by decide +kernel)]; kernel_rfl) | (rw [if_neg (by decide +kernel)]; exact ⟨rfl, rfl⟩))
    (fun os started H enc _ => arithNear_lifted os started H enc)

theorem arithNear_holds : Rows.ArithNearSaid :=
  arithNear_over
#print axioms arithNear_holds
end Go.Proofs.Ytgpgjbgobaaohaa

/- What is said of pieces, pastes, flips and turns: the walk. -/
import Derived.Test.YtkgfohodahkmmaaRmT
namespace Go.Proofs.Ytkgfohodahkmmaa
open Go.RowKit
set_option linter.unusedVariables false
set_option linter.unusedSimpArgs false

theorem NewN.fr {lo : Nat} {w w' : World} {v : Value} {n : Nat} {R : Nat → Prop} (h : NewN lo w v n) (f : Fr w w' R) (hR : ∀ b, v.ownBlock = some b → R b) : NewN lo w' v n := by
  rcases h with h | ⟨g, h1, h2, h3, h4, h5⟩
  · exact Or.inl h
  · exact Or.inr ⟨g, h1, h2, Nat.lt_of_lt_of_le h3 f.size, fun j hj => by obtain ⟨u, hu⟩ := h4 j hj; exact ⟨u, f.cell hu (hR g (by rw [h1]; rfl))⟩, fun j => (f.frz _).trans (h5 j)⟩
theorem NewN.blk {lo : Nat} {w : World} {v : Value} {n : Nat} (h : NewN lo w v n) {b : Nat} (hb : v.ownBlock = some b) : lo ≤ b ∧ b < w.heap.size := by
  rcases h with ⟨rfl, _⟩ | ⟨g, rfl, h2, h3, _⟩
  · cases hb
  · injection hb with hb
    have hb : g = b := hb
    omega
/-- A rectangle in a box. -/
structure QBox (w : World) (V : Nat) (a b c d : Int) : Prop where
  c0 : w.cell? ⟨V, 0, none⟩ = some (.int .i64 a)
  c1 : w.cell? ⟨V, 1, none⟩ = some (.int .i64 b)
  c2 : w.cell? ⟨V, 2, none⟩ = some (.int .i64 c)
  c3 : w.cell? ⟨V, 3, none⟩ = some (.int .i64 d)
theorem QBox.next {w w' : World} {V : Nat} {a b c d : Int} (h : QBox w V a b c d) (q : Q w w') : QBox w' V a b c d := ⟨q.cell h.c0, q.cell h.c1, q.cell h.c2, q.cell h.c3⟩
theorem QBox.fr {w w' : World} {V : Nat} {a b c d : Int} {R : Nat → Prop} (h : QBox w V a b c d) (f : Fr w w' R) (hR : R V) : QBox w' V a b c d := ⟨f.cell h.c0 hR, f.cell h.c1 hR, f.cell h.c2 hR, f.cell h.c3 hR⟩
theorem box_put {w : World} {V : Nat} {W H W' H' : Int} {v v' : Value} (h : IBox w V W H v) : IBox (((w.setCell ⟨V, 0, none⟩ (.int .i64 W')).setCell ⟨V, 1, none⟩ (.int .i64 H')).setCell ⟨V, 2, none⟩ v') V W' H' v' := by
  obtain ⟨q0, q1, q2⟩ := h
  exact ⟨by simp [go_sem, q0, q1, q2], by simp [go_sem, q0, q1, q2], by simp [go_sem, q0, q1, q2]⟩
theorem fr_put {x w : World} {V : Nat} {W' H' : Int} {v' : Value} {R : Nat → Prop} (f : Fr x w R) (hV : ¬ R V) : Fr x (((w.setCell ⟨V, 0, none⟩ (.int .i64 W')).setCell ⟨V, 1, none⟩ (.int .i64 H')).setCell ⟨V, 2, none⟩ v') R := ((f.set (p := ⟨V, 0, none⟩) hV _).set (p := ⟨V, 1, none⟩) hV _).set (p := ⟨V, 2, none⟩) hV _
set_option maxHeartbeats 16000000 in
set_option maxRecDepth 100000 in
theorem moves_walk (W H : Int) (sv : Value) (S : List Nat) (W2 H2 : Int) (sv2 : Value) (S2 : List Nat) (k0 k1 k2 k3 X Y qu : Int) (w : World) (hS : USl w sv S) (hS2 : USl w sv2 S2) (hn : S.length ≤ 35184372087808) (hn2 : S2.length ≤ 35184372087808) :
    Calls Try.prog 4 #[.agg #[.int .i64 W, .int .i64 H, sv], .agg #[.int .i64 W2, .int .i64 H2, sv2], .agg #[.int .i64 k0, .int .i64 k1, .int .i64 k2, .int .i64 k3], .int .i64 X, .int .i64 Y, .int .i64 qu] w fun e w' => e = .returned (.bool true) ∧ Q w w' := by
  obtain ⟨Wc, Hc, Tc, ec, hTc, CC0, CD0⟩ := both_crop W H S (by omega) k0 k1 k2 k3
  have Pc : Hid (∀ w v, USl w v S → Calls Try.prog 22 #[.agg #[.int .i64 W, .int .i64 H, v], .agg #[.int .i64 k0, .int .i64 k1, .int .i64 k2, .int .i64 k3]] w (Ans w Wc Hc Tc ec)) := CC0
  have Dc : Hid (∀ w v, USl w v S → Calls Try.prog 23 #[.agg #[.int .i64 W, .int .i64 H, v], .agg #[.int .i64 k0, .int .i64 k1, .int .i64 k2, .int .i64 k3]] w (Ans w Wc Hc Tc ec)) := CD0
  obtain ⟨Wp, Hp, Tp, ep, hTp, CE0, CF0⟩ := both_paste W H S (by omega) W2 H2 S2 (by omega) X Y
  have Pp : Hid (∀ w v v2, USl w v S → USl w v2 S2 → Calls Try.prog 24 #[.agg #[.int .i64 W, .int .i64 H, v], .agg #[.int .i64 W2, .int .i64 H2, v2], .int .i64 X, .int .i64 Y] w (Ans w Wp Hp Tp ep)) := CE0
  have Dp : Hid (∀ w v v2, USl w v S → USl w v2 S2 → Calls Try.prog 25 #[.agg #[.int .i64 W, .int .i64 H, v], .agg #[.int .i64 W2, .int .i64 H2, v2], .int .i64 X, .int .i64 Y] w (Ans w Wp Hp Tp ep)) := CF0
  have FLP : Hid (∀ B : Bool, ∃ Wf Hf Tf ef, Tf.length ≤ 65536 ∧ (∀ w v, USl w v S → Calls Try.prog 26 #[.agg #[.int .i64 W, .int .i64 H, v], .bool B] w (Ans w Wf Hf Tf ef)) ∧ (∀ w v, USl w v S → Calls Try.prog 27 #[.agg #[.int .i64 W, .int .i64 H, v], .bool B] w (Ans w Wf Hf Tf ef))) := fun B => both_flip W H S (by omega) B
  obtain ⟨Wt, Ht, Tt, et, hTt, CG0, CH0⟩ := both_trans W H S (by omega)
  have Pt : Hid (∀ w v, USl w v S → Calls Try.prog 28 #[.agg #[.int .i64 W, .int .i64 H, v]] w (Ans w Wt Ht Tt et)) := CG0
  have Dt : Hid (∀ w v, USl w v S → Calls Try.prog 29 #[.agg #[.int .i64 W, .int .i64 H, v]] w (Ans w Wt Ht Tt et)) := CH0
  have TRN : Hid (∀ k : Int, ∃ Wu Hu Tu eu, Tu.length ≤ 65536 ∧ (∀ w v, USl w v S → Calls Try.prog 30 #[.agg #[.int .i64 W, .int .i64 H, v], .int .i64 k] w (Ans w Wu Hu Tu eu)) ∧ (∀ w v, USl w v S → Calls Try.prog 31 #[.agg #[.int .i64 W, .int .i64 H, v], .int .i64 k] w (Ans w Wu Hu Tu eu))) := fun k => both_turn W H S (by omega) k
  obtain ⟨a, cap, ev⟩ := hS.form
  obtain ⟨a2, cap2, ev2⟩ := hS2.form
  subst ev ev2
  obtain ⟨n, en⟩ : ∃ n, S.length = n := ⟨_, rfl⟩
  obtain ⟨n2, en2⟩ : ∃ n, S2.length = n := ⟨_, rfl⟩
  have HN : Hid (S.length = n) := en
  have HN2 : Hid (S2.length = n2) := en2
  rw [en] at hS hn ⊢
  rw [en2] at hS2 hn2 ⊢
  obtain ⟨w1, hw1⟩ : ∃ w1, ((w.alloc (.cells #[.int .i64 W, .int .i64 H, .slice a n cap] 25)).alloc (.cells #[.int .i64 W2, .int .i64 H2, .slice a2 n2 cap2] 25)).alloc (.cells #[.int .i64 k0, .int .i64 k1, .int .i64 k2, .int .i64 k3] 56) = w1 := ⟨_, rfl⟩
  have Q1 : Hid (Q w w1) := by rw [← hw1]; exact (((Q.refl w).cells _ _).cells _ _).cells _ _
  have Bp : Hid (IBox w1 w.heap.size W H (.slice a n cap)) := by rw [← hw1]; exact ⟨by simp [go_sem], by simp [go_sem], by simp [go_sem]⟩
  have Bq : Hid (IBox w1 (w.heap.size + 1) W2 H2 (.slice a2 n2 cap2)) := by rw [← hw1]; exact ⟨by simp [go_sem], by simp [go_sem], by simp [go_sem]⟩
  have Bc : Hid (QBox w1 (w.heap.size + 1 + 1) k0 k1 k2 k3) := by rw [← hw1]; exact ⟨by simp [go_sem], by simp [go_sem], by simp [go_sem], by simp [go_sem]⟩
  have HS : Hid (USl w (.slice a n cap) S) := hS
  have HS2 : Hid (USl w (.slice a2 n2 cap2) S2) := hS2
  have K := known_any w1
  clear hS hS2 en en2 CC0 CD0 CE0 CF0 CG0 CH0
  go_enter Try.func4, Try.ntmps4
  go_wp2_with fail
  clear hw1
  refine K.mono ?_
  rintro e w2 ⟨rfl, q2⟩
  have Q2 : Hid (Q w w2) := Q1.out.trans q2
  have hk0 : w.heap.size + 1 + 1 < w2.heap.size := cell_in (Bc.out.next q2).c0
  have BK : Hid (Bk (fun _ => False) w.heap.size (w2.alloc (.cells #[.slice none 0 0, .slice none 0 0, .slice none 0 0, .slice none 0 0, .slice none 0 0, .slice none 0 0, .slice none 0 0, .slice none 0 0] 35)) w2.heap.size (.slice none 0 0) (.slice none 0 0) []) := book_new w2 w Q2.out.1.size
  obtain ⟨w3, hw3⟩ : ∃ w3, w2.alloc (.cells #[.slice none 0 0, .slice none 0 0, .slice none 0 0, .slice none 0 0, .slice none 0 0, .slice none 0 0, .slice none 0 0, .slice none 0 0] 35) = w3 := ⟨_, rfl⟩
  have hs3 : w3.heap.size = w2.heap.size + 1 := by rw [← hw3]; simp
  have q3 : Q w2 w3 := by rw [← hw3]; exact (Q.refl w2).cells _ _
  rw [hw3] at BK
  have RM : Hid (Rm w3.heap.size (w3.alloc (.cells #[.slice none 0 0, .slice none 0 0, .slice none 0 0, .slice none 0 0, .slice none 0 0, .slice none 0 0, .slice none 0 0, .slice none 0 0] 38)) w3.heap.size (.slice none 0 0) (.slice none 0 0) []) := room_new w3
  obtain ⟨w4, hw4⟩ : ∃ w4, w3.alloc (.cells #[.slice none 0 0, .slice none 0 0, .slice none 0 0, .slice none 0 0, .slice none 0 0, .slice none 0 0, .slice none 0 0, .slice none 0 0] 38) = w4 := ⟨_, rfl⟩
  have Q34 : Hid (Q w3 w4) := by rw [← hw4]; exact (Q.refl w3).cells _ _
  rw [hw4] at RM
  replace Bp : Hid (IBox w3 w.heap.size W H (.slice a n cap)) := (Bp.out.next q2).next q3
  replace Bq : Hid (IBox w3 (w.heap.size + 1) W2 H2 (.slice a2 n2 cap2)) := (Bq.out.next q2).next q3
  replace Bc : Hid (QBox w3 (w.heap.size + 1 + 1) k0 k1 k2 k3) := (Bc.out.next q2).next q3
  have Q3 : Hid (Q w w3) := Q2.out.trans q3
  obtain ⟨kb, hkb⟩ : ∃ kb, w2.heap.size = kb := ⟨_, rfl⟩
  have hs3' : w3.heap.size = kb + 1 := by rw [← hkb]; exact hs3
  rw [hkb] at BK
  have RM' : Hid (Rm w3.heap.size w4 (kb + 1) (.slice none 0 0) (.slice none 0 0) []) := by have := RM.out; rw [← hs3']; exact this
  have HK : Hid (w.heap.size + 1 + 1 < kb ∧ w3.heap.size = kb + 1 ∧ kb + 1 < w4.heap.size) := ⟨by omega, hs3', cell_in RM'.out.c0⟩
  have hkw : w.heap.size + 1 + 1 < kb := HK.out.1
  clear K q2 q3 Q1 Q2
  go_wp2_with fail
  clear hw3 hw4 hs3 hs3' hkb hk0
  have J0 : Hid (J2 w3 (kb + 1) w4.heap.size W H S W2 H2 S2 none none none none w4.drew) := ⟨Q34.out.drew, Nat.le_refl _, .slice none 0 0, .slice none 0 0, [], RM'.out.next (Q.refl w4).drew, rfl, Bx.none, Bx.none, fun q h => by cases h⟩
  refine wp_two_at (J2 w3 (kb + 1) w4.heap.size W H S W2 H2 S2) "exact.go:47" 14 6 7 29 30 31 32 33 34 15 16 10 36 25 (.pointer (some ⟨kb + 1, 0, none⟩)) (.agg #[.int .i64 W, .int .i64 H, .slice a n cap]) (.agg #[.int .i64 W2, .int .i64 H2, .slice a2 n2 cap2]) (.pointer (some ⟨w.heap.size, 0, none⟩)) (.pointer (some ⟨w.heap.size + 1, 0, none⟩)) zeroPl rfl (by kernel_rfl) (by decide) (by simp) (by decide) (by decide) (by decide) rfl rfl rfl J0.out ?_ ?_ (enters_of Try.func10 (by kernel_rfl) rfl) ?_ ?_ ?_ ?_ ?_ ?_
  · intro ρ t ps d af o1 o2 o6 o7 x hj hρ
    obtain ⟨c0, c1, c2⟩ := Bp.out.next hj.1
    simp [execOp, hρ, go_sem, c0, c1, c2]
  · intro ρ t ps d af o1 o2 o6 o7 x hj hρ
    obtain ⟨c0, c1, c2⟩ := Bq.out.next hj.1
    simp [execOp, hρ, go_sem, c0, c1, c2]
  · intro o6 o7 x hj
    exact hj.call1 (HS.out.next Q3.out) (by rw [HN.out]; exact hn)
  · intro v1 o6 o7 x hj
    exact hj.call2 (HS2.out.next Q3.out) (by rw [HN2.out]; exact hn2)
  · intro ρ t ps d af x
    simp [execOp, go_sem, zeroPl]
  · intro o1 o2 o7 x hj
    exact hj.alloc.1 rfl
  · intro o1 o2 o6 x hj
    exact hj.alloc.2 rfl
  · intro aa v1 v2 p6 p7 x hj t6 t2 t7 t5 hA af8 af9
    refine ⟨?_⟩
    obtain ⟨g, hh, cp, g2, hh2, cp2, rs, rv, V6, V7, e1, e2, e6, e7, hV, l6, l7, b6, b7, f6, f7, hend⟩ := hj.done Q34.out.1.size
    rw [e1, e2, e6, e7] at hA
    rw [e6] at t6
    rw [e7] at t7
    rw [e1] at t2
    rw [e2] at t5
    unfold lentV at t2 t5 hA
    rw [HN.out] at t2 hA
    rw [HN2.out] at t5 hA
    have oth : ∀ (y : World) (b j j' : Nat) (v : Value), b ≠ V6 → (y.setCell ⟨V6, j, none⟩ v).cell? ⟨b, j', none⟩ = y.cell? ⟨b, j', none⟩ := fun y b j j' v hb => World.cell?_setCell_other _ _ _ _ (by simp [hb])
    refine store_box aa x V6 15 31 W H _ _ _ t6 t2 b6.c0 b6.c1 b6.c2 f6 _ _ _ _ ?_
    refine store_box aa _ V7 16 34 W2 H2 _ _ _ t7 t5 (by rw [oth _ _ _ _ _ hV.symm, oth _ _ _ _ _ hV.symm, oth _ _ _ _ _ hV.symm]; exact b7.c0) (by rw [oth _ _ _ _ _ hV.symm, oth _ _ _ _ _ hV.symm, oth _ _ _ _ _ hV.symm]; exact b7.c1) (by rw [oth _ _ _ _ _ hV.symm, oth _ _ _ _ _ hV.symm, oth _ _ _ _ _ hV.symm]; exact b7.c2) (fun j => by rw [World.frozen?_setCell, World.frozen?_setCell, World.frozen?_setCell]; exact f7 j) _ _ _ _ ?_
    have IB6 : Hid (IBox ((((((x.setCell ⟨V6, 0, none⟩ (.int .i64 W)).setCell ⟨V6, 1, none⟩ (.int .i64 H)).setCell ⟨V6, 2, none⟩ (.slice (some ⟨g, 0, none⟩) n (n + 5))).setCell ⟨V7, 0, none⟩ (.int .i64 W2)).setCell ⟨V7, 1, none⟩ (.int .i64 H2)).setCell ⟨V7, 2, none⟩ (.slice (some ⟨g2, 0, none⟩) n2 (n2 + 5))) V6 W H (.slice (some ⟨g, 0, none⟩) n (n + 5))) := by
      obtain ⟨q0, q1, q2⟩ := b6
      exact ⟨by simp [go_sem, q0, q1, q2, hV], by simp [go_sem, q0, q1, q2, hV], by simp [go_sem, q0, q1, q2, hV]⟩
    have IB7 : Hid (IBox ((((((x.setCell ⟨V6, 0, none⟩ (.int .i64 W)).setCell ⟨V6, 1, none⟩ (.int .i64 H)).setCell ⟨V6, 2, none⟩ (.slice (some ⟨g, 0, none⟩) n (n + 5))).setCell ⟨V7, 0, none⟩ (.int .i64 W2)).setCell ⟨V7, 1, none⟩ (.int .i64 H2)).setCell ⟨V7, 2, none⟩ (.slice (some ⟨g2, 0, none⟩) n2 (n2 + 5))) V7 W2 H2 (.slice (some ⟨g2, 0, none⟩) n2 (n2 + 5))) := by
      obtain ⟨q0, q1, q2⟩ := b7
      exact ⟨by simp [go_sem, q0, q1, q2, hV.symm], by simp [go_sem, q0, q1, q2, hV.symm], by simp [go_sem, q0, q1, q2, hV.symm]⟩
    obtain ⟨QX, RX⟩ := hend _ ⟨_, _, _, _, _, _, rfl⟩
    generalize (((((x.setCell ⟨V6, 0, none⟩ (.int .i64 W)).setCell ⟨V6, 1, none⟩ (.int .i64 H)).setCell ⟨V6, 2, none⟩ (.slice (some ⟨g, 0, none⟩) n (n + 5))).setCell ⟨V7, 0, none⟩ (.int .i64 W2)).setCell ⟨V7, 1, none⟩ (.int .i64 H2)).setCell ⟨V7, 2, none⟩ (.slice (some ⟨g2, 0, none⟩) n2 (n2 + 5)) = x2 at *
    have HQX : Hid (Q w3 x2) := QX
    have HRX : Hid (Rm w3.heap.size x2 (kb + 1) rs rv [⟨g, hh, cp, lentL S⟩, ⟨g2, hh2, cp2, lentL S2⟩]) := RX
    clear QX RX hend b6 b7 f6 f7 oth t2 t5 t6 t7 hj e1 e2 e6 e7 J0
    subst hA
    unfold twoEnd
    simp only [Act.put]
    have UA : Hid (USl x2 (.slice (some ⟨g, 0, none⟩) n (n + 5)) S) := by
      have := ((HRX.out.it _ List.mem_cons_self).2.1).us
      have h2 := (lentL_us this).usl (cap := n + 5) (by rw [HN.out]; omega)
      rw [HN.out] at h2
      exact h2
    have UB : Hid (USl x2 (.slice (some ⟨g2, 0, none⟩) n2 (n2 + 5)) S2) := by
      have := ((HRX.out.it _ (List.mem_cons_of_mem _ List.mem_cons_self)).2.1).us
      have h2 := (lentL_us this).usl (cap := n2 + 5) (by rw [HN2.out]; omega)
      rw [HN2.out] at h2
      exact h2
    have QT : Hid (Q w x2) := Q3.out.trans HQX.out
    replace Bp : Hid (IBox x2 w.heap.size W H (.slice a n cap)) := Bp.out.next HQX.out
    replace Bq : Hid (IBox x2 (w.heap.size + 1) W2 H2 (.slice a2 n2 cap2)) := Bq.out.next HQX.out
    replace Bc : Hid (QBox x2 (w.heap.size + 1 + 1) k0 k1 k2 k3) := Bc.out.next HQX.out
    have BKB : Hid (Bk (fun b => b < x2.heap.size ∧ b ≠ kb) w.heap.size x2 kb (.slice none 0 0) (.slice none 0 0) []) := (BK.out.next HQX.out).all
    have hx2 : kb < x2.heap.size := cell_in BKB.out.c0
    have HV : Hid (V6 < x2.heap.size ∧ V6 ≠ kb ∧ V7 < x2.heap.size ∧ V7 ≠ kb ∧ g < x2.heap.size ∧ g ≠ kb ∧ g2 < x2.heap.size ∧ g2 ≠ kb) := by
      have h1 := HK.out.2
      have h2 := (HRX.out.it _ List.mem_cons_self).2.1
      have h3 := (HRX.out.it _ (List.mem_cons_of_mem _ List.mem_cons_self)).2.1
      have h4 : w3.heap.size ≤ g := h2.low
      have h5 : w3.heap.size ≤ g2 := h3.low
      exact ⟨cell_in IB6.out.c0, by omega, cell_in IB7.out.c0, by omega, h2.lt, by omega, h3.lt, by omega⟩
    clear l6 l7 BK
    go_wp2_with fail
    go_loopg [17] 2 (fun m s17 wx => ∃ (i : Nat) (bs bm : Value) (L : List Kept), s17 = .int .i64 i ∧ i + m = 2 ∧ L.length = 5 * i ∧ Hid (Q w wx) ∧ Hid (Fr x2 wx (fun b => b < x2.heap.size ∧ b ≠ kb)) ∧ Hid (Bk (fun b => b < x2.heap.size ∧ b ≠ kb) w.heap.size wx kb bs bm L))
    case atStart => exact ⟨0, _, _, [], rfl, rfl, rfl, QT, Fr.refl _ _, BKB⟩
    case round =>
      obtain ⟨i, bs0, bm0, L0, rfl, him, hLi, HQ0, HF0, HB0⟩ := hrel
      clear BKB
      by_cases hi : i < 2
      · have hi0 : (0 : Int) ≤ (i : Int) := by omega
        have hi1 : (i : Int) < 2 := by omega
        have HL0 : Hid (L0.length = 5 * i) := hLi
        obtain ⟨mm, hmm⟩ : ∃ mm : Nat, 100 * (i : Int) = (mm : Int) := ⟨100 * i, by omega⟩
        have wmm : IntKind.i64.wrap (mm : Int) = (mm : Int) := by rw [IntKind.wrap_i64]; omega
        have hmb : mm ≤ 100 := by omega
        obtain ⟨B, hB⟩ : ∃ B, ((i : Int) == 0) = B := ⟨_, rfl⟩
        obtain ⟨qi, hqi⟩ : ∃ qi, IntKind.i64.wrap (qu + (i : Int)) = qi := ⟨_, rfl⟩
        obtain ⟨Wf, Hf, Tf, ef, hTf, Pf0, Df0⟩ := FLP.out B
        have Pf : Hid (∀ w v, USl w v S → Calls Try.prog 26 #[.agg #[.int .i64 W, .int .i64 H, v], .bool B] w (Ans w Wf Hf Tf ef)) := Pf0
        have Df : Hid (∀ w v, USl w v S → Calls Try.prog 27 #[.agg #[.int .i64 W, .int .i64 H, v], .bool B] w (Ans w Wf Hf Tf ef)) := Df0
        obtain ⟨Wu, Hu, Tu, eu, hTu, Pu0, Du0⟩ := TRN.out qi
        have Pu : Hid (∀ w v, USl w v S → Calls Try.prog 30 #[.agg #[.int .i64 W, .int .i64 H, v], .int .i64 qi] w (Ans w Wu Hu Tu eu)) := Pu0
        have Du : Hid (∀ w v, USl w v S → Calls Try.prog 31 #[.agg #[.int .i64 W, .int .i64 H, v], .int .i64 qi] w (Ans w Wu Hu Tu eu)) := Du0
        have AX : Hid (∀ (v : World), Fr x2 v (fun b => b < x2.heap.size ∧ b ≠ kb) → IBox v V6 W H (.slice (some ⟨g, 0, none⟩) n (n + 5)) ∧ IBox v V7 W2 H2 (.slice (some ⟨g2, 0, none⟩) n2 (n2 + 5)) ∧ IBox v w.heap.size W H (.slice a n cap) ∧ IBox v (w.heap.size + 1) W2 H2 (.slice a2 n2 cap2) ∧ QBox v (w.heap.size + 1 + 1) k0 k1 k2 k3 ∧ USl v (.slice (some ⟨g, 0, none⟩) n (n + 5)) S ∧ USl v (.slice (some ⟨g2, 0, none⟩) n2 (n2 + 5)) S2) := fun v f => by
          have hv := HV.out
          refine ⟨IB6.out.fr f ⟨hv.1, hv.2.1⟩, IB7.out.fr f ⟨hv.2.2.1, hv.2.2.2.1⟩, Bp.out.fr f ⟨by omega, by omega⟩, Bq.out.fr f ⟨by omega, by omega⟩, Bc.out.fr f ⟨by omega, by omega⟩, usl_fr UA.out f (fun b hb => ?_), usl_fr UB.out f (fun b hb => ?_)⟩
          · injection hb with hb
            have hb : g = b := hb
            exact ⟨by omega, by omega⟩
          · injection hb with hb
            have hb : g2 = b := hb
            exact ⟨by omega, by omega⟩
        clear hLi Pf0 Df0 Pu0 Du0
        generalize wr = u0 at *
        have AXu := AX.out u0 HF0.out
        obtain ⟨ya0, ya1, ya2⟩ := id (AXu.1)
        obtain ⟨yc0, yc1, yc2, yc3⟩ := id (AXu.2.2.2.2.1)
        go_wp2_with fail
        refine (Pc.out u0 _ AXu.2.2.2.2.2.1).mono ?_
        rintro e v1 ⟨ea, en, ec', rfl, q1, us1, new1, n1⟩
        clear ya0 ya1 ya2 yc0 yc1 yc2 yc3 AXu
        obtain ⟨v2, hv2⟩ : ∃ v2, v1.alloc (.cells #[.int .i64 Wc, .int .i64 Hc, .slice ea en ec'] 25) = v2 := ⟨_, rfl⟩
        have qq2 : Q v1 v2 := by rw [← hv2]; exact (Q.refl _).cells _ _
        have bL : Hid (IBox v2 v1.heap.size Wc Hc (.slice ea en ec')) := by rw [← hv2]; exact ⟨by simp [go_sem], by simp [go_sem], by simp [go_sem]⟩
        have fL : Hid (∀ jj, v2.frozen? ⟨v1.heap.size, jj, none⟩ = false) := fun jj => by rw [← hv2]; simp [go_sem]
        obtain ⟨VL, hVL⟩ : ∃ VL, v1.heap.size = VL := ⟨_, rfl⟩
        rw [hVL] at bL fL
        have HVL : Hid (x2.heap.size ≤ VL ∧ u0.heap.size ≤ VL) := by have h1 := HF0.out.size; have h2 := q1.out.1.size; exact ⟨by omega, by omega⟩
        have F2 : Hid (Fr x2 v2 (fun b => b < x2.heap.size ∧ b ≠ kb)) := (HF0.out.trans (q1.out.fr _)).trans (qq2.fr _)
        have QV2 : Hid (Q w v2) := HQ0.out.trans (q1.out.trans qq2)
        have US2 : Hid (USl v2 (.slice ea en ec') Tc) := us1.out.next qq2
        have NW2 : Hid (NewN u0.heap.size v2 (.slice ea en ec') en) := new1.out.toN.next qq2
        have NB : Hid (∀ b, (Value.slice ea en ec').ownBlock = some b → b < VL) := fun b hb => by have := (new1.out.blk hb).2; omega
        have KB2 : Hid (Bk (fun b => b < x2.heap.size ∧ b ≠ kb) w.heap.size v2 kb bs0 bm0 L0) := HB0.out.next (q1.out.trans qq2)
        have UL : Hid (u0.heap.size ≤ v2.heap.size) := by have h2 := q1.out.1.size; have h3 := qq2.1.size; show _ ≤ _; omega
        clear q1 us1 new1 qq2
        have AXv := AX.out v2 F2.out
        obtain ⟨yp0, yp1, yp2⟩ := id (AXv.2.2.1)
        obtain ⟨yc0, yc1, yc2, yc3⟩ := id (AXv.2.2.2.2.1)
        go_wp2_with fail
        clear hv2 hVL
        refine (Dc.out v2 _ (HS.out.next QV2.out)).mono ?_
        rintro e v3 ⟨ra, rn, rc, rfl, q3, us3, new3, n3⟩
        clear yp0 yp1 yp2 yc0 yc1 yc2 yc3 AXv
        obtain ⟨v4, hv4⟩ : ∃ v4, v3.alloc (.cells #[.int .i64 Wc, .int .i64 Hc, .slice ra rn rc] 25) = v4 := ⟨_, rfl⟩
        have qq4 : Q v3 v4 := by rw [← hv4]; exact (Q.refl _).cells _ _
        have bR : Hid (IBox v4 v3.heap.size Wc Hc (.slice ra rn rc)) := by rw [← hv4]; exact ⟨by simp [go_sem], by simp [go_sem], by simp [go_sem]⟩
        have fR : Hid (∀ jj, v4.frozen? ⟨v3.heap.size, jj, none⟩ = false) := fun jj => by rw [← hv4]; simp [go_sem]
        obtain ⟨VR, hVR⟩ : ∃ VR, v3.heap.size = VR := ⟨_, rfl⟩
        rw [hVR] at bR fR
        have HVR : Hid (VL < VR ∧ x2.heap.size ≤ VR) := by have h1 : VL < v2.heap.size := cell_in bL.out.c0; have h2 := q3.out.1.size; have h3 := HVL.out.1; exact ⟨by omega, by omega⟩
        have q24 : Q v2 v4 := q3.out.trans qq4
        have F4 : Hid (Fr x2 v4 (fun b => b < x2.heap.size ∧ b ≠ kb)) := F2.out.trans (q24.fr _)
        have QV4 : Hid (Q w v4) := QV2.out.trans q24
        have bL4 : Hid (IBox v4 VL Wc Hc (.slice ea en ec')) := bL.out.next q24
        have fL4 : Hid (∀ jj, v4.frozen? ⟨VL, jj, none⟩ = false) := fun jj => (q24.2 _).trans (fL.out jj)
        have US4 : Hid (USl v4 (.slice ea en ec') Tc) := US2.out.next q24
        have UR4 : Hid (USl v4 (.slice ra rn rc) Tc) := us3.out.next qq4
        have NW4 : Hid (NewN u0.heap.size v4 (.slice ea en ec') en) := NW2.out.next q24
        have KB4 : Hid (Bk (fun b => b < x2.heap.size ∧ b ≠ kb) w.heap.size v4 kb bs0 bm0 L0) := KB2.out.next q24
        clear q3 us3 new3 qq4 q24
        have SA : Hid (Calls Try.prog 15 #[.agg #[.int .i64 Wc, .int .i64 Hc, .slice ea en ec'], .int .i64 ec, .agg #[.int .i64 Wc, .int .i64 Hc, .slice ra rn rc], .int .i64 ec] v4 fun e w' => e = .returned (.bool true) ∧ Q v4 w') := same_yes Wc Hc _ _ ec Tc v4 US4.out UR4.out (by omega)
        obtain ⟨z0, z1, z2⟩ := id bL4.out
        obtain ⟨s0, s1, s2⟩ := id bR.out
        go_wp2_with fail
        clear hv4 hVR
        refine SA.out.mono ?_
        rintro e v5 ⟨rfl, q5⟩
        replace z0 := q5.cell z0
        replace z1 := q5.cell z1
        replace z2 := q5.cell z2
        obtain ⟨m1, hm1⟩ : ∃ m1 : Nat, mm + 0 = m1 := ⟨_, rfl⟩
        have hm1' : (mm : Int) + 0 = (m1 : Int) := by omega
        have wm1 : IntKind.i64.wrap (m1 : Int) = (m1 : Int) := by rw [IntKind.wrap_i64]; omega
        have BP := book_plane_y w v5 (QV4.out.trans q5) kb u0.heap.size (KB4.out.next q5) (fun b hb => (HB0.out.lt hb).2) (fun b hb => (HB0.out.far b hb).1) (by rw [HL0.out]; omega) Wc Hc (.slice ea en ec') en mm (NW4.out.next q5) n1 (by omega)
        clear s0 s1 s2 SA
        go_wp2_with fail
        refine BP.mono ?_
        rintro e u1 ⟨rfl, bs1, bm1, x, HQ1, b6, f6⟩
        have HF1 : Hid (Fr x2 u1 (fun b => b < x2.heap.size ∧ b ≠ kb)) := (F4.out.trans (q5.fr _)).trans (f6.out.mono (fun y hy _ => Or.inl hy))
        have inL : Left (fun b => b < x2.heap.size ∧ b ≠ kb) u0.heap.size v5 (.slice ea en ec') VL := by
          have h1 := HVL.out
          have h2 : VL < v4.heap.size := cell_in bL4.out.c0
          have h3 := q5.1.size
          exact Or.inr ⟨h1.2, by omega, fun e => by have := NB.out VL e; omega⟩
        have inR : Left (fun b => b < x2.heap.size ∧ b ≠ kb) u0.heap.size v5 (.slice ea en ec') VR := by
          have h1 := HVL.out
          have h0 := HVR.out
          have h2 : VR < v4.heap.size := cell_in bR.out.c0
          have h3 := q5.1.size
          exact Or.inr ⟨by omega, by omega, fun e => by have := NB.out VR e; omega⟩
        have HB1 : Hid (Bk (fun b => (b < x2.heap.size ∧ b ≠ kb) ∨ b = VL ∨ b = VR) w.heap.size u1 kb bs1 bm1 (L0 ++ [x])) := b6.out.more (fun b hb => Or.inl (by
          rcases hb with hb | hb | hb
          · exact Or.inl hb
          · rw [hb]; exact inL
          · rw [hb]; exact inR))
        have BXL1 : Hid (∃ Wx Hx vx, IBox u1 VL Wx Hx vx) := ⟨_, _, _, (bL4.out.next q5).fr f6.out inL⟩
        have BXR1 : Hid (∃ Wx Hx vx, IBox u1 VR Wx Hx vx) := ⟨_, _, _, (bR.out.next q5).fr f6.out inR⟩
        have FZL1 : Hid (∀ jj, u1.frozen? ⟨VL, jj, none⟩ = false) := fun jj => (f6.out.frz _).trans ((q5.2 _).trans (fL4.out jj))
        have FZR1 : Hid (∀ jj, u1.frozen? ⟨VR, jj, none⟩ = false) := fun jj => (f6.out.frz _).trans ((q5.2 _).trans (fR.out jj))
        have HL1 : Hid ((L0 ++ [x]).length = 5 * i + 1) := by show _ = _; rw [List.length_append, HL0.out]; rfl
        generalize L0 ++ [x] = L1 at HB1 HL1
        clear BP b6 f6 q5 z0 z1 z2 inL inR bL fL bR fR bL4 fL4 F2 F4 QV2 QV4 US2 US4 UR4 NW2 NW4 KB2 KB4 UL NB HB0 HF0 HQ0 HL0
        have AXu := AX.out u1 HF1.out
        obtain ⟨ya0, ya1, ya2⟩ := id (AXu.1)
        obtain ⟨yb0, yb1, yb2⟩ := id (AXu.2.1)
        go_wp2_with fail
        refine (Pp.out u1 _ _ AXu.2.2.2.2.2.1 AXu.2.2.2.2.2.2).mono ?_
        rintro e v1 ⟨ea, en, ec', rfl, q1, us1, new1, n1⟩
        clear ya0 ya1 ya2 yb0 yb1 yb2 AXu
        obtain ⟨xl, yl, vl, BLx⟩ := BXL1.out
        have bL0 := BLx.next q1.out
        obtain ⟨l0, l1, l2⟩ := id bL0
        have lf : ∀ jj, v1.frozen? ⟨VL, jj, none⟩ = false := fun jj => (q1.out.2 _).trans (FZL1.out jj)
        obtain ⟨v2, hv2⟩ : ∃ v2, ((v1.setCell ⟨VL, 0, none⟩ (.int .i64 Wp)).setCell ⟨VL, 1, none⟩ (.int .i64 Hp)).setCell ⟨VL, 2, none⟩ (.slice ea en ec') = v2 := ⟨_, rfl⟩
        have bL : Hid (IBox v2 VL Wp Hp (.slice ea en ec')) := by rw [← hv2]; exact box_put bL0
        have fL : Hid (∀ jj, v2.frozen? ⟨VL, jj, none⟩ = false) := fun jj => by rw [← hv2, World.frozen?_setCell, World.frozen?_setCell, World.frozen?_setCell]; exact lf jj
        have gvl := HVL.out
        have gvr := HVR.out
        have F2 : Hid (Fr x2 v2 (fun b => b < x2.heap.size ∧ b ≠ kb)) := by rw [← hv2]; exact fr_put (HF1.out.trans (q1.out.fr _)) (fun h => by omega)
        have QV2 : Hid (Q w v2) := F2.out.q QT.out (fun b hb => ⟨by omega, by omega⟩)
        have f12 : Fr v1 v2 (fun b => b ≠ VL) := by rw [← hv2]; exact fr_put (Fr.refl v1 _) (fun h => h rfl)
        have ulv : VL < u1.heap.size := cell_in BLx.c0
        have US2 : Hid (USl v2 (.slice ea en ec') Tp) := usl_fr us1.out f12 (fun b hb => by have := (new1.out.blk hb).1; omega)
        have NW2 : Hid (NewN u1.heap.size v2 (.slice ea en ec') en) := new1.out.toN.fr f12 (fun b hb => by have := (new1.out.blk hb).1; omega)
        have KB2 : Hid (Bk (fun b => (b < x2.heap.size ∧ b ≠ kb) ∨ b = VL ∨ b = VR) w.heap.size v2 kb bs1 bm1 L1) := (HB1.out.next q1.out).keep f12 (fun b hb e => (HB1.out.far VL (Or.inr (Or.inl rfl))).2 (by rw [← e]; exact hb))
        have bR1 : Hid (∃ Wx Hx vx, IBox v2 VR Wx Hx vx) := by
          obtain ⟨xr, yr, vr, BRx⟩ := BXR1.out
          exact ⟨xr, yr, vr, (BRx.next q1.out).fr f12 (by omega)⟩
        have fR1 : Hid (∀ jj, v2.frozen? ⟨VR, jj, none⟩ = false) := fun jj => (f12.frz _).trans ((q1.out.2 _).trans (FZR1.out jj))
        have UL : Hid (u1.heap.size ≤ v2.heap.size) := by have h2 := q1.out.1.size; have h3 := f12.size; show _ ≤ _; omega
        clear q1 us1 new1 f12 BLx bL0 gvl gvr ulv
        have AXv := AX.out v2 F2.out
        obtain ⟨yp0, yp1, yp2⟩ := id (AXv.2.2.1)
        obtain ⟨yq0, yq1, yq2⟩ := id (AXv.2.2.2.1)
        go_wp2_with fail
        clear hv2 l0 l1 l2 lf
        refine (Dp.out v2 _ _ (HS.out.next QV2.out) (HS2.out.next QV2.out)).mono ?_
        rintro e v3 ⟨ra, rn, rc, rfl, q3, us3, new3, n3⟩
        clear yp0 yp1 yp2 yq0 yq1 yq2 AXv
        obtain ⟨xr, yr, vr, BRx⟩ := bR1.out
        have bR0 := BRx.next q3.out
        obtain ⟨l0, l1, l2⟩ := id bR0
        have lf : ∀ jj, v3.frozen? ⟨VR, jj, none⟩ = false := fun jj => (q3.out.2 _).trans (fR1.out jj)
        obtain ⟨v4, hv4⟩ : ∃ v4, ((v3.setCell ⟨VR, 0, none⟩ (.int .i64 Wp)).setCell ⟨VR, 1, none⟩ (.int .i64 Hp)).setCell ⟨VR, 2, none⟩ (.slice ra rn rc) = v4 := ⟨_, rfl⟩
        have bR : Hid (IBox v4 VR Wp Hp (.slice ra rn rc)) := by rw [← hv4]; exact box_put bR0
        have fR : Hid (∀ jj, v4.frozen? ⟨VR, jj, none⟩ = false) := fun jj => by rw [← hv4, World.frozen?_setCell, World.frozen?_setCell, World.frozen?_setCell]; exact lf jj
        have gvl := HVL.out
        have gvr := HVR.out
        have F4 : Hid (Fr x2 v4 (fun b => b < x2.heap.size ∧ b ≠ kb)) := by rw [← hv4]; exact fr_put (F2.out.trans (q3.out.fr _)) (fun h => by omega)
        have QV4 : Hid (Q w v4) := F4.out.q QT.out (fun b hb => ⟨by omega, by omega⟩)
        have f34 : Fr v3 v4 (fun b => b ≠ VR) := by rw [← hv4]; exact fr_put (Fr.refl v3 _) (fun h => h rfl)
        have f24 : Fr v2 v4 (fun b => b ≠ VR) := (q3.out.fr _).trans f34
        have ulv : VR < v2.heap.size := cell_in BRx.c0
        have hvu : VR < u1.heap.size := (HB1.out.far VR (Or.inr (Or.inr rfl))).1
        have bL4 : Hid (IBox v4 VL Wp Hp (.slice ea en ec')) := bL.out.fr f24 (by omega)
        have fL4 : Hid (∀ jj, v4.frozen? ⟨VL, jj, none⟩ = false) := fun jj => (f24.frz _).trans (fL.out jj)
        have US4 : Hid (USl v4 (.slice ea en ec') Tp) := usl_fr US2.out f24 (fun b hb => by have := (NW2.out.blk hb).1; omega)
        have UR4 : Hid (USl v4 (.slice ra rn rc) Tp) := usl_fr us3.out f34 (fun b hb => by have := (new3.out.blk hb).1; omega)
        have NW4 : Hid (NewN u1.heap.size v4 (.slice ea en ec') en) := NW2.out.fr f24 (fun b hb => by have := (NW2.out.blk hb).1; omega)
        have KB4 : Hid (Bk (fun b => (b < x2.heap.size ∧ b ≠ kb) ∨ b = VL ∨ b = VR) w.heap.size v4 kb bs1 bm1 L1) := KB2.out.keep f24 (fun b hb e => (KB2.out.far VR (Or.inr (Or.inr rfl))).2 (by rw [← e]; exact hb))
        clear q3 us3 new3 f34 f24 BRx bR0 gvl gvr ulv hvu
        have SA : Hid (Calls Try.prog 15 #[.agg #[.int .i64 Wp, .int .i64 Hp, .slice ea en ec'], .int .i64 ep, .agg #[.int .i64 Wp, .int .i64 Hp, .slice ra rn rc], .int .i64 ep] v4 fun e w' => e = .returned (.bool true) ∧ Q v4 w') := same_yes Wp Hp _ _ ep Tp v4 US4.out UR4.out (by omega)
        obtain ⟨z0, z1, z2⟩ := id bL4.out
        obtain ⟨s0, s1, s2⟩ := id bR.out
        go_wp2_with fail
        clear hv4 l0 l1 l2 lf
        refine SA.out.mono ?_
        rintro e v5 ⟨rfl, q5⟩
        replace z0 := q5.cell z0
        replace z1 := q5.cell z1
        replace z2 := q5.cell z2
        obtain ⟨m2, hm2⟩ : ∃ m2 : Nat, mm + 1 = m2 := ⟨_, rfl⟩
        have hm2' : (mm : Int) + 1 = (m2 : Int) := by omega
        have wm2 : IntKind.i64.wrap (m2 : Int) = (m2 : Int) := by rw [IntKind.wrap_i64]; omega
        have BP := book_plane_y w v5 (QV4.out.trans q5) kb u1.heap.size (KB4.out.next q5) (fun b hb => (HB1.out.lt hb).2) (fun b hb => (HB1.out.far b hb).1) (by rw [HL1.out]; omega) Wp Hp (.slice ea en ec') en m2 (NW4.out.next q5) n1 (by omega)
        clear s0 s1 s2 SA
        go_wp2_with fail
        refine BP.mono ?_
        rintro e u2 ⟨rfl, bs2, bm2, x, HQ2, b6, f6⟩
        have HF2 : Hid (Fr x2 u2 (fun b => b < x2.heap.size ∧ b ≠ kb)) := (F4.out.trans (q5.fr _)).trans (f6.out.mono (fun y hy _ => Or.inl (Or.inl hy)))
        have inL : Left (fun b => (b < x2.heap.size ∧ b ≠ kb) ∨ b = VL ∨ b = VR) u1.heap.size v5 (.slice ea en ec') VL := Or.inl (Or.inr (Or.inl rfl))
        have inR : Left (fun b => (b < x2.heap.size ∧ b ≠ kb) ∨ b = VL ∨ b = VR) u1.heap.size v5 (.slice ea en ec') VR := Or.inl (Or.inr (Or.inr rfl))
        have HB2 : Hid (Bk (fun b => (b < x2.heap.size ∧ b ≠ kb) ∨ b = VL ∨ b = VR) w.heap.size u2 kb bs2 bm2 (L1 ++ [x])) := b6.out.more (fun b hb => Or.inl (by
          rcases hb with hb | hb | hb
          · exact Or.inl (Or.inl hb)
          · rw [hb]; exact inL
          · rw [hb]; exact inR))
        have BXL2 : Hid (∃ Wx Hx vx, IBox u2 VL Wx Hx vx) := ⟨_, _, _, (bL4.out.next q5).fr f6.out inL⟩
        have BXR2 : Hid (∃ Wx Hx vx, IBox u2 VR Wx Hx vx) := ⟨_, _, _, (bR.out.next q5).fr f6.out inR⟩
        have FZL2 : Hid (∀ jj, u2.frozen? ⟨VL, jj, none⟩ = false) := fun jj => (f6.out.frz _).trans ((q5.2 _).trans (fL4.out jj))
        have FZR2 : Hid (∀ jj, u2.frozen? ⟨VR, jj, none⟩ = false) := fun jj => (f6.out.frz _).trans ((q5.2 _).trans (fR.out jj))
        have HL2 : Hid ((L1 ++ [x]).length = 5 * i + 2) := by show _ = _; rw [List.length_append, HL1.out]; rfl
        generalize L1 ++ [x] = L2 at HB2 HL2
        clear BP b6 f6 q5 z0 z1 z2 inL inR bL fL bR fR bL4 fL4 F2 F4 QV2 QV4 US2 US4 UR4 NW2 NW4 KB2 KB4 UL bR1 fR1 HB1 HF1 HQ1 HL1 BXL1 BXR1 FZL1 FZR1
        have AXu := AX.out u2 HF2.out
        obtain ⟨ya0, ya1, ya2⟩ := id (AXu.1)
        go_wp2_with fail
        refine (Pf.out u2 _ AXu.2.2.2.2.2.1).mono ?_
        rintro e v1 ⟨ea, en, ec', rfl, q1, us1, new1, n1⟩
        clear ya0 ya1 ya2 AXu
        obtain ⟨xl, yl, vl, BLx⟩ := BXL2.out
        have bL0 := BLx.next q1.out
        obtain ⟨l0, l1, l2⟩ := id bL0
        have lf : ∀ jj, v1.frozen? ⟨VL, jj, none⟩ = false := fun jj => (q1.out.2 _).trans (FZL2.out jj)
        obtain ⟨v2, hv2⟩ : ∃ v2, ((v1.setCell ⟨VL, 0, none⟩ (.int .i64 Wf)).setCell ⟨VL, 1, none⟩ (.int .i64 Hf)).setCell ⟨VL, 2, none⟩ (.slice ea en ec') = v2 := ⟨_, rfl⟩
        have bL : Hid (IBox v2 VL Wf Hf (.slice ea en ec')) := by rw [← hv2]; exact box_put bL0
        have fL : Hid (∀ jj, v2.frozen? ⟨VL, jj, none⟩ = false) := fun jj => by rw [← hv2, World.frozen?_setCell, World.frozen?_setCell, World.frozen?_setCell]; exact lf jj
        have gvl := HVL.out
        have gvr := HVR.out
        have F2 : Hid (Fr x2 v2 (fun b => b < x2.heap.size ∧ b ≠ kb)) := by rw [← hv2]; exact fr_put (HF2.out.trans (q1.out.fr _)) (fun h => by omega)
        have QV2 : Hid (Q w v2) := F2.out.q QT.out (fun b hb => ⟨by omega, by omega⟩)
        have f12 : Fr v1 v2 (fun b => b ≠ VL) := by rw [← hv2]; exact fr_put (Fr.refl v1 _) (fun h => h rfl)
        have ulv : VL < u2.heap.size := cell_in BLx.c0
        have US2 : Hid (USl v2 (.slice ea en ec') Tf) := usl_fr us1.out f12 (fun b hb => by have := (new1.out.blk hb).1; omega)
        have NW2 : Hid (NewN u2.heap.size v2 (.slice ea en ec') en) := new1.out.toN.fr f12 (fun b hb => by have := (new1.out.blk hb).1; omega)
        have KB2 : Hid (Bk (fun b => (b < x2.heap.size ∧ b ≠ kb) ∨ b = VL ∨ b = VR) w.heap.size v2 kb bs2 bm2 L2) := (HB2.out.next q1.out).keep f12 (fun b hb e => (HB2.out.far VL (Or.inr (Or.inl rfl))).2 (by rw [← e]; exact hb))
        have bR1 : Hid (∃ Wx Hx vx, IBox v2 VR Wx Hx vx) := by
          obtain ⟨xr, yr, vr, BRx⟩ := BXR2.out
          exact ⟨xr, yr, vr, (BRx.next q1.out).fr f12 (by omega)⟩
        have fR1 : Hid (∀ jj, v2.frozen? ⟨VR, jj, none⟩ = false) := fun jj => (f12.frz _).trans ((q1.out.2 _).trans (FZR2.out jj))
        have UL : Hid (u2.heap.size ≤ v2.heap.size) := by have h2 := q1.out.1.size; have h3 := f12.size; show _ ≤ _; omega
        clear q1 us1 new1 f12 BLx bL0 gvl gvr ulv
        have AXv := AX.out v2 F2.out
        obtain ⟨yp0, yp1, yp2⟩ := id (AXv.2.2.1)
        go_wp2_with fail
        clear hv2 l0 l1 l2 lf
        refine (Df.out v2 _ (HS.out.next QV2.out)).mono ?_
        rintro e v3 ⟨ra, rn, rc, rfl, q3, us3, new3, n3⟩
        clear yp0 yp1 yp2 AXv
        obtain ⟨xr, yr, vr, BRx⟩ := bR1.out
        have bR0 := BRx.next q3.out
        obtain ⟨l0, l1, l2⟩ := id bR0
        have lf : ∀ jj, v3.frozen? ⟨VR, jj, none⟩ = false := fun jj => (q3.out.2 _).trans (fR1.out jj)
        obtain ⟨v4, hv4⟩ : ∃ v4, ((v3.setCell ⟨VR, 0, none⟩ (.int .i64 Wf)).setCell ⟨VR, 1, none⟩ (.int .i64 Hf)).setCell ⟨VR, 2, none⟩ (.slice ra rn rc) = v4 := ⟨_, rfl⟩
        have bR : Hid (IBox v4 VR Wf Hf (.slice ra rn rc)) := by rw [← hv4]; exact box_put bR0
        have fR : Hid (∀ jj, v4.frozen? ⟨VR, jj, none⟩ = false) := fun jj => by rw [← hv4, World.frozen?_setCell, World.frozen?_setCell, World.frozen?_setCell]; exact lf jj
        have gvl := HVL.out
        have gvr := HVR.out
        have F4 : Hid (Fr x2 v4 (fun b => b < x2.heap.size ∧ b ≠ kb)) := by rw [← hv4]; exact fr_put (F2.out.trans (q3.out.fr _)) (fun h => by omega)
        have QV4 : Hid (Q w v4) := F4.out.q QT.out (fun b hb => ⟨by omega, by omega⟩)
        have f34 : Fr v3 v4 (fun b => b ≠ VR) := by rw [← hv4]; exact fr_put (Fr.refl v3 _) (fun h => h rfl)
        have f24 : Fr v2 v4 (fun b => b ≠ VR) := (q3.out.fr _).trans f34
        have ulv : VR < v2.heap.size := cell_in BRx.c0
        have hvu : VR < u2.heap.size := (HB2.out.far VR (Or.inr (Or.inr rfl))).1
        have bL4 : Hid (IBox v4 VL Wf Hf (.slice ea en ec')) := bL.out.fr f24 (by omega)
        have fL4 : Hid (∀ jj, v4.frozen? ⟨VL, jj, none⟩ = false) := fun jj => (f24.frz _).trans (fL.out jj)
        have US4 : Hid (USl v4 (.slice ea en ec') Tf) := usl_fr US2.out f24 (fun b hb => by have := (NW2.out.blk hb).1; omega)
        have UR4 : Hid (USl v4 (.slice ra rn rc) Tf) := usl_fr us3.out f34 (fun b hb => by have := (new3.out.blk hb).1; omega)
        have NW4 : Hid (NewN u2.heap.size v4 (.slice ea en ec') en) := NW2.out.fr f24 (fun b hb => by have := (NW2.out.blk hb).1; omega)
        have KB4 : Hid (Bk (fun b => (b < x2.heap.size ∧ b ≠ kb) ∨ b = VL ∨ b = VR) w.heap.size v4 kb bs2 bm2 L2) := KB2.out.keep f24 (fun b hb e => (KB2.out.far VR (Or.inr (Or.inr rfl))).2 (by rw [← e]; exact hb))
        clear q3 us3 new3 f34 f24 BRx bR0 gvl gvr ulv hvu
        have SA : Hid (Calls Try.prog 15 #[.agg #[.int .i64 Wf, .int .i64 Hf, .slice ea en ec'], .int .i64 ef, .agg #[.int .i64 Wf, .int .i64 Hf, .slice ra rn rc], .int .i64 ef] v4 fun e w' => e = .returned (.bool true) ∧ Q v4 w') := same_yes Wf Hf _ _ ef Tf v4 US4.out UR4.out (by omega)
        obtain ⟨z0, z1, z2⟩ := id bL4.out
        obtain ⟨s0, s1, s2⟩ := id bR.out
        go_wp2_with fail
        clear hv4 l0 l1 l2 lf
        refine SA.out.mono ?_
        rintro e v5 ⟨rfl, q5⟩
        replace z0 := q5.cell z0
        replace z1 := q5.cell z1
        replace z2 := q5.cell z2
        obtain ⟨m3, hm3⟩ : ∃ m3 : Nat, mm + 2 = m3 := ⟨_, rfl⟩
        have hm3' : (mm : Int) + 2 = (m3 : Int) := by omega
        have wm3 : IntKind.i64.wrap (m3 : Int) = (m3 : Int) := by rw [IntKind.wrap_i64]; omega
        have BP := book_plane_y w v5 (QV4.out.trans q5) kb u2.heap.size (KB4.out.next q5) (fun b hb => (HB2.out.lt hb).2) (fun b hb => (HB2.out.far b hb).1) (by rw [HL2.out]; omega) Wf Hf (.slice ea en ec') en m3 (NW4.out.next q5) n1 (by omega)
        clear s0 s1 s2 SA
        go_wp2_with fail
        refine BP.mono ?_
        rintro e u3 ⟨rfl, bs3, bm3, x, HQ3, b6, f6⟩
        have HF3 : Hid (Fr x2 u3 (fun b => b < x2.heap.size ∧ b ≠ kb)) := (F4.out.trans (q5.fr _)).trans (f6.out.mono (fun y hy _ => Or.inl (Or.inl hy)))
        have inL : Left (fun b => (b < x2.heap.size ∧ b ≠ kb) ∨ b = VL ∨ b = VR) u2.heap.size v5 (.slice ea en ec') VL := Or.inl (Or.inr (Or.inl rfl))
        have inR : Left (fun b => (b < x2.heap.size ∧ b ≠ kb) ∨ b = VL ∨ b = VR) u2.heap.size v5 (.slice ea en ec') VR := Or.inl (Or.inr (Or.inr rfl))
        have HB3 : Hid (Bk (fun b => (b < x2.heap.size ∧ b ≠ kb) ∨ b = VL ∨ b = VR) w.heap.size u3 kb bs3 bm3 (L2 ++ [x])) := b6.out.more (fun b hb => Or.inl (by
          rcases hb with hb | hb | hb
          · exact Or.inl (Or.inl hb)
          · rw [hb]; exact inL
          · rw [hb]; exact inR))
        have BXL3 : Hid (∃ Wx Hx vx, IBox u3 VL Wx Hx vx) := ⟨_, _, _, (bL4.out.next q5).fr f6.out inL⟩
        have BXR3 : Hid (∃ Wx Hx vx, IBox u3 VR Wx Hx vx) := ⟨_, _, _, (bR.out.next q5).fr f6.out inR⟩
        have FZL3 : Hid (∀ jj, u3.frozen? ⟨VL, jj, none⟩ = false) := fun jj => (f6.out.frz _).trans ((q5.2 _).trans (fL4.out jj))
        have FZR3 : Hid (∀ jj, u3.frozen? ⟨VR, jj, none⟩ = false) := fun jj => (f6.out.frz _).trans ((q5.2 _).trans (fR.out jj))
        have HL3 : Hid ((L2 ++ [x]).length = 5 * i + 3) := by show _ = _; rw [List.length_append, HL2.out]; rfl
        generalize L2 ++ [x] = L3 at HB3 HL3
        clear BP b6 f6 q5 z0 z1 z2 inL inR bL fL bR fR bL4 fL4 F2 F4 QV2 QV4 US2 US4 UR4 NW2 NW4 KB2 KB4 UL bR1 fR1 HB2 HF2 HQ2 HL2 BXL2 BXR2 FZL2 FZR2
        have AXu := AX.out u3 HF3.out
        obtain ⟨ya0, ya1, ya2⟩ := id (AXu.1)
        go_wp2_with fail
        refine (Pt.out u3 _ AXu.2.2.2.2.2.1).mono ?_
        rintro e v1 ⟨ea, en, ec', rfl, q1, us1, new1, n1⟩
        clear ya0 ya1 ya2 AXu
        obtain ⟨xl, yl, vl, BLx⟩ := BXL3.out
        have bL0 := BLx.next q1.out
        obtain ⟨l0, l1, l2⟩ := id bL0
        have lf : ∀ jj, v1.frozen? ⟨VL, jj, none⟩ = false := fun jj => (q1.out.2 _).trans (FZL3.out jj)
        obtain ⟨v2, hv2⟩ : ∃ v2, ((v1.setCell ⟨VL, 0, none⟩ (.int .i64 Wt)).setCell ⟨VL, 1, none⟩ (.int .i64 Ht)).setCell ⟨VL, 2, none⟩ (.slice ea en ec') = v2 := ⟨_, rfl⟩
        have bL : Hid (IBox v2 VL Wt Ht (.slice ea en ec')) := by rw [← hv2]; exact box_put bL0
        have fL : Hid (∀ jj, v2.frozen? ⟨VL, jj, none⟩ = false) := fun jj => by rw [← hv2, World.frozen?_setCell, World.frozen?_setCell, World.frozen?_setCell]; exact lf jj
        have gvl := HVL.out
        have gvr := HVR.out
        have F2 : Hid (Fr x2 v2 (fun b => b < x2.heap.size ∧ b ≠ kb)) := by rw [← hv2]; exact fr_put (HF3.out.trans (q1.out.fr _)) (fun h => by omega)
        have QV2 : Hid (Q w v2) := F2.out.q QT.out (fun b hb => ⟨by omega, by omega⟩)
        have f12 : Fr v1 v2 (fun b => b ≠ VL) := by rw [← hv2]; exact fr_put (Fr.refl v1 _) (fun h => h rfl)
        have ulv : VL < u3.heap.size := cell_in BLx.c0
        have US2 : Hid (USl v2 (.slice ea en ec') Tt) := usl_fr us1.out f12 (fun b hb => by have := (new1.out.blk hb).1; omega)
        have NW2 : Hid (NewN u3.heap.size v2 (.slice ea en ec') en) := new1.out.toN.fr f12 (fun b hb => by have := (new1.out.blk hb).1; omega)
        have KB2 : Hid (Bk (fun b => (b < x2.heap.size ∧ b ≠ kb) ∨ b = VL ∨ b = VR) w.heap.size v2 kb bs3 bm3 L3) := (HB3.out.next q1.out).keep f12 (fun b hb e => (HB3.out.far VL (Or.inr (Or.inl rfl))).2 (by rw [← e]; exact hb))
        have bR1 : Hid (∃ Wx Hx vx, IBox v2 VR Wx Hx vx) := by
          obtain ⟨xr, yr, vr, BRx⟩ := BXR3.out
          exact ⟨xr, yr, vr, (BRx.next q1.out).fr f12 (by omega)⟩
        have fR1 : Hid (∀ jj, v2.frozen? ⟨VR, jj, none⟩ = false) := fun jj => (f12.frz _).trans ((q1.out.2 _).trans (FZR3.out jj))
        have UL : Hid (u3.heap.size ≤ v2.heap.size) := by have h2 := q1.out.1.size; have h3 := f12.size; show _ ≤ _; omega
        clear q1 us1 new1 f12 BLx bL0 gvl gvr ulv
        have AXv := AX.out v2 F2.out
        obtain ⟨yp0, yp1, yp2⟩ := id (AXv.2.2.1)
        go_wp2_with fail
        clear hv2 l0 l1 l2 lf
        refine (Dt.out v2 _ (HS.out.next QV2.out)).mono ?_
        rintro e v3 ⟨ra, rn, rc, rfl, q3, us3, new3, n3⟩
        clear yp0 yp1 yp2 AXv
        obtain ⟨xr, yr, vr, BRx⟩ := bR1.out
        have bR0 := BRx.next q3.out
        obtain ⟨l0, l1, l2⟩ := id bR0
        have lf : ∀ jj, v3.frozen? ⟨VR, jj, none⟩ = false := fun jj => (q3.out.2 _).trans (fR1.out jj)
        obtain ⟨v4, hv4⟩ : ∃ v4, ((v3.setCell ⟨VR, 0, none⟩ (.int .i64 Wt)).setCell ⟨VR, 1, none⟩ (.int .i64 Ht)).setCell ⟨VR, 2, none⟩ (.slice ra rn rc) = v4 := ⟨_, rfl⟩
        have bR : Hid (IBox v4 VR Wt Ht (.slice ra rn rc)) := by rw [← hv4]; exact box_put bR0
        have fR : Hid (∀ jj, v4.frozen? ⟨VR, jj, none⟩ = false) := fun jj => by rw [← hv4, World.frozen?_setCell, World.frozen?_setCell, World.frozen?_setCell]; exact lf jj
        have gvl := HVL.out
        have gvr := HVR.out
        have F4 : Hid (Fr x2 v4 (fun b => b < x2.heap.size ∧ b ≠ kb)) := by rw [← hv4]; exact fr_put (F2.out.trans (q3.out.fr _)) (fun h => by omega)
        have QV4 : Hid (Q w v4) := F4.out.q QT.out (fun b hb => ⟨by omega, by omega⟩)
        have f34 : Fr v3 v4 (fun b => b ≠ VR) := by rw [← hv4]; exact fr_put (Fr.refl v3 _) (fun h => h rfl)
        have f24 : Fr v2 v4 (fun b => b ≠ VR) := (q3.out.fr _).trans f34
        have ulv : VR < v2.heap.size := cell_in BRx.c0
        have hvu : VR < u3.heap.size := (HB3.out.far VR (Or.inr (Or.inr rfl))).1
        have bL4 : Hid (IBox v4 VL Wt Ht (.slice ea en ec')) := bL.out.fr f24 (by omega)
        have fL4 : Hid (∀ jj, v4.frozen? ⟨VL, jj, none⟩ = false) := fun jj => (f24.frz _).trans (fL.out jj)
        have US4 : Hid (USl v4 (.slice ea en ec') Tt) := usl_fr US2.out f24 (fun b hb => by have := (NW2.out.blk hb).1; omega)
        have UR4 : Hid (USl v4 (.slice ra rn rc) Tt) := usl_fr us3.out f34 (fun b hb => by have := (new3.out.blk hb).1; omega)
        have NW4 : Hid (NewN u3.heap.size v4 (.slice ea en ec') en) := NW2.out.fr f24 (fun b hb => by have := (NW2.out.blk hb).1; omega)
        have KB4 : Hid (Bk (fun b => (b < x2.heap.size ∧ b ≠ kb) ∨ b = VL ∨ b = VR) w.heap.size v4 kb bs3 bm3 L3) := KB2.out.keep f24 (fun b hb e => (KB2.out.far VR (Or.inr (Or.inr rfl))).2 (by rw [← e]; exact hb))
        clear q3 us3 new3 f34 f24 BRx bR0 gvl gvr ulv hvu
        have SA : Hid (Calls Try.prog 15 #[.agg #[.int .i64 Wt, .int .i64 Ht, .slice ea en ec'], .int .i64 et, .agg #[.int .i64 Wt, .int .i64 Ht, .slice ra rn rc], .int .i64 et] v4 fun e w' => e = .returned (.bool true) ∧ Q v4 w') := same_yes Wt Ht _ _ et Tt v4 US4.out UR4.out (by omega)
        obtain ⟨z0, z1, z2⟩ := id bL4.out
        obtain ⟨s0, s1, s2⟩ := id bR.out
        go_wp2_with fail
        clear hv4 l0 l1 l2 lf
        refine SA.out.mono ?_
        rintro e v5 ⟨rfl, q5⟩
        replace z0 := q5.cell z0
        replace z1 := q5.cell z1
        replace z2 := q5.cell z2
        obtain ⟨m4, hm4⟩ : ∃ m4 : Nat, mm + 3 = m4 := ⟨_, rfl⟩
        have hm4' : (mm : Int) + 3 = (m4 : Int) := by omega
        have wm4 : IntKind.i64.wrap (m4 : Int) = (m4 : Int) := by rw [IntKind.wrap_i64]; omega
        have BP := book_plane_y w v5 (QV4.out.trans q5) kb u3.heap.size (KB4.out.next q5) (fun b hb => (HB3.out.lt hb).2) (fun b hb => (HB3.out.far b hb).1) (by rw [HL3.out]; omega) Wt Ht (.slice ea en ec') en m4 (NW4.out.next q5) n1 (by omega)
        clear s0 s1 s2 SA
        go_wp2_with fail
        refine BP.mono ?_
        rintro e u4 ⟨rfl, bs4, bm4, x, HQ4, b6, f6⟩
        have HF4 : Hid (Fr x2 u4 (fun b => b < x2.heap.size ∧ b ≠ kb)) := (F4.out.trans (q5.fr _)).trans (f6.out.mono (fun y hy _ => Or.inl (Or.inl hy)))
        have inL : Left (fun b => (b < x2.heap.size ∧ b ≠ kb) ∨ b = VL ∨ b = VR) u3.heap.size v5 (.slice ea en ec') VL := Or.inl (Or.inr (Or.inl rfl))
        have inR : Left (fun b => (b < x2.heap.size ∧ b ≠ kb) ∨ b = VL ∨ b = VR) u3.heap.size v5 (.slice ea en ec') VR := Or.inl (Or.inr (Or.inr rfl))
        have HB4 : Hid (Bk (fun b => (b < x2.heap.size ∧ b ≠ kb) ∨ b = VL ∨ b = VR) w.heap.size u4 kb bs4 bm4 (L3 ++ [x])) := b6.out.more (fun b hb => Or.inl (by
          rcases hb with hb | hb | hb
          · exact Or.inl (Or.inl hb)
          · rw [hb]; exact inL
          · rw [hb]; exact inR))
        have BXL4 : Hid (∃ Wx Hx vx, IBox u4 VL Wx Hx vx) := ⟨_, _, _, (bL4.out.next q5).fr f6.out inL⟩
        have BXR4 : Hid (∃ Wx Hx vx, IBox u4 VR Wx Hx vx) := ⟨_, _, _, (bR.out.next q5).fr f6.out inR⟩
        have FZL4 : Hid (∀ jj, u4.frozen? ⟨VL, jj, none⟩ = false) := fun jj => (f6.out.frz _).trans ((q5.2 _).trans (fL4.out jj))
        have FZR4 : Hid (∀ jj, u4.frozen? ⟨VR, jj, none⟩ = false) := fun jj => (f6.out.frz _).trans ((q5.2 _).trans (fR.out jj))
        have HL4 : Hid ((L3 ++ [x]).length = 5 * i + 4) := by show _ = _; rw [List.length_append, HL3.out]; rfl
        generalize L3 ++ [x] = L4 at HB4 HL4
        clear BP b6 f6 q5 z0 z1 z2 inL inR bL fL bR fR bL4 fL4 F2 F4 QV2 QV4 US2 US4 UR4 NW2 NW4 KB2 KB4 UL bR1 fR1 HB3 HF3 HQ3 HL3 BXL3 BXR3 FZL3 FZR3
        have AXu := AX.out u4 HF4.out
        obtain ⟨ya0, ya1, ya2⟩ := id (AXu.1)
        go_wp2_with fail
        refine (Pu.out u4 _ AXu.2.2.2.2.2.1).mono ?_
        rintro e v1 ⟨ea, en, ec', rfl, q1, us1, new1, n1⟩
        clear ya0 ya1 ya2 AXu
        obtain ⟨xl, yl, vl, BLx⟩ := BXL4.out
        have bL0 := BLx.next q1.out
        obtain ⟨l0, l1, l2⟩ := id bL0
        have lf : ∀ jj, v1.frozen? ⟨VL, jj, none⟩ = false := fun jj => (q1.out.2 _).trans (FZL4.out jj)
        obtain ⟨v2, hv2⟩ : ∃ v2, ((v1.setCell ⟨VL, 0, none⟩ (.int .i64 Wu)).setCell ⟨VL, 1, none⟩ (.int .i64 Hu)).setCell ⟨VL, 2, none⟩ (.slice ea en ec') = v2 := ⟨_, rfl⟩
        have bL : Hid (IBox v2 VL Wu Hu (.slice ea en ec')) := by rw [← hv2]; exact box_put bL0
        have fL : Hid (∀ jj, v2.frozen? ⟨VL, jj, none⟩ = false) := fun jj => by rw [← hv2, World.frozen?_setCell, World.frozen?_setCell, World.frozen?_setCell]; exact lf jj
        have gvl := HVL.out
        have gvr := HVR.out
        have F2 : Hid (Fr x2 v2 (fun b => b < x2.heap.size ∧ b ≠ kb)) := by rw [← hv2]; exact fr_put (HF4.out.trans (q1.out.fr _)) (fun h => by omega)
        have QV2 : Hid (Q w v2) := F2.out.q QT.out (fun b hb => ⟨by omega, by omega⟩)
        have f12 : Fr v1 v2 (fun b => b ≠ VL) := by rw [← hv2]; exact fr_put (Fr.refl v1 _) (fun h => h rfl)
        have ulv : VL < u4.heap.size := cell_in BLx.c0
        have US2 : Hid (USl v2 (.slice ea en ec') Tu) := usl_fr us1.out f12 (fun b hb => by have := (new1.out.blk hb).1; omega)
        have NW2 : Hid (NewN u4.heap.size v2 (.slice ea en ec') en) := new1.out.toN.fr f12 (fun b hb => by have := (new1.out.blk hb).1; omega)
        have KB2 : Hid (Bk (fun b => (b < x2.heap.size ∧ b ≠ kb) ∨ b = VL ∨ b = VR) w.heap.size v2 kb bs4 bm4 L4) := (HB4.out.next q1.out).keep f12 (fun b hb e => (HB4.out.far VL (Or.inr (Or.inl rfl))).2 (by rw [← e]; exact hb))
        have bR1 : Hid (∃ Wx Hx vx, IBox v2 VR Wx Hx vx) := by
          obtain ⟨xr, yr, vr, BRx⟩ := BXR4.out
          exact ⟨xr, yr, vr, (BRx.next q1.out).fr f12 (by omega)⟩
        have fR1 : Hid (∀ jj, v2.frozen? ⟨VR, jj, none⟩ = false) := fun jj => (f12.frz _).trans ((q1.out.2 _).trans (FZR4.out jj))
        have UL : Hid (u4.heap.size ≤ v2.heap.size) := by have h2 := q1.out.1.size; have h3 := f12.size; show _ ≤ _; omega
        clear q1 us1 new1 f12 BLx bL0 gvl gvr ulv
        have AXv := AX.out v2 F2.out
        obtain ⟨yp0, yp1, yp2⟩ := id (AXv.2.2.1)
        go_wp2_with fail
        clear hv2 l0 l1 l2 lf
        refine (Du.out v2 _ (HS.out.next QV2.out)).mono ?_
        rintro e v3 ⟨ra, rn, rc, rfl, q3, us3, new3, n3⟩
        clear yp0 yp1 yp2 AXv
        obtain ⟨xr, yr, vr, BRx⟩ := bR1.out
        have bR0 := BRx.next q3.out
        obtain ⟨l0, l1, l2⟩ := id bR0
        have lf : ∀ jj, v3.frozen? ⟨VR, jj, none⟩ = false := fun jj => (q3.out.2 _).trans (fR1.out jj)
        obtain ⟨v4, hv4⟩ : ∃ v4, ((v3.setCell ⟨VR, 0, none⟩ (.int .i64 Wu)).setCell ⟨VR, 1, none⟩ (.int .i64 Hu)).setCell ⟨VR, 2, none⟩ (.slice ra rn rc) = v4 := ⟨_, rfl⟩
        have bR : Hid (IBox v4 VR Wu Hu (.slice ra rn rc)) := by rw [← hv4]; exact box_put bR0
        have fR : Hid (∀ jj, v4.frozen? ⟨VR, jj, none⟩ = false) := fun jj => by rw [← hv4, World.frozen?_setCell, World.frozen?_setCell, World.frozen?_setCell]; exact lf jj
        have gvl := HVL.out
        have gvr := HVR.out
        have F4 : Hid (Fr x2 v4 (fun b => b < x2.heap.size ∧ b ≠ kb)) := by rw [← hv4]; exact fr_put (F2.out.trans (q3.out.fr _)) (fun h => by omega)
        have QV4 : Hid (Q w v4) := F4.out.q QT.out (fun b hb => ⟨by omega, by omega⟩)
        have f34 : Fr v3 v4 (fun b => b ≠ VR) := by rw [← hv4]; exact fr_put (Fr.refl v3 _) (fun h => h rfl)
        have f24 : Fr v2 v4 (fun b => b ≠ VR) := (q3.out.fr _).trans f34
        have ulv : VR < v2.heap.size := cell_in BRx.c0
        have hvu : VR < u4.heap.size := (HB4.out.far VR (Or.inr (Or.inr rfl))).1
        have bL4 : Hid (IBox v4 VL Wu Hu (.slice ea en ec')) := bL.out.fr f24 (by omega)
        have fL4 : Hid (∀ jj, v4.frozen? ⟨VL, jj, none⟩ = false) := fun jj => (f24.frz _).trans (fL.out jj)
        have US4 : Hid (USl v4 (.slice ea en ec') Tu) := usl_fr US2.out f24 (fun b hb => by have := (NW2.out.blk hb).1; omega)
        have UR4 : Hid (USl v4 (.slice ra rn rc) Tu) := usl_fr us3.out f34 (fun b hb => by have := (new3.out.blk hb).1; omega)
        have NW4 : Hid (NewN u4.heap.size v4 (.slice ea en ec') en) := NW2.out.fr f24 (fun b hb => by have := (NW2.out.blk hb).1; omega)
        have KB4 : Hid (Bk (fun b => (b < x2.heap.size ∧ b ≠ kb) ∨ b = VL ∨ b = VR) w.heap.size v4 kb bs4 bm4 L4) := KB2.out.keep f24 (fun b hb e => (KB2.out.far VR (Or.inr (Or.inr rfl))).2 (by rw [← e]; exact hb))
        clear q3 us3 new3 f34 f24 BRx bR0 gvl gvr ulv hvu
        have SA : Hid (Calls Try.prog 15 #[.agg #[.int .i64 Wu, .int .i64 Hu, .slice ea en ec'], .int .i64 eu, .agg #[.int .i64 Wu, .int .i64 Hu, .slice ra rn rc], .int .i64 eu] v4 fun e w' => e = .returned (.bool true) ∧ Q v4 w') := same_yes Wu Hu _ _ eu Tu v4 US4.out UR4.out (by omega)
        obtain ⟨z0, z1, z2⟩ := id bL4.out
        obtain ⟨s0, s1, s2⟩ := id bR.out
        go_wp2_with fail
        clear hv4 l0 l1 l2 lf
        refine SA.out.mono ?_
        rintro e v5 ⟨rfl, q5⟩
        replace z0 := q5.cell z0
        replace z1 := q5.cell z1
        replace z2 := q5.cell z2
        obtain ⟨m5, hm5⟩ : ∃ m5 : Nat, mm + 4 = m5 := ⟨_, rfl⟩
        have hm5' : (mm : Int) + 4 = (m5 : Int) := by omega
        have wm5 : IntKind.i64.wrap (m5 : Int) = (m5 : Int) := by rw [IntKind.wrap_i64]; omega
        have BP := book_plane_y w v5 (QV4.out.trans q5) kb u4.heap.size (KB4.out.next q5) (fun b hb => (HB4.out.lt hb).2) (fun b hb => (HB4.out.far b hb).1) (by rw [HL4.out]; omega) Wu Hu (.slice ea en ec') en m5 (NW4.out.next q5) n1 (by omega)
        clear s0 s1 s2 SA
        go_wp2_with fail
        refine BP.mono ?_
        rintro e u5 ⟨rfl, bs5, bm5, x, HQ5, b6, f6⟩
        have HF5 : Hid (Fr x2 u5 (fun b => b < x2.heap.size ∧ b ≠ kb)) := (F4.out.trans (q5.fr _)).trans (f6.out.mono (fun y hy _ => Or.inl (Or.inl hy)))
        have inL : Left (fun b => (b < x2.heap.size ∧ b ≠ kb) ∨ b = VL ∨ b = VR) u4.heap.size v5 (.slice ea en ec') VL := Or.inl (Or.inr (Or.inl rfl))
        have inR : Left (fun b => (b < x2.heap.size ∧ b ≠ kb) ∨ b = VL ∨ b = VR) u4.heap.size v5 (.slice ea en ec') VR := Or.inl (Or.inr (Or.inr rfl))
        have HB5 : Hid (Bk (fun b => (b < x2.heap.size ∧ b ≠ kb) ∨ b = VL ∨ b = VR) w.heap.size u5 kb bs5 bm5 (L4 ++ [x])) := b6.out.more (fun b hb => Or.inl (by
          rcases hb with hb | hb | hb
          · exact Or.inl (Or.inl hb)
          · rw [hb]; exact inL
          · rw [hb]; exact inR))
        have BXL5 : Hid (∃ Wx Hx vx, IBox u5 VL Wx Hx vx) := ⟨_, _, _, (bL4.out.next q5).fr f6.out inL⟩
        have BXR5 : Hid (∃ Wx Hx vx, IBox u5 VR Wx Hx vx) := ⟨_, _, _, (bR.out.next q5).fr f6.out inR⟩
        have FZL5 : Hid (∀ jj, u5.frozen? ⟨VL, jj, none⟩ = false) := fun jj => (f6.out.frz _).trans ((q5.2 _).trans (fL4.out jj))
        have FZR5 : Hid (∀ jj, u5.frozen? ⟨VR, jj, none⟩ = false) := fun jj => (f6.out.frz _).trans ((q5.2 _).trans (fR.out jj))
        have HL5 : Hid ((L4 ++ [x]).length = 5 * i + 5) := by show _ = _; rw [List.length_append, HL4.out]; rfl
        generalize L4 ++ [x] = L5 at HB5 HL5
        clear BP b6 f6 q5 z0 z1 z2 inL inR bL fL bR fR bL4 fL4 F2 F4 QV2 QV4 US2 US4 UR4 NW2 NW4 KB2 KB4 UL bR1 fR1 HB4 HF4 HQ4 HL4 BXL4 BXR4 FZL4 FZR4
        have HBE : Hid (Bk (fun b => b < x2.heap.size ∧ b ≠ kb) w.heap.size u5 kb bs5 bm5 L5) := HB5.out.more (fun b hb => Or.inl (Or.inl hb))
        go_wp2_with fail
        go_roundg (2 - (i + 1))
        case measure => go_light; omega
        case rel => go_light; exact ⟨i + 1, bs5, bm5, L5, by go_num, by omega, by have := HL5.out; omega, HQ5, HF5, HBE⟩
      · have hie : i = 2 := by omega
        have BH := book_hold _ wr kb HB0.out (by omega)
        have RMW : Hid (Rm w3.heap.size wr (kb + 1) rs rv [⟨g, hh, cp, lentL S⟩, ⟨g2, hh2, cp2, lentL S2⟩]) := HRX.out.keep HF0.out (fun b hb => by
          have h1 := HRX.out.lt hb
          have h2 := HK.out.2.1
          exact ⟨h1.2, by omega⟩)
        have HNL : Hid (∀ x ∈ [(⟨g, hh, cp, lentL S⟩ : Lend), ⟨g2, hh2, cp2, lentL S2⟩], x.V.length ≤ 35184372087813) := fun x hx => by
          rcases List.mem_cons.1 hx with rfl | hx
          · show (lentL S).length ≤ _
            rw [lentL_length, HN.out]; omega
          · rw [List.mem_singleton] at hx
            subst hx
            show (lentL S2).length ≤ _
            rw [lentL_length, HN2.out]; omega
        clear hLi
        go_wp2_with fail
        refine BH.mono ?_
        rintro e v1 ⟨rfl, q1⟩
        have RH := room_hold _ v1 (kb + 1) (RMW.out.next q1) (by simp) HNL.out
        have QE : Hid (Q w v1) := HQ0.out.trans q1
        clear BH
        go_wp2_with fail
        refine RH.mono ?_
        rintro e v2 ⟨rfl, q2⟩
        have QF : Hid (Q w v2) := QE.out.trans q2
        go_wp2_with fail
        go_ret
        exact ⟨rfl, QF.out⟩
end Go.Proofs.Ytkgfohodahkmmaa

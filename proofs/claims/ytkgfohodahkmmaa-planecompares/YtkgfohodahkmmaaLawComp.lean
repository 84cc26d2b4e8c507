/- What is said of planes compared: the walk. -/
import Derived.Test.YtkgfohodahkmmaaRmT
import Derived.Test.YtkgfohodahkmmaaAnsB
namespace Go.Proofs.Ytkgfohodahkmmaa
open Go.RowKit
set_option linter.unusedVariables false
set_option linter.unusedSimpArgs false

/-- Which planes are held against the first, and what is to come out. -/
def EqF (W H : Int) (g n : Nat) (W2 H2 : Int) (g2 n2 : Nat) (e : Bool) (W' H' : Int) (v' : Value) (B : Bool) : Prop := (W' = W2 ∧ H' = H2 ∧ v' = .slice (some ⟨g2, 0, none⟩) n2 (n2 + 5) ∧ B = e) ∨ (W' = W ∧ H' = H ∧ v' = .slice (some ⟨g, 0, none⟩) n (n + 5) ∧ B = true)
theorem eqf_any {W H : Int} {g n : Nat} {W2 H2 : Int} {g2 n2 : Nat} {e : Bool} {S S2 : List Nat} {x : World} (uA : USl x (.slice (some ⟨g, 0, none⟩) n (n + 5)) S) (uB : USl x (.slice (some ⟨g2, 0, none⟩) n2 (n2 + 5)) S2) (hn : S.length ≤ 9223372036854775807) (hn2 : S2.length ≤ 9223372036854775807) (he : eqB W H S W2 H2 S2 = e) {W' H' : Int} {v' : Value} {B : Bool} (h : EqF W H g n W2 H2 g2 n2 e W' H' v' B) :
    Calls Try.prog 38 #[.agg #[.int .i64 W, .int .i64 H, .slice (some ⟨g, 0, none⟩) n (n + 5)], .agg #[.int .i64 W', .int .i64 H', v']] x fun e w' => e = .returned (.bool B) ∧ Q x w' := by
  rcases h with ⟨h1, h2, h3, h4⟩ | ⟨h1, h2, h3, h4⟩
  · rw [h1, h2, h3, h4, ← he]
    exact equal_any W H _ S W2 H2 _ S2 x uA uB hn hn2
  · rw [h1, h2, h3, h4]
    have := equal_any W H _ S W H _ S x uA uA hn hn
    rw [eqB_true.2 ⟨rfl, rfl, rfl⟩] at this
    exact this
set_option maxHeartbeats 8000000 in
set_option maxRecDepth 100000 in
theorem compares_walk (W H : Int) (sv : Value) (S : List Nat) (W2 H2 : Int) (sv2 : Value) (S2 : List Nat) (w : World) (hS : USl w sv S) (hS2 : USl w sv2 S2) (hn : S.length ≤ 35184372087808) (hn2 : S2.length ≤ 35184372087808) :
    Calls Try.prog 7 #[.agg #[.int .i64 W, .int .i64 H, sv], .agg #[.int .i64 W2, .int .i64 H2, sv2]] w fun e w' => e = .returned (.bool true) ∧ Q w w' := by
  obtain ⟨r0, r1, r2, r3, ok, CU0, CV0⟩ := both_unlike W H S (by omega) W2 H2 S2 (by omega)
  have CU : Hid (∀ w v v2, USl w v S → USl w v2 S2 → Calls Try.prog 36 #[.agg #[.int .i64 W, .int .i64 H, v], .agg #[.int .i64 W2, .int .i64 H2, v2]] w fun e w' => e = .returned (.tuple #[.agg #[.int .i64 r0, .int .i64 r1, .int .i64 r2, .int .i64 r3], .bool ok]) ∧ Q w w') := CU0
  have CV : Hid (∀ w v v2, USl w v S → USl w v2 S2 → Calls Try.prog 37 #[.agg #[.int .i64 W, .int .i64 H, v], .agg #[.int .i64 W2, .int .i64 H2, v2]] w fun e w' => e = .returned (.tuple #[.agg #[.int .i64 r0, .int .i64 r1, .int .i64 r2, .int .i64 r3], .bool ok]) ∧ Q w w') := CV0
  obtain ⟨a, cap, ev⟩ := hS.form
  obtain ⟨a2, cap2, ev2⟩ := hS2.form
  subst ev ev2
  obtain ⟨n, en⟩ : ∃ n, S.length = n := ⟨_, rfl⟩
  obtain ⟨n2, en2⟩ : ∃ n, S2.length = n := ⟨_, rfl⟩
  have HN : Hid (S.length = n) := en
  have HN2 : Hid (S2.length = n2) := en2
  rw [en] at hS hn ⊢
  rw [en2] at hS2 hn2 ⊢
  obtain ⟨w1, hw1⟩ : ∃ w1, (w.alloc (.cells #[.int .i64 W, .int .i64 H, .slice a n cap] 25)).alloc (.cells #[.int .i64 W2, .int .i64 H2, .slice a2 n2 cap2] 25) = w1 := ⟨_, rfl⟩
  have Q1 : Hid (Q w w1) := by rw [← hw1]; exact ((Q.refl w).cells _ _).cells _ _
  have Bp : Hid (IBox w1 w.heap.size W H (.slice a n cap)) := by rw [← hw1]; exact ⟨by simp [go_sem], by simp [go_sem], by simp [go_sem]⟩
  have Bq : Hid (IBox w1 (w.heap.size + 1) W2 H2 (.slice a2 n2 cap2)) := by rw [← hw1]; exact ⟨by simp [go_sem], by simp [go_sem], by simp [go_sem]⟩
  have HS : Hid (USl w (.slice a n cap) S) := hS
  have HS2 : Hid (USl w (.slice a2 n2 cap2) S2) := hS2
  have K := known_any w1
  clear hS hS2 en en2 CU0 CV0
  go_enter Try.func7, Try.ntmps7
  go_wp2_with fail
  clear hw1
  refine K.mono ?_
  rintro e w3 ⟨rfl, k2⟩
  have Q3 : Hid (Q w w3) := Q1.out.trans k2
  replace Bp : Hid (IBox w3 w.heap.size W H (.slice a n cap)) := Bp.out.next k2
  replace Bq : Hid (IBox w3 (w.heap.size + 1) W2 H2 (.slice a2 n2 cap2)) := Bq.out.next k2
  have RM : Hid (Rm w3.heap.size (w3.alloc (.cells #[.slice none 0 0, .slice none 0 0, .slice none 0 0, .slice none 0 0, .slice none 0 0, .slice none 0 0, .slice none 0 0, .slice none 0 0] 38)) w3.heap.size (.slice none 0 0) (.slice none 0 0) []) := room_new w3
  obtain ⟨w4, hw4⟩ : ∃ w4, w3.alloc (.cells #[.slice none 0 0, .slice none 0 0, .slice none 0 0, .slice none 0 0, .slice none 0 0, .slice none 0 0, .slice none 0 0, .slice none 0 0] 38) = w4 := ⟨_, rfl⟩
  have Q34 : Hid (Q w3 w4) := by rw [← hw4]; exact (Q.refl w3).cells _ _
  rw [hw4] at RM
  obtain ⟨kb, hkb⟩ : ∃ kb, w3.heap.size = kb := ⟨_, rfl⟩
  have HK : Hid (w3.heap.size = kb) := hkb
  clear K k2
  go_wp2_with fail
  clear hw4 hkb
  have J0 : Hid (J2 w3 kb w4.heap.size W H S W2 H2 S2 none none none none w4.drew) := by
    refine ⟨Q34.out.drew, Nat.le_refl _, .slice none 0 0, .slice none 0 0, [], ?_, rfl, Bx.none, Bx.none, fun q h => by cases h⟩
    have := RM.out
    rw [← HK.out]
    exact this.next (Q.refl w4).drew
  refine wp_two_at (J2 w3 kb w4.heap.size W H S W2 H2 S2) "exact.go:119" 5 2 3 16 17 18 19 20 21 6 7 10 36 25 (.pointer (some ⟨kb, 0, none⟩)) (.agg #[.int .i64 W, .int .i64 H, .slice a n cap]) (.agg #[.int .i64 W2, .int .i64 H2, .slice a2 n2 cap2]) (.pointer (some ⟨w.heap.size, 0, none⟩)) (.pointer (some ⟨w.heap.size + 1, 0, none⟩)) zeroPl rfl (by kernel_rfl) (by decide) (by simp) (by decide) (by decide) (by decide) rfl rfl rfl J0.out ?_ ?_ (enters_of Try.func10 (by kernel_rfl) rfl) ?_ ?_ ?_ ?_ ?_ ?_
  · intro ρ t ps d af o1 o2 o6 o7 x hj hρ
    obtain ⟨c0, c1, c2⟩ := Bp.out.next hj.1
    simp [execOp, hρ, go_sem, c0, c1, c2]
  · intro ρ t ps d af o1 o2 o6 o7 x hj hρ
    obtain ⟨c0, c1, c2⟩ := Bq.out.next hj.1
    simp [execOp, hρ, go_sem, c0, c1, c2]
  · intro o6 o7 x hj
    exact hj.call1 (HS.out.next Q3.out) (by rw [HN.out]; exact hn)
  · intro v1 o6 o7 x hj
    exact hj.call2 (HS2.out.next Q3.out) (by rw [HN2.out]; exact hn2)
  · intro ρ t ps d af x
    simp [execOp, go_sem, zeroPl]
  · intro o1 o2 o7 x hj
    exact hj.alloc.1 rfl
  · intro o1 o2 o6 x hj
    exact hj.alloc.2 rfl
  · intro aa v1 v2 p6 p7 x hj t6 t2 t7 t5 hA af8 af9
    refine ⟨?_⟩
    obtain ⟨g, hh, cp, g2, hh2, cp2, rs, rv, V6, V7, e1, e2, e6, e7, hV, l6, l7, b6, b7, f6, f7, hend⟩ := hj.done Q34.out.1.size
    rw [e1, e2, e6, e7] at hA
    rw [e6] at t6
    rw [e7] at t7
    rw [e1] at t2
    rw [e2] at t5
    unfold lentV at t2 t5 hA
    rw [HN.out] at t2 hA
    rw [HN2.out] at t5 hA
    have oth : ∀ (y : World) (b j j' : Nat) (v : Value), b ≠ V6 → (y.setCell ⟨V6, j, none⟩ v).cell? ⟨b, j', none⟩ = y.cell? ⟨b, j', none⟩ := fun y b j j' v hb => World.cell?_setCell_other _ _ _ _ (by simp [hb])
    refine store_box aa x V6 6 18 W H _ _ _ t6 t2 b6.c0 b6.c1 b6.c2 f6 _ _ _ _ ?_
    refine store_box aa _ V7 7 21 W2 H2 _ _ _ t7 t5 (by rw [oth _ _ _ _ _ hV.symm, oth _ _ _ _ _ hV.symm, oth _ _ _ _ _ hV.symm]; exact b7.c0) (by rw [oth _ _ _ _ _ hV.symm, oth _ _ _ _ _ hV.symm, oth _ _ _ _ _ hV.symm]; exact b7.c1) (by rw [oth _ _ _ _ _ hV.symm, oth _ _ _ _ _ hV.symm, oth _ _ _ _ _ hV.symm]; exact b7.c2) (fun j => by rw [World.frozen?_setCell, World.frozen?_setCell, World.frozen?_setCell]; exact f7 j) _ _ _ _ ?_
    have IB6 : Hid (IBox ((((((x.setCell ⟨V6, 0, none⟩ (.int .i64 W)).setCell ⟨V6, 1, none⟩ (.int .i64 H)).setCell ⟨V6, 2, none⟩ (.slice (some ⟨g, 0, none⟩) n (n + 5))).setCell ⟨V7, 0, none⟩ (.int .i64 W2)).setCell ⟨V7, 1, none⟩ (.int .i64 H2)).setCell ⟨V7, 2, none⟩ (.slice (some ⟨g2, 0, none⟩) n2 (n2 + 5))) V6 W H (.slice (some ⟨g, 0, none⟩) n (n + 5))) := by
      obtain ⟨q0, q1, q2⟩ := b6
      exact ⟨by simp [go_sem, q0, q1, q2, hV], by simp [go_sem, q0, q1, q2, hV], by simp [go_sem, q0, q1, q2, hV]⟩
    have IB7 : Hid (IBox ((((((x.setCell ⟨V6, 0, none⟩ (.int .i64 W)).setCell ⟨V6, 1, none⟩ (.int .i64 H)).setCell ⟨V6, 2, none⟩ (.slice (some ⟨g, 0, none⟩) n (n + 5))).setCell ⟨V7, 0, none⟩ (.int .i64 W2)).setCell ⟨V7, 1, none⟩ (.int .i64 H2)).setCell ⟨V7, 2, none⟩ (.slice (some ⟨g2, 0, none⟩) n2 (n2 + 5))) V7 W2 H2 (.slice (some ⟨g2, 0, none⟩) n2 (n2 + 5))) := by
      obtain ⟨q0, q1, q2⟩ := b7
      exact ⟨by simp [go_sem, q0, q1, q2, hV.symm], by simp [go_sem, q0, q1, q2, hV.symm], by simp [go_sem, q0, q1, q2, hV.symm]⟩
    obtain ⟨QX, RX⟩ := hend _ ⟨_, _, _, _, _, _, rfl⟩
    generalize (((((x.setCell ⟨V6, 0, none⟩ (.int .i64 W)).setCell ⟨V6, 1, none⟩ (.int .i64 H)).setCell ⟨V6, 2, none⟩ (.slice (some ⟨g, 0, none⟩) n (n + 5))).setCell ⟨V7, 0, none⟩ (.int .i64 W2)).setCell ⟨V7, 1, none⟩ (.int .i64 H2)).setCell ⟨V7, 2, none⟩ (.slice (some ⟨g2, 0, none⟩) n2 (n2 + 5)) = x2 at *
    have HQX : Hid (Q w3 x2) := QX
    have HRX : Hid (Rm w3.heap.size x2 kb rs rv [⟨g, hh, cp, lentL S⟩, ⟨g2, hh2, cp2, lentL S2⟩]) := RX
    clear QX RX hend b6 b7 f6 f7 oth t2 t5 t6 t7 hj e1 e2 e6 e7 l6 l7 J0
    subst hA
    unfold twoEnd
    simp only [Act.put]
    have UA : Hid (USl x2 (.slice (some ⟨g, 0, none⟩) n (n + 5)) S) := by
      have := ((HRX.out.it _ List.mem_cons_self).2.1).us
      have h2 := (lentL_us this).usl (cap := n + 5) (by rw [HN.out]; omega)
      rw [HN.out] at h2
      exact h2
    have UB : Hid (USl x2 (.slice (some ⟨g2, 0, none⟩) n2 (n2 + 5)) S2) := by
      have := ((HRX.out.it _ (List.mem_cons_of_mem _ List.mem_cons_self)).2.1).us
      have h2 := (lentL_us this).usl (cap := n2 + 5) (by rw [HN2.out]; omega)
      rw [HN2.out] at h2
      exact h2
    have QT : Hid (Q w x2) := Q3.out.trans HQX.out
    obtain ⟨y0, y1, y2⟩ := id IB6.out
    obtain ⟨z0, z1, z2⟩ := id IB7.out
    go_wp2_with fail
    refine (CU.out x2 _ _ UA.out UB.out).mono ?_
    rintro e v1 ⟨rfl, q1⟩
    obtain ⟨v2, hv2⟩ : ∃ v2, v1.alloc (.cells #[.int .i64 r0, .int .i64 r1, .int .i64 r2, .int .i64 r3] 56) = v2 := ⟨_, rfl⟩
    have q2 : Q v1 v2 := by rw [← hv2]; exact (Q.refl _).cells _ _
    have p0 : v2.cell? ⟨v1.heap.size, 0, none⟩ = some (.int .i64 r0) := by rw [← hv2]; simp [go_sem]
    have p1 : v2.cell? ⟨v1.heap.size, 1, none⟩ = some (.int .i64 r1) := by rw [← hv2]; simp [go_sem]
    have p2 : v2.cell? ⟨v1.heap.size, 2, none⟩ = some (.int .i64 r2) := by rw [← hv2]; simp [go_sem]
    have p3 : v2.cell? ⟨v1.heap.size, 3, none⟩ = some (.int .i64 r3) := by rw [← hv2]; simp [go_sem]
    have Q12 : Hid (Q x2 v2) := q1.trans q2
    obtain ⟨VU, hVU⟩ : ∃ VU, v1.heap.size = VU := ⟨_, rfl⟩
    rw [hVU] at p0 p1 p2 p3
    obtain ⟨s0, s1, s2⟩ := id ((Bp.out.next HQX.out).next Q12.out)
    obtain ⟨t0, t1, t2⟩ := id ((Bq.out.next HQX.out).next Q12.out)
    clear y0 y1 y2 z0 z1 z2 q1 q2
    go_wp2_with fail
    clear hv2 hVU
    refine (CV.out v2 _ _ (HS.out.next (QT.out.trans Q12.out)) (HS2.out.next (QT.out.trans Q12.out))).mono ?_
    rintro e v3 ⟨rfl, q3⟩
    obtain ⟨v4, hv4⟩ : ∃ v4, v3.alloc (.cells #[.int .i64 r0, .int .i64 r1, .int .i64 r2, .int .i64 r3] 56) = v4 := ⟨_, rfl⟩
    have q4 : Q v3 v4 := by rw [← hv4]; exact (Q.refl _).cells _ _
    have o0 : v4.cell? ⟨v3.heap.size, 0, none⟩ = some (.int .i64 r0) := by rw [← hv4]; simp [go_sem]
    have o1 : v4.cell? ⟨v3.heap.size, 1, none⟩ = some (.int .i64 r1) := by rw [← hv4]; simp [go_sem]
    have o2 : v4.cell? ⟨v3.heap.size, 2, none⟩ = some (.int .i64 r2) := by rw [← hv4]; simp [go_sem]
    have o3 : v4.cell? ⟨v3.heap.size, 3, none⟩ = some (.int .i64 r3) := by rw [← hv4]; simp [go_sem]
    have q24 : Q v2 v4 := q3.trans q4
    replace p0 := q24.cell p0
    replace p1 := q24.cell p1
    replace p2 := q24.cell p2
    replace p3 := q24.cell p3
    have Q14 : Hid (Q x2 v4) := Q12.out.trans q24
    obtain ⟨VW, hVW⟩ : ∃ VW, v3.heap.size = VW := ⟨_, rfl⟩
    rw [hVW] at o0 o1 o2 o3
    obtain ⟨y0, y1, y2⟩ := id (IB6.out.next Q14.out)
    obtain ⟨z0, z1, z2⟩ := id (IB7.out.next Q14.out)
    obtain ⟨m0, m1, m2⟩ := id ((Bp.out.next HQX.out).next Q14.out)
    obtain ⟨l0, l1, l2⟩ := id ((Bq.out.next HQX.out).next Q14.out)
    have n0 := qw_some v4
    have dp0 := qw_cell p0
    have dp1 := qw_cell p1
    have dp2 := qw_cell p2
    have dp3 := qw_cell p3
    have do0 := qw_cell o0
    have do1 := qw_cell o1
    have do2 := qw_cell o2
    have do3 := qw_cell o3
    have dy0 := qw_cell y0
    have dy1 := qw_cell y1
    have dy2 := qw_cell y2
    have dz0 := qw_cell z0
    have dz1 := qw_cell z1
    have dz2 := qw_cell z2
    have dm0 := qw_cell m0
    have dm1 := qw_cell m1
    have dm2 := qw_cell m2
    have dl0 := qw_cell l0
    have dl1 := qw_cell l1
    have dl2 := qw_cell l2
    obtain ⟨eq1, heq1⟩ : ∃ eq1, eqB W H S W2 H2 S2 = eq1 := ⟨_, rfl⟩
    have EF1 : EqF W H g n W2 H2 g2 n2 eq1 W2 H2 (.slice (some ⟨g2, 0, none⟩) n2 (n2 + 5)) eq1 := Or.inl ⟨rfl, rfl, rfl, rfl⟩
    have EF2 : EqF W H g n W2 H2 g2 n2 eq1 W H (.slice (some ⟨g, 0, none⟩) n (n + 5)) true := Or.inr ⟨rfl, rfl, rfl, rfl⟩
    have EQ : Hid (∀ (nn : QW v4) (W' H' : Int) (v' : Value) (B : Bool), EqF W H g n W2 H2 g2 n2 eq1 W' H' v' B → Calls Try.prog 38 #[.agg #[.int .i64 W, .int .i64 H, .slice (some ⟨g, 0, none⟩) n (n + 5)], .agg #[.int .i64 W', .int .i64 H', v']] nn.x fun e w' => e = .returned (.bool B) ∧ Q nn.x w') := fun nn W' H' v' B h => eqf_any (UA.out.next (Q14.out.trans nn.q)) (UB.out.next (Q14.out.trans nn.q)) (by rw [HN.out]; omega) (by rw [HN2.out]; omega) heq1 h
    have ER : Hid (∀ nn : QW v4, Calls Try.prog 39 #[.agg #[.int .i64 W, .int .i64 H, .slice a n cap], .agg #[.int .i64 W2, .int .i64 H2, .slice a2 n2 cap2]] nn.x fun e w' => e = .returned (.bool eq1) ∧ Q nn.x w') := by
      intro nn
      have := requal_any W H _ S W2 H2 _ S2 nn.x (HS.out.next (QT.out.trans (Q14.out.trans nn.q))) (HS2.out.next (QT.out.trans (Q14.out.trans nn.q))) (by rw [HN.out]; omega) (by rw [HN2.out]; omega)
      rw [heq1] at this
      exact this
    have RH : Hid (∀ nn : QW v4, Calls Try.prog 21 #[.pointer (some ⟨kb, 0, none⟩)] nn.x fun e w' => e = .returned (.bool true) ∧ Q nn.x w') := fun nn => room_hold _ nn.x kb (HRX.out.next (Q14.out.trans nn.q)) (by simp) (fun x hx => by
      rcases List.mem_cons.1 hx with rfl | hx
      · show (lentL S).length ≤ _
        rw [lentL_length, HN.out]; omega
      · rw [List.mem_singleton] at hx
        subst hx
        show (lentL S2).length ≤ _
        rw [lentL_length, HN2.out]; omega)
    have ee1 : (eq1 == eq1) = true := by simp
    have ee2 : (ok == ok) = true := by simp
    clear heq1 q3 q4 q24 s0 s1 s2 t0 t1 t2 p0 p1 p2 p3 o0 o1 o2 o3 y0 y1 y2 z0 z1 z2 m0 m1 m2 l0 l1 l2
    go_wp2_with fail
    clear hv4 hVW
    refine wp_region_quiet_Q (by kernel_rfl) (by kernel_rfl) ?_
    repeat (first | go_big_quiet_step (first | (go_at_call 38; exact calls_qw (EQ.out _ _ _ _ _ (by assumption))) | (go_at_call 39; exact calls_qw (ER.out _)) | (go_at_call 21; exact calls_qw (RH.out _))) | quiet_step (first | (go_at_call 38; exact calls_qw (EQ.out _ _ _ _ _ (by assumption))) | (go_at_call 39; exact calls_qw (ER.out _)) | (go_at_call 21; exact calls_qw (RH.out _))))
    refine wpQuiet_nil ?_
    intro v5 hw'
    have q5 := qw_out hw'
    have QE : Hid (Q w v5) := (QT.out.trans Q14.out).trans q5
    clear hw' n0 EQ ER RH
    go_wp2_with fail
    go_ret
    exact ⟨rfl, QE.out⟩
end Go.Proofs.Ytkgfohodahkmmaa

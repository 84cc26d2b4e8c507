/- mix: two pictures held against one another. (gen_mxf.py) -/
import Derived.Test.YtkgojnjlfkijiaaGreatG8dc64662
import Derived.Test.YtkgojnjlfkijiaaGreatG72e06c17
import Derived.Test.YtkgojnjlfkijiaaGreatG8798713d
namespace Go.Proofs.YtkgojnjlfkijiaaGreat
open Go.RowKit
set_option linter.unusedVariables false
set_option linter.unusedSimpArgs false

theorem mboth_good {w : World} {g o a b n cap g' o' a' b' n' cap' : Nat} {L L' : List PL} (h : Pc w g o a b L) (hn : L.length = n) (hcap : n ≤ cap) (h' : Pc w g' o' a' b' L') (hn' : L'.length = n') (hcap' : n' ≤ cap') {sp sp' : Int} (hsp : spcB sp n = true) (hsp' : spcB sp' n' = true) :
    Calls Tryz.prog 42 #[.agg #[.int .i64 sp, .slice (some ⟨g, o, none⟩) n cap], .agg #[.int .i64 sp', .slice (some ⟨g', o', none⟩) n' cap']] w fun e w' => e = .returned (.int .i64 0) ∧ Q w w' := by
  have qa : Hid (∀ a b c d, Q w ((w.alloc (.cells a b)).alloc (.cells c d))) := fun a b c d => ((Q.refl w).cells _ _).cells _ _
  have H1 : Hid (∀ x, Q w x → Calls Tryz.prog 71 #[.agg #[.int .i64 sp, .slice (some ⟨g, o, none⟩) n cap]] x fun e w' => e = .returned (.int .i64 0) ∧ Q x w') := fun x hx => pcheck_good (h.next hx) hn hcap hsp
  have H2 : Hid (∀ x, Q w x → Calls Tryz.prog 71 #[.agg #[.int .i64 sp', .slice (some ⟨g', o', none⟩) n' cap']] x fun e w' => e = .returned (.int .i64 0) ∧ Q x w') := fun x hx => pcheck_good (h'.next hx) hn' hcap' hsp'
  clear h hn h' hn' hsp hsp'
  go_enter Tryz.func42, Tryz.ntmps42
  go_wp2_with fail
  refine (H1.out _ (qa.out _ _ _ _)).mono ?_
  rintro e w1 ⟨rfl, q1⟩
  have p0 : w1.cell? ⟨w.heap.size + 1, 0, none⟩ = some (.int .i64 sp') := q1.cell (by simp [go_sem])
  have p1 : w1.cell? ⟨w.heap.size + 1, 1, none⟩ = some (.slice (some ⟨g', o', none⟩) n' cap') := q1.cell (by simp [go_sem])
  have HQ : Hid (Q w w1) := (qa.out _ _ _ _).trans q1
  clear q1
  go_wp2_with fail
  refine (H2.out _ HQ.out).mono ?_
  rintro e w2 ⟨rfl, q2⟩
  go_wp2_with fail
  go_ret
  exact ⟨rfl, HQ.out.trans q2⟩
set_option maxHeartbeats 1000000 in
theorem hasalpha_any (sp : Int) (ad : Option Addr) (n c : Nat) (w : World) : Calls Tryz.prog 43 #[.agg #[.int .i64 sp, .slice ad n c]] w fun e w' => e = .returned (.bool (decide (3 < n))) ∧ Q w w' := by
  have q0 : Hid (∀ c t, Q w (w.alloc (.cells c t))) := fun c t => (Q.refl w).cells c t
  by_cases h : (3 : Int) < (n : Int)
  · have e : decide (3 < n) = true := decide_eq_true (by omega)
    rw [e]
    go_enter Tryz.func43, Tryz.ntmps43
    go_wp2_with fail
    go_ret
    exact ⟨rfl, q0.out _ _⟩
  · have e : decide (3 < n) = false := decide_eq_false (by omega)
    rw [e]
    go_enter Tryz.func43, Tryz.ntmps43
    go_wp2_with fail
    go_ret
    exact ⟨rfl, q0.out _ _⟩
/-- A box of a plane, still empty; one that was laid into. -/
structure Zb (x : World) (R : Nat) : Prop where
  c0 : x.cell? ⟨R, 0, none⟩ = some (.int .i64 0)
  c1 : x.cell? ⟨R, 1, none⟩ = some (.int .i64 0)
  c2 : x.cell? ⟨R, 2, none⟩ = some (.slice none 0 0)
  fr : ∀ j, x.frozen? ⟨R, j, none⟩ = false
structure Pb (x : World) (R a b : Nat) (v : Value) : Prop where
  c0 : x.cell? ⟨R, 0, none⟩ = some (.int .i64 (a : Int))
  c1 : x.cell? ⟨R, 1, none⟩ = some (.int .i64 (b : Int))
  c2 : x.cell? ⟨R, 2, none⟩ = some v
theorem zb_new {w y : World} (hy : w.alloc (.cells #[.int .i64 0, .int .i64 0, .slice none 0 0] 52) = y) : Zb y w.heap.size := by
  rw [← hy]
  exact ⟨by simp [go_sem], by simp [go_sem], by simp [go_sem], fun j => by simp [go_sem]⟩
theorem Zb.lt {x : World} {R : Nat} (h : Zb x R) : R < x.heap.size := cell_in h.c0
theorem Pb.lt {x : World} {R a b : Nat} {v : Value} (h : Pb x R a b v) : R < x.heap.size := cell_in h.c0
theorem Zb.next {x y : World} {R : Nat} (h : Zb x R) (q : Q x y) : Zb y R := ⟨q.cell h.c0, q.cell h.c1, q.cell h.c2, fun j => (q.2 _).trans (h.fr j)⟩
theorem Pb.next {x y : World} {R a b : Nat} {v : Value} (h : Pb x R a b v) (q : Q x y) : Pb y R a b v := ⟨q.cell h.c0, q.cell h.c1, q.cell h.c2⟩
theorem Zb.keep2 {x y : World} {R : Nat} (h : Zb x R) {c : Array Value} {t : TypeId} (hy : x.alloc (.cells c t) = y) : Zb y R := by rw [← hy]; exact h.next ((Q.refl x).cells _ _)
theorem Pb.keep2 {x y : World} {R a b : Nat} {v : Value} (h : Pb x R a b v) {c : Array Value} {t : TypeId} (hy : x.alloc (.cells c t) = y) : Pb y R a b v := by rw [← hy]; exact h.next ((Q.refl x).cells _ _)
theorem fr3 {x y : World} {S : Nat} {u v z : Value} (hy : ((x.setCell ⟨S, 0, none⟩ u).setCell ⟨S, 1, none⟩ v).setCell ⟨S, 2, none⟩ z = y) : Fr x y (fun b => b ≠ S) := by
  rw [← hy]
  exact (((Fr.refl x _).set (fun h => h rfl) _).set (fun h => h rfl) _).set (fun h => h rfl) _
theorem Zb.keep3 {x y : World} {R S : Nat} {u v z : Value} (h : Zb x R) (hn : R ≠ S) (hy : ((x.setCell ⟨S, 0, none⟩ u).setCell ⟨S, 1, none⟩ v).setCell ⟨S, 2, none⟩ z = y) : Zb y R :=
  ⟨(fr3 hy).cell h.c0 hn, (fr3 hy).cell h.c1 hn, (fr3 hy).cell h.c2 hn, fun j => ((fr3 hy).frz _).trans (h.fr j)⟩
theorem Pb.keep3 {x y : World} {R S a b : Nat} {t : Value} {u v z : Value} (h : Pb x R a b t) (hn : R ≠ S) (hy : ((x.setCell ⟨S, 0, none⟩ u).setCell ⟨S, 1, none⟩ v).setCell ⟨S, 2, none⟩ z = y) : Pb y R a b t :=
  ⟨(fr3 hy).cell h.c0 hn, (fr3 hy).cell h.c1 hn, (fr3 hy).cell h.c2 hn⟩
theorem Zb.put {x y : World} {R a b : Nat} {z : Value} (h : Zb x R) (hy : ((x.setCell ⟨R, 0, none⟩ (.int .i64 (a : Int))).setCell ⟨R, 1, none⟩ (.int .i64 (b : Int))).setCell ⟨R, 2, none⟩ z = y) : Pb y R a b z := by
  have e0 := h.c0
  have e1 := h.c1
  have e2 := h.c2
  exact ⟨by rw [← hy]; simp [go_sem, e0, e1, e2], by rw [← hy]; simp [go_sem, e0, e1, e2], by rw [← hy]; simp [go_sem, e0, e1, e2]⟩
theorem ret_i {a b : Int} (h : a = b) : Ending.returned (.int .i64 a) = .returned (.int .i64 b) := by rw [h]
def unlE (sp sp' : Int) (n n' a a' b b' : Nat) : Int := if sp = sp' then (if n = n' then (if a = a' then (if b = b' then 0 else 80) else 80) else 80) else 81
set_option maxHeartbeats 8000000 in
set_option maxRecDepth 100000 in
theorem unlike_good {w : World} {g o a b n cap g' o' a' b' n' cap' : Nat} {L L' : List PL} (h : Pc w g o a b L) (hn : L.length = n) (h' : Pc w g' o' a' b' L') (hn' : L'.length = n') (sp sp' : Int) :
    Calls Tryz.prog 44 #[.agg #[.int .i64 sp, .slice (some ⟨g, o, none⟩) n cap], .agg #[.int .i64 sp', .slice (some ⟨g', o', none⟩) n' cap']] w fun e w' => e = .returned (.int .i64 (unlE sp sp' n n' a a' b b')) ∧ Q w w' := by
  obtain ⟨E, hE⟩ : ∃ E, unlE sp sp' n n' a a' b b' = E := ⟨_, rfl⟩
  rw [hE]
  have HE : Hid (unlE sp sp' n n' a a' b b' = E) := hE
  clear hE
  have n1 : 1 ≤ n := by rw [← hn]; exact h.n1
  have n1' : 1 ≤ n' := by rw [← hn']; exact h'.n1
  obtain ⟨x, hx⟩ : ∃ x, L[0]? = some x := ⟨_, List.getElem?_eq_getElem (by omega)⟩
  obtain ⟨y, hy⟩ : ∃ y, L'[0]? = some y := ⟨_, List.getElem?_eq_getElem (by omega)⟩
  obtain ⟨d0, d1, d2⟩ := h.row 0 x hx
  obtain ⟨e0, e1, e2⟩ := h'.row 0 y hy
  rw [Nat.zero_mul, Nat.add_zero] at d0 d1 d2 e0 e1 e2
  unfold PL.v at d2 e2
  have i1 : 0 < n := by omega
  have i2 : 0 < n' := by omega
  obtain ⟨w1, hw1⟩ : ∃ w1, (w.alloc (.cells #[.int .i64 sp, .slice (some ⟨g, o, none⟩) n cap] 33)).alloc (.cells #[.int .i64 sp', .slice (some ⟨g', o', none⟩) n' cap'] 33) = w1 := ⟨_, rfl⟩
  have H1 : Hid (Q w w1) := by show Q w w1; rw [← hw1]; exact ((Q.refl w).cells _ _).cells _ _
  have k0 : w1.cell? ⟨w.heap.size, 0, none⟩ = some (.int .i64 sp) := by rw [← hw1]; simp [go_sem]
  have k1 : w1.cell? ⟨w.heap.size, 1, none⟩ = some (.slice (some ⟨g, o, none⟩) n cap) := by rw [← hw1]; simp [go_sem]
  have l0 : w1.cell? ⟨w.heap.size + 1, 0, none⟩ = some (.int .i64 sp') := by rw [← hw1]; simp [go_sem]
  have l1 : w1.cell? ⟨w.heap.size + 1, 1, none⟩ = some (.slice (some ⟨g', o', none⟩) n' cap') := by rw [← hw1]; simp [go_sem]
  have HK : Hid (w1.cell? ⟨w.heap.size, 0, none⟩ = some (.int .i64 sp) ∧ w1.cell? ⟨w.heap.size, 1, none⟩ = some (.slice (some ⟨g, o, none⟩) n cap) ∧ w1.cell? ⟨w.heap.size + 1, 0, none⟩ = some (.int .i64 sp') ∧ w1.cell? ⟨w.heap.size + 1, 1, none⟩ = some (.slice (some ⟨g', o', none⟩) n' cap')) := ⟨k0, k1, l0, l1⟩
  have n0 := qw_some w1
  have f1 := qw_cell k1
  have f2 := qw_cell l1
  have f3 := qw_cell (H1.out.cell d0)
  have f4 := qw_cell (H1.out.cell d1)
  have f5 := qw_cell (H1.out.cell d2)
  have f6 := qw_cell (H1.out.cell e0)
  have f7 := qw_cell (H1.out.cell e1)
  have f8 := qw_cell (H1.out.cell e2)
  clear h hn h' hn' hx hy d0 d1 d2 e0 e1 e2 k0 k1 l0 l1
  go_enter Tryz.func44, Tryz.ntmps44
  go_wp2_with fail
  clear hw1
  refine wp_region_mk [0, 1, 2, 3, 4, 5, 6, 7] [[8, 9, 10, 11], [9, 8, 10, 11], [8, 10, 9, 11]] 4 _ (by kernel_rfl) (by kernel_rfl) rfl (by kernel_rfl) ?_
  simp only [List.filterMap_cons, List.filterMap_nil, List.getElem?_cons_zero, List.getElem?_cons_succ]
  repeat (first | go_big_quiet_step (fail) | quiet_step (fail))
  refine wpQuiet_nil ?_
  intro x0 q0
  clear f1 f2 f3 f4 f5 f6 f7 f8 n0
  refine treeB2 8 9 (by decide) rfl rfl ?_ ?_
  · skip
    obtain ⟨x1, hx1⟩ : ∃ X, x0.alloc (.cells #[.int .i64 0, .int .i64 0, .slice none 0 0] 52) = X := ⟨_, rfl⟩
    have zx1 := zb_new hx1
    have q1 : Q w1 x1 := by rw [← hx1]; exact q0.cells _ _
    refine doesB_value (v := .pointer (some ⟨x0.heap.size, 0, none⟩)) (x' := x1) (by simp [execOp, go_sem, hx1]) ⟨fun _ => q1, ?_⟩
    refine treeB2 9 10 (by decide) rfl rfl ?_ ?_
    · skip
      obtain ⟨x2, hx2⟩ : ∃ X, x1.alloc (.cells #[.int .i64 0, .int .i64 0, .slice none 0 0] 52) = X := ⟨_, rfl⟩
      have zx2 := zb_new hx2
      have q2 : Q w1 x2 := by rw [← hx2]; exact q1.cells _ _
      refine doesB_value (v := .pointer (some ⟨x1.heap.size, 0, none⟩)) (x' := x2) (by simp [execOp, go_sem, hx2]) ⟨fun _ => q2, ?_⟩
      have zA := zx1.keep2 hx2
      refine treeB1 10 (by decide) rfl ?_
      obtain ⟨x3, hx3⟩ : ∃ X, ((x2.setCell ⟨x0.heap.size, 0, none⟩ (.int .i64 (a : Int))).setCell ⟨x0.heap.size, 1, none⟩ (.int .i64 (b : Int))).setCell ⟨x0.heap.size, 2, none⟩ (.slice (some ⟨x.g, x.o, none⟩) x.S.length x.cap) = X := ⟨_, rfl⟩
      have a0x3 := zA.c0
      have a1x3 := zA.c1
      have a2x3 := zA.c2
      have b0x3 := zA.fr 0
      have b1x3 := zA.fr 1
      have b2x3 := zA.fr 2
      have px3 := zA.put hx3
      have q3 : Q w1 x3 := by rw [← hx3]; exact ((q2.set (by show w1.heap.size ≤ x0.heap.size; exact q0.1.size) _).set (by show w1.heap.size ≤ x0.heap.size; exact q0.1.size) _).set (by show w1.heap.size ≤ x0.heap.size; exact q0.1.size) _
      refine doesB_skip (x' := x3) (by simp [execOp, go_sem, Act.eval, Act.put, a0x3, a1x3, a2x3, b0x3, b1x3, b2x3, hx3]) ⟨fun _ => q3, ?_⟩
      have zB := zx2.keep3 (show x1.heap.size ≠ x0.heap.size by have := zx1.lt; omega) hx3
      refine treeB1 11 (by decide) rfl ?_
      obtain ⟨x4, hx4⟩ : ∃ X, ((x3.setCell ⟨x1.heap.size, 0, none⟩ (.int .i64 (a' : Int))).setCell ⟨x1.heap.size, 1, none⟩ (.int .i64 (b' : Int))).setCell ⟨x1.heap.size, 2, none⟩ (.slice (some ⟨y.g, y.o, none⟩) y.S.length y.cap) = X := ⟨_, rfl⟩
      have a0x4 := zB.c0
      have a1x4 := zB.c1
      have a2x4 := zB.c2
      have b0x4 := zB.fr 0
      have b1x4 := zB.fr 1
      have b2x4 := zB.fr 2
      have px4 := zB.put hx4
      have q4 : Q w1 x4 := by rw [← hx4]; exact ((q3.set (by show w1.heap.size ≤ x1.heap.size; exact q1.1.size) _).set (by show w1.heap.size ≤ x1.heap.size; exact q1.1.size) _).set (by show w1.heap.size ≤ x1.heap.size; exact q1.1.size) _
      refine doesB_skip (x' := x4) (by simp [execOp, go_sem, Act.eval, Act.put, a0x4, a1x4, a2x4, b0x4, b1x4, b2x4, hx4]) ⟨fun _ => q4, ?_⟩
      have pA := px3.keep3 (show x0.heap.size ≠ x1.heap.size by have := zx1.lt; omega) hx4
      refine tree_nil ?_
      have c0 := pA.c0
      have c1 := pA.c1
      have c2 := px4.c0
      have c3 := px4.c1
      have s0 := q4.cell HK.out.1
      have s1 := q4.cell HK.out.2.1
      have s2 := q4.cell HK.out.2.2.1
      have s3 := q4.cell HK.out.2.2.2
      have HQ : Hid (Q w x4) := H1.out.trans q4
      by_cases hs : sp = sp'
      · subst hs
        by_cases hn : n = n'
        · subst hn
          by_cases ha : a = a'
          · subst ha
            by_cases hb : b = b'
            · subst hb
              go_wp2_with fail
              go_ret
              exact ⟨ret_i (by rw [← HE.out]; unfold unlE; rw [if_pos rfl, if_pos rfl, if_pos rfl, if_pos rfl]), HQ.out⟩
            · skip
              have hb2 : ((b : Int) != (b' : Int)) = true := by rw [bne_iff_ne]; omega
              have hb3 : ((b : Int) == (b' : Int)) = false := by rw [beq_eq_false_iff_ne]; omega
              go_wp2_with fail
              go_ret
              exact ⟨ret_i (by rw [← HE.out]; unfold unlE; rw [if_pos rfl, if_pos rfl, if_pos rfl, if_neg hb]), HQ.out⟩
          · skip
            have ha2 : ((a : Int) != (a' : Int)) = true := by rw [bne_iff_ne]; omega
            have ha3 : ((a : Int) == (a' : Int)) = false := by rw [beq_eq_false_iff_ne]; omega
            go_wp2_with fail
            go_ret
            exact ⟨ret_i (by rw [← HE.out]; unfold unlE; rw [if_pos rfl, if_pos rfl, if_neg ha]), HQ.out⟩
        · skip
          have hn2 : ((n : Int) != (n' : Int)) = true := by rw [bne_iff_ne]; omega
          have hn3 : ((n : Int) == (n' : Int)) = false := by rw [beq_eq_false_iff_ne]; omega
          go_wp2_with fail
          go_ret
          exact ⟨ret_i (by rw [← HE.out]; unfold unlE; rw [if_pos rfl, if_neg hn]), HQ.out⟩
      · skip
        have hs2 : (sp != sp') = true := by rw [bne_iff_ne]; exact hs
        have hs3 : (sp == sp') = false := by rw [beq_eq_false_iff_ne]; exact hs
        go_wp2_with fail
        go_ret
        exact ⟨ret_i (by rw [← HE.out]; unfold unlE; rw [if_neg hs]), HQ.out⟩
    · skip
      obtain ⟨x3, hx3⟩ : ∃ X, ((x1.setCell ⟨x0.heap.size, 0, none⟩ (.int .i64 (a : Int))).setCell ⟨x0.heap.size, 1, none⟩ (.int .i64 (b : Int))).setCell ⟨x0.heap.size, 2, none⟩ (.slice (some ⟨x.g, x.o, none⟩) x.S.length x.cap) = X := ⟨_, rfl⟩
      have a0x3 := zx1.c0
      have a1x3 := zx1.c1
      have a2x3 := zx1.c2
      have b0x3 := zx1.fr 0
      have b1x3 := zx1.fr 1
      have b2x3 := zx1.fr 2
      have px3 := zx1.put hx3
      have q3 : Q w1 x3 := by rw [← hx3]; exact ((q1.set (by show w1.heap.size ≤ x0.heap.size; exact q0.1.size) _).set (by show w1.heap.size ≤ x0.heap.size; exact q0.1.size) _).set (by show w1.heap.size ≤ x0.heap.size; exact q0.1.size) _
      refine doesB_skip (x' := x3) (by simp [execOp, go_sem, Act.eval, Act.put, a0x3, a1x3, a2x3, b0x3, b1x3, b2x3, hx3]) ⟨fun _ => q3, ?_⟩
      refine treeB1 9 (by decide) rfl ?_
      obtain ⟨x5, hx5⟩ : ∃ X, x3.alloc (.cells #[.int .i64 0, .int .i64 0, .slice none 0 0] 52) = X := ⟨_, rfl⟩
      have zx5 := zb_new hx5
      have q5 : Q w1 x5 := by rw [← hx5]; exact q3.cells _ _
      refine doesB_value (v := .pointer (some ⟨x3.heap.size, 0, none⟩)) (x' := x5) (by simp [execOp, go_sem, hx5]) ⟨fun _ => q5, ?_⟩
      have pA := px3.keep2 hx5
      refine treeB1 11 (by decide) rfl ?_
      obtain ⟨x6, hx6⟩ : ∃ X, ((x5.setCell ⟨x3.heap.size, 0, none⟩ (.int .i64 (a' : Int))).setCell ⟨x3.heap.size, 1, none⟩ (.int .i64 (b' : Int))).setCell ⟨x3.heap.size, 2, none⟩ (.slice (some ⟨y.g, y.o, none⟩) y.S.length y.cap) = X := ⟨_, rfl⟩
      have a0x6 := zx5.c0
      have a1x6 := zx5.c1
      have a2x6 := zx5.c2
      have b0x6 := zx5.fr 0
      have b1x6 := zx5.fr 1
      have b2x6 := zx5.fr 2
      have px6 := zx5.put hx6
      have q6 : Q w1 x6 := by rw [← hx6]; exact ((q5.set (by show w1.heap.size ≤ x3.heap.size; exact q3.1.size) _).set (by show w1.heap.size ≤ x3.heap.size; exact q3.1.size) _).set (by show w1.heap.size ≤ x3.heap.size; exact q3.1.size) _
      refine doesB_skip (x' := x6) (by simp [execOp, go_sem, Act.eval, Act.put, a0x6, a1x6, a2x6, b0x6, b1x6, b2x6, hx6]) ⟨fun _ => q6, ?_⟩
      have pA2 := pA.keep3 (show x0.heap.size ≠ x3.heap.size by have := px3.lt; omega) hx6
      refine tree_nil ?_
      have c0 := pA2.c0
      have c1 := pA2.c1
      have c2 := px6.c0
      have c3 := px6.c1
      have s0 := q6.cell HK.out.1
      have s1 := q6.cell HK.out.2.1
      have s2 := q6.cell HK.out.2.2.1
      have s3 := q6.cell HK.out.2.2.2
      have HQ : Hid (Q w x6) := H1.out.trans q6
      by_cases hs : sp = sp'
      · subst hs
        by_cases hn : n = n'
        · subst hn
          by_cases ha : a = a'
          · subst ha
            by_cases hb : b = b'
            · subst hb
              go_wp2_with fail
              go_ret
              exact ⟨ret_i (by rw [← HE.out]; unfold unlE; rw [if_pos rfl, if_pos rfl, if_pos rfl, if_pos rfl]), HQ.out⟩
            · skip
              have hb2 : ((b : Int) != (b' : Int)) = true := by rw [bne_iff_ne]; omega
              have hb3 : ((b : Int) == (b' : Int)) = false := by rw [beq_eq_false_iff_ne]; omega
              go_wp2_with fail
              go_ret
              exact ⟨ret_i (by rw [← HE.out]; unfold unlE; rw [if_pos rfl, if_pos rfl, if_pos rfl, if_neg hb]), HQ.out⟩
          · skip
            have ha2 : ((a : Int) != (a' : Int)) = true := by rw [bne_iff_ne]; omega
            have ha3 : ((a : Int) == (a' : Int)) = false := by rw [beq_eq_false_iff_ne]; omega
            go_wp2_with fail
            go_ret
            exact ⟨ret_i (by rw [← HE.out]; unfold unlE; rw [if_pos rfl, if_pos rfl, if_neg ha]), HQ.out⟩
        · skip
          have hn2 : ((n : Int) != (n' : Int)) = true := by rw [bne_iff_ne]; omega
          have hn3 : ((n : Int) == (n' : Int)) = false := by rw [beq_eq_false_iff_ne]; omega
          go_wp2_with fail
          go_ret
          exact ⟨ret_i (by rw [← HE.out]; unfold unlE; rw [if_pos rfl, if_neg hn]), HQ.out⟩
      · skip
        have hs2 : (sp != sp') = true := by rw [bne_iff_ne]; exact hs
        have hs3 : (sp == sp') = false := by rw [beq_eq_false_iff_ne]; exact hs
        go_wp2_with fail
        go_ret
        exact ⟨ret_i (by rw [← HE.out]; unfold unlE; rw [if_neg hs]), HQ.out⟩
  · skip
    obtain ⟨x1, hx1⟩ : ∃ X, x0.alloc (.cells #[.int .i64 0, .int .i64 0, .slice none 0 0] 52) = X := ⟨_, rfl⟩
    have zx1 := zb_new hx1
    have q1 : Q w1 x1 := by rw [← hx1]; exact q0.cells _ _
    refine doesB_value (v := .pointer (some ⟨x0.heap.size, 0, none⟩)) (x' := x1) (by simp [execOp, go_sem, hx1]) ⟨fun _ => q1, ?_⟩
    refine treeB1 8 (by decide) rfl ?_
    obtain ⟨x2, hx2⟩ : ∃ X, x1.alloc (.cells #[.int .i64 0, .int .i64 0, .slice none 0 0] 52) = X := ⟨_, rfl⟩
    have zx2 := zb_new hx2
    have q2 : Q w1 x2 := by rw [← hx2]; exact q1.cells _ _
    refine doesB_value (v := .pointer (some ⟨x1.heap.size, 0, none⟩)) (x' := x2) (by simp [execOp, go_sem, hx2]) ⟨fun _ => q2, ?_⟩
    have zB := zx1.keep2 hx2
    refine treeB1 10 (by decide) rfl ?_
    obtain ⟨x3, hx3⟩ : ∃ X, ((x2.setCell ⟨x1.heap.size, 0, none⟩ (.int .i64 (a : Int))).setCell ⟨x1.heap.size, 1, none⟩ (.int .i64 (b : Int))).setCell ⟨x1.heap.size, 2, none⟩ (.slice (some ⟨x.g, x.o, none⟩) x.S.length x.cap) = X := ⟨_, rfl⟩
    have a0x3 := zx2.c0
    have a1x3 := zx2.c1
    have a2x3 := zx2.c2
    have b0x3 := zx2.fr 0
    have b1x3 := zx2.fr 1
    have b2x3 := zx2.fr 2
    have px3 := zx2.put hx3
    have q3 : Q w1 x3 := by rw [← hx3]; exact ((q2.set (by show w1.heap.size ≤ x1.heap.size; exact q1.1.size) _).set (by show w1.heap.size ≤ x1.heap.size; exact q1.1.size) _).set (by show w1.heap.size ≤ x1.heap.size; exact q1.1.size) _
    refine doesB_skip (x' := x3) (by simp [execOp, go_sem, Act.eval, Act.put, a0x3, a1x3, a2x3, b0x3, b1x3, b2x3, hx3]) ⟨fun _ => q3, ?_⟩
    have zB2 := zB.keep3 (show x0.heap.size ≠ x1.heap.size by have := zx1.lt; omega) hx3
    refine treeB1 11 (by decide) rfl ?_
    obtain ⟨x4, hx4⟩ : ∃ X, ((x3.setCell ⟨x0.heap.size, 0, none⟩ (.int .i64 (a' : Int))).setCell ⟨x0.heap.size, 1, none⟩ (.int .i64 (b' : Int))).setCell ⟨x0.heap.size, 2, none⟩ (.slice (some ⟨y.g, y.o, none⟩) y.S.length y.cap) = X := ⟨_, rfl⟩
    have a0x4 := zB2.c0
    have a1x4 := zB2.c1
    have a2x4 := zB2.c2
    have b0x4 := zB2.fr 0
    have b1x4 := zB2.fr 1
    have b2x4 := zB2.fr 2
    have px4 := zB2.put hx4
    have q4 : Q w1 x4 := by rw [← hx4]; exact ((q3.set (by show w1.heap.size ≤ x0.heap.size; exact q0.1.size) _).set (by show w1.heap.size ≤ x0.heap.size; exact q0.1.size) _).set (by show w1.heap.size ≤ x0.heap.size; exact q0.1.size) _
    refine doesB_skip (x' := x4) (by simp [execOp, go_sem, Act.eval, Act.put, a0x4, a1x4, a2x4, b0x4, b1x4, b2x4, hx4]) ⟨fun _ => q4, ?_⟩
    have pA := px3.keep3 (show x1.heap.size ≠ x0.heap.size by have := zx1.lt; omega) hx4
    refine tree_nil ?_
    have c0 := pA.c0
    have c1 := pA.c1
    have c2 := px4.c0
    have c3 := px4.c1
    have s0 := q4.cell HK.out.1
    have s1 := q4.cell HK.out.2.1
    have s2 := q4.cell HK.out.2.2.1
    have s3 := q4.cell HK.out.2.2.2
    have HQ : Hid (Q w x4) := H1.out.trans q4
    by_cases hs : sp = sp'
    · subst hs
      by_cases hn : n = n'
      · subst hn
        by_cases ha : a = a'
        · subst ha
          by_cases hb : b = b'
          · subst hb
            go_wp2_with fail
            go_ret
            exact ⟨ret_i (by rw [← HE.out]; unfold unlE; rw [if_pos rfl, if_pos rfl, if_pos rfl, if_pos rfl]), HQ.out⟩
          · skip
            have hb2 : ((b : Int) != (b' : Int)) = true := by rw [bne_iff_ne]; omega
            have hb3 : ((b : Int) == (b' : Int)) = false := by rw [beq_eq_false_iff_ne]; omega
            go_wp2_with fail
            go_ret
            exact ⟨ret_i (by rw [← HE.out]; unfold unlE; rw [if_pos rfl, if_pos rfl, if_pos rfl, if_neg hb]), HQ.out⟩
        · skip
          have ha2 : ((a : Int) != (a' : Int)) = true := by rw [bne_iff_ne]; omega
          have ha3 : ((a : Int) == (a' : Int)) = false := by rw [beq_eq_false_iff_ne]; omega
          go_wp2_with fail
          go_ret
          exact ⟨ret_i (by rw [← HE.out]; unfold unlE; rw [if_pos rfl, if_pos rfl, if_neg ha]), HQ.out⟩
      · skip
        have hn2 : ((n : Int) != (n' : Int)) = true := by rw [bne_iff_ne]; omega
        have hn3 : ((n : Int) == (n' : Int)) = false := by rw [beq_eq_false_iff_ne]; omega
        go_wp2_with fail
        go_ret
        exact ⟨ret_i (by rw [← HE.out]; unfold unlE; rw [if_pos rfl, if_neg hn]), HQ.out⟩
    · skip
      have hs2 : (sp != sp') = true := by rw [bne_iff_ne]; exact hs
      have hs3 : (sp == sp') = false := by rw [beq_eq_false_iff_ne]; exact hs
      go_wp2_with fail
      go_ret
      exact ⟨ret_i (by rw [← HE.out]; unfold unlE; rw [if_neg hs]), HQ.out⟩
end Go.Proofs.YtkgojnjlfkijiaaGreat
/- mix: what the functions that tell samples answer. -/
namespace Go.Proofs.YtkgojnjlfkijiaaGreat
open Go.RowKit
set_option linter.unusedVariables false
set_option linter.unusedSimpArgs false

/-- A sample of a list of planes. -/
def pix (l : List (List Nat)) (p j : Nat) : Nat := (l.getD p []).getD j 0
theorem pix_at {L : List PL} {p j : Nat} {x : PL} (h : L[p]? = some x) : pix (L.map PL.S) p j = x.S.getD j 0 := by
  have : (L.map PL.S).getD p [] = x.S := by simp [List.getD_eq_getElem?_getD, h]
  show ((L.map PL.S).getD p []).getD j 0 = _
  rw [this]
theorem pix_lt {w : World} {g o a b : Nat} {L : List PL} (h : Pc w g o a b L) (p j : Nat) : pix (L.map PL.S) p j < 4294967296 := by
  cases hx : L[p]? with
  | none =>
    have : (L.map PL.S).getD p [] = [] := by simp [List.getD_eq_getElem?_getD, hx]
    show ((L.map PL.S).getD p []).getD j 0 < _
    rw [this]
    simp
  | some x =>
    rw [pix_at hx]
    exact (h.it x (List.mem_of_getElem? hx)).lt j
/-- A picture's sample in memory. -/
theorem Pc.pix {w : World} {g o a b m : Nat} {L : List PL} (h : Pc w g o a b L) (hm : a * b = m) {p j : Nat} (hp : p < L.length) (hj : j < m) :
    ∃ gx ox cx v, w.cell? ⟨g, o + p * 3 + 2, none⟩ = some (.slice (some ⟨gx, ox, none⟩) m cx) ∧ w.cell? ⟨gx, ox + j, none⟩ = some (.int .u32 (v : Nat)) ∧ v = Proofs.YtkgojnjlfkijiaaGreat.pix (L.map PL.S) p j ∧ v < 4294967296 := by
  obtain ⟨x, hx⟩ : ∃ x, L[p]? = some x := ⟨_, List.getElem?_eq_getElem hp⟩
  obtain ⟨_, _, d2⟩ := h.row p x hx
  have hg := h.it x (List.mem_of_getElem? hx)
  unfold PL.v at d2
  rw [hg.len, hm] at d2
  exact ⟨x.g, x.o, x.cap, x.S.getD j 0, d2, hg.us j (by rw [hg.len, hm]; exact hj), (pix_at hx).symm, hg.lt j⟩
set_option maxHeartbeats 4000000 in
set_option maxRecDepth 100000 in
theorem mix1_any (k : Nat) (h1 : 1 ≤ k) (h6 : k ≤ 6) {w : World} {W P1 P2 g o a b cap g' o' cap' m : Nat} {L L' : List PL} (hw0 : w.cell? ⟨W, 0, none⟩ = some (.int .i64 (k : Int))) (hw1 : w.cell? ⟨W, 1, none⟩ = some (.func (.func (wayFn k)) #[] #[])) (hp1 : w.cell? ⟨P1, 1, none⟩ = some (.slice (some ⟨g, o, none⟩) 4 cap)) (hp2 : w.cell? ⟨P2, 1, none⟩ = some (.slice (some ⟨g', o', none⟩) 4 cap'))
    (h : Pc w g o a b L) (hn : L.length = 4) (h' : Pc w g' o' a b L') (hn' : L'.length = 4) (hm : a * b = m) (x : World) (p j : Nat) (hx : Q w x) (hp : p < 4) (hj : j < m) :
    Calls Tryz.prog 46 #[.int .i64 (p : Int), .int .i64 (j : Int), .pointer (some ⟨W, 0, none⟩), .pointer (some ⟨P1, 0, none⟩), .pointer (some ⟨P2, 0, none⟩)] x fun e x' => e = .returned (.int .u32 (mxV k (pix (L.map PL.S) p j) (pix (L.map PL.S) 3 j) (pix (L'.map PL.S) p j) (pix (L'.map PL.S) 3 j) : Nat)) ∧ Q x x' := by
  obtain ⟨g1, o1, c1, v1, a1, b1, e1, l1⟩ := (h.next hx).pix hm (p := p) (by omega) hj
  obtain ⟨g2, o2, c2, v2, a2, b2, e2, l2⟩ := (h.next hx).pix hm (p := 3) (by omega) hj
  obtain ⟨g3, o3, c3, v3, a3, b3, e3, l3⟩ := (h'.next hx).pix hm (p := p) (by omega) hj
  obtain ⟨g4, o4, c4, v4, a4, b4, e4, l4⟩ := (h'.next hx).pix hm (p := 3) (by omega) hj
  rw [← e1, ← e2, ← e3, ← e4]
  have HC : Hid (∀ x, Calls Tryz.prog 28 #[.agg #[.int .i64 (k : Int), .func (.func (wayFn k)) #[] #[]], .int .u32 (v1 : Int), .int .u32 (v2 : Int), .int .u32 (v3 : Int), .int .u32 (v4 : Int)] x fun e w' => e = .returned (.int .u32 (mxV k v1 v2 v3 v4 : Nat)) ∧ Q x w') := fun x => wayone_any k h1 h6 v1 v2 v3 v4 l1 l2 l3 l4 x
  have n0 := qw_some x
  have f0 := qw_cell (hx.cell hw0)
  have f1 := qw_cell (hx.cell hw1)
  have f2 := qw_cell (hx.cell hp1)
  have f3 := qw_cell (hx.cell hp2)
  have f4 := qw_cell a1
  have f5 := qw_cell a2
  have f6 := qw_cell a3
  have f7 := qw_cell a4
  have f8 := qw_cell b1
  have f9 := qw_cell b2
  have f10 := qw_cell b3
  have f11 := qw_cell b4
  have i0 : (0 : Int) ≤ (p : Int) := by omega
  have i1 : (p : Int) < 4 := by omega
  have j0 : (0 : Int) ≤ (j : Int) := by omega
  have j1 : (j : Int) < (m : Int) := by omega
  clear h hn h' hn' hw0 hw1 hp1 hp2 a1 a2 a3 a4 b1 b2 b3 b4 e1 e2 e3 e4 hx hm
  generalize wayFn k = wf at *
  go_enter Tryz.func46, Tryz.ntmps46
  go_wp2_with fail
  refine wp_region_quiet_Q (by kernel_rfl) (by kernel_rfl) ?_
  repeat (first | go_big_quiet_step (first | (go_at_call 28; exact calls_qw (HC.out _))) | quiet_step (first | (go_at_call 28; exact calls_qw (HC.out _))))
  refine wpQuiet_nil ?_
  intro w4 hw'
  have hq4 := qw_out hw'
  clear hw' n0 f0 f1 f2 f3 f4 f5 f6 f7 f8 f9 f10 f11
  go_wp2_with fail
  go_ret
  exact ⟨rfl, hq4⟩
set_option maxHeartbeats 4000000 in
set_option maxRecDepth 100000 in
theorem between1_any (t : Nat) (ht : t < 4294967296) {w : World} {W P1 P2 g o a b cap g' o' cap' m n : Nat} {L L' : List PL} (hw0 : w.cell? ⟨W, 0, none⟩ = some (.int .u32 (t : Int))) (hp1 : w.cell? ⟨P1, 1, none⟩ = some (.slice (some ⟨g, o, none⟩) n cap)) (hp2 : w.cell? ⟨P2, 1, none⟩ = some (.slice (some ⟨g', o', none⟩) n cap'))
    (h : Pc w g o a b L) (hn : L.length = n) (h' : Pc w g' o' a b L') (hn' : L'.length = n) (hm : a * b = m) (x : World) (p j : Nat) (hx : Q w x) (hp : p < n) (hj : j < m) :
    Calls Tryz.prog 52 #[.int .i64 (p : Int), .int .i64 (j : Int), .pointer (some ⟨P1, 0, none⟩), .pointer (some ⟨P2, 0, none⟩), .pointer (some ⟨W, 0, none⟩)] x fun e x' => e = .returned (.int .u32 (mstV (pix (L.map PL.S) p j) (pix (L'.map PL.S) p j) t : Nat)) ∧ Q x x' := by
  obtain ⟨g1, o1, c1, v1, a1, b1, e1, l1⟩ := (h.next hx).pix hm (p := p) (by omega) hj
  obtain ⟨g3, o3, c3, v3, a3, b3, e3, l3⟩ := (h'.next hx).pix hm (p := p) (by omega) hj
  rw [← e1, ← e3]
  have HC : Hid (∀ x, Calls Tryz.prog 9 #[.int .u32 (v1 : Int), .int .u32 (v3 : Int), .int .u32 (t : Int)] x fun e w' => e = .returned (.int .u32 (mstV v1 v3 t : Nat)) ∧ Q x w') := fun x => mstep_any v1 v3 t l1 l3 ht x
  have n0 := qw_some x
  have f0 := qw_cell (hx.cell hw0)
  have f2 := qw_cell (hx.cell hp1)
  have f3 := qw_cell (hx.cell hp2)
  have f4 := qw_cell a1
  have f6 := qw_cell a3
  have f8 := qw_cell b1
  have f10 := qw_cell b3
  have i0 : (0 : Int) ≤ (p : Int) := by omega
  have i1 : (p : Int) < (n : Int) := by omega
  have j0 : (0 : Int) ≤ (j : Int) := by omega
  have j1 : (j : Int) < (m : Int) := by omega
  clear h hn h' hn' hw0 hp1 hp2 a1 a3 b1 b3 e1 e3 hx hm
  go_enter Tryz.func52, Tryz.ntmps52
  go_wp2_with fail
  refine wp_region_quiet_Q (by kernel_rfl) (by kernel_rfl) ?_
  repeat (first | go_big_quiet_step (first | (go_at_call 9; exact calls_qw (HC.out _))) | quiet_step (first | (go_at_call 9; exact calls_qw (HC.out _))))
  refine wpQuiet_nil ?_
  intro w4 hw'
  have hq4 := qw_out hw'
  clear hw' n0 f0 f2 f3 f4 f6 f8 f10
  go_wp2_with fail
  go_ret
  exact ⟨rfl, hq4⟩
/-- A function of two samples. -/
structure Fun2m (f : FuncId) (G : Nat → Nat → Nat) : Prop where
  en : ∀ (args : Array Value) (x : World), (callFunc f args).run Tryz.prog x = .ok (.enter f args) x
  c : ∀ (s t : Nat), s < 4294967296 → t < 4294967296 → ∀ x : World, Calls Tryz.prog f #[.int .u32 (s : Int), .int .u32 (t : Int)] x fun e x' => e = .returned (.int .u32 ((G s t : Nat) : Int)) ∧ Q x x'
  lt : ∀ (s t : Nat), s < 4294967296 → t < 4294967296 → G s t < 4294967296
def byaV (G : Nat → Nat → Nat) (l : List (List Nat)) (p j : Nat) : Nat := if p = 3 then pix l 3 j else G (pix l p j) (pix l 3 j)
set_option maxHeartbeats 4000000 in
set_option maxRecDepth 100000 in
theorem byalpha1_any {f : FuncId} {G : Nat → Nat → Nat} (hF : Fun2m f G) {w : World} {W P1 g o a b cap m : Nat} {L : List PL} (hw0 : w.cell? ⟨W, 0, none⟩ = some (.func (.func f) #[] #[])) (hp1 : w.cell? ⟨P1, 1, none⟩ = some (.slice (some ⟨g, o, none⟩) 4 cap))
    (h : Pc w g o a b L) (hn : L.length = 4) (hm : a * b = m) (x : World) (p j : Nat) (hx : Q w x) (hp : p < 4) (hj : j < m) :
    Calls Tryz.prog 77 #[.int .i64 (p : Int), .int .i64 (j : Int), .pointer (some ⟨P1, 0, none⟩), .pointer (some ⟨W, 0, none⟩)] x fun e x' => e = .returned (.int .u32 (byaV G (L.map PL.S) p j : Nat)) ∧ Q x x' := by
  obtain ⟨g1, o1, c1, v1, a1, b1, e1, l1⟩ := (h.next hx).pix hm (p := p) (by omega) hj
  obtain ⟨g2, o2, c2, v2, a2, b2, e2, l2⟩ := (h.next hx).pix hm (p := 3) (by omega) hj
  have HR : Hid (byaV G (L.map PL.S) p j = if p = 3 then v2 else G v1 v2) := by show _ = _; unfold byaV; rw [← e1, ← e2]
  have HC : Hid (∀ x, Calls Tryz.prog f #[.int .u32 (v1 : Int), .int .u32 (v2 : Int)] x fun e w' => e = .returned (.int .u32 (G v1 v2 : Nat)) ∧ Q x w') := fun x => hF.c v1 v2 l1 l2 x
  have en := hF.en
  have i0 : (0 : Int) ≤ (p : Int) := by omega
  have i1 : (p : Int) < 4 := by omega
  have j0 : (0 : Int) ≤ (j : Int) := by omega
  have j1 : (j : Int) < (m : Int) := by omega
  have hp1 := hx.cell hp1
  have hw0 := hx.cell hw0
  obtain ⟨R, hR⟩ : ∃ R, byaV G (L.map PL.S) p j = R := ⟨_, rfl⟩
  rw [hR] at HR ⊢
  clear h hn e1 e2 hx hm hF hR
  by_cases h3 : p = 3
  · subst h3
    have HR2 : Hid (R = v2) := by have := HR.out; rw [if_pos rfl] at this; exact this
    go_enter Tryz.func77, Tryz.ntmps77
    go_wp2_with fail
    go_ret
    exact ⟨ret_u HR2.out.symm, Q.refl _⟩
  · have h3' : ((p : Int) == 3) = false := by rw [beq_eq_false_iff_ne]; omega
    have HR2 : Hid (R = G v1 v2) := by have := HR.out; rw [if_neg h3] at this; exact this
    go_enter Tryz.func77, Tryz.ntmps77
    go_wp2_with fail
    have n0 := qw_some x
    have f0 := qw_cell hw0
    have f2 := qw_cell hp1
    have f4 := qw_cell a1
    have f8 := qw_cell b1
    refine wp_region_mk [0, 1, 2, 3, 4, 5, 6, 7, 8, 9, 10] [[11, 12]] 2 _ (by kernel_rfl) (by kernel_rfl) rfl (by kernel_rfl) ?_
    simp only [List.filterMap_cons, List.filterMap_nil, List.getElem?_cons_zero, List.getElem?_cons_succ]
    repeat (first | go_big_quiet_step (fail) | quiet_step (fail))
    refine wpQuiet_nil ?_
    intro x0 q0
    clear f0 f2 f4 f8 n0
    refine tree_call 11 rfl rfl (run_val 19 f #[] #[.tmp 28, .tmp 29] _ rfl (by simp [Act.eval, Act.put]) en (vs := #[.int .u32 (v1 : Int), .int .u32 (v2 : Int)]) (by simp [Act.eval, Act.put])) (calls_u (HC.out x0)) ?_
    rintro u x1 ⟨rfl, q1⟩
    replace q1 := q0.trans q1
    refine ⟨q1, ?_⟩
    refine tree_runF 12 rfl rfl rfl (v := .int .u32 (G v1 v2 : Nat)) (x' := x1) (by simp [execOp, go_sem]) ?_
    refine tree_nil ?_
    clear q0
    go_wp2_with fail
    go_ret
    exact ⟨ret_u HR2.out.symm, q1⟩
theorem mul_fun : Fun2m 51 (fun s t => toldD ((Ieee.single.read s).product (Ieee.single.read t))) where
  en := enters_of Tryz.func51 (by kernel_rfl) rfl
  lt := fun s t _ _ => toldD_lt _
  c := fun s t hs ht x => cmul_any s t x
end Go.Proofs.YtkgojnjlfkijiaaGreat
/- What is done to each sample: Map's loop, and a picture's planes one by one. -/
namespace Go.Proofs.YtkgojnjlfkijiaaGreat
open Go.RowKit
set_option linter.unusedVariables false
set_option linter.unusedSimpArgs false

/-- A function of a sample. -/
structure Fun1 (f : FuncId) (recv : Value) (F : Nat → Nat) : Prop where
  en : ∀ (args : Array Value) (x : World), (callFunc f args).run Tryz.prog x = .ok (.enter f args) x
  c : ∀ (s : Nat), s < 4294967296 → ∀ x : World, Calls Tryz.prog f #[recv, .int .u32 (s : Int)] x fun e x' => e = .returned (.int .u32 ((F s : Nat) : Int)) ∧ Q x x'
  lt : ∀ (s : Nat), s < 4294967296 → F s < 4294967296
theorem getD_map (F : Nat → Nat) (S : List Nat) {i : Nat} (h : i < S.length) : (S.map F).getD i 0 = F (S.getD i 0) := by
  rw [List.getD_eq_getElem?_getD, List.getElem?_map, List.getD_eq_getElem?_getD, List.getElem?_eq_getElem h]; rfl
set_option maxHeartbeats 4000000 in
set_option maxRecDepth 100000 in
theorem cmap_any (f : FuncId) (recv : Value) (F : Nat → Nat) (hF : Fun1 f recv F) (w : World) (n : Nat) (x : PL) (h : Gd w n x) (h1 : 1 ≤ n) (h2 : n ≤ 65536) :
    Calls Tryz.prog 131 #[.func (.func f) #[recv] #[], .slice (some ⟨x.g, x.o, none⟩) x.S.length x.cap] w fun e w' => ∃ y : PL, e = .returned (.slice (some ⟨y.g, y.o, none⟩) y.S.length y.cap) ∧ y.S = x.S.map F ∧ Hid (Mine w.heap.size w' n y) ∧ Q w w' := by
  have HG : Hid (Gd w n x) := h
  have HF : Hid (Fun1 f recv F) := hF
  have HL : Hid (x.S.length = n) := h.len
  rw [HL.out]
  obtain ⟨M, hmk, hfill⟩ := make_u32 n (by omega)
  have F0 : Hid (Fill w (w.alloc (.cells M 22)) w.heap.size n (fun i => F (x.S.getD i 0)) 0) := by
    obtain ⟨p1, p2, p3, p4, p5⟩ := hfill w
    exact ⟨p1, p2, fun i hi => absurd hi (Nat.not_lt_zero _), p4, p5⟩
  have en := hF.en
  clear h hF hfill
  go_enter Tryz.func131, Tryz.ntmps131
  go_wp2_with fail
  go_loopg [13] n (fun m s13 wx => ∃ i : Nat, s13 = .int .i64 i ∧ i + m = n ∧ Hid (Fill w wx w.heap.size n (fun i => F (x.S.getD i 0)) i))
  case atStart => exact ⟨0, rfl, by omega, F0⟩
  case round =>
    obtain ⟨i, rfl, him, FI⟩ := hrel
    by_cases hi : i < n
    · have hi0 : (0 : Int) ≤ (i : Int) := by omega
      have hi1 : (i : Int) < (n : Int) := by omega
      have c1 := FI.out.q.cell (HG.out.us i (by rw [HL.out]; exact hi))
      have hxi := HG.out.lt i
      obtain ⟨q, hxe⟩ : ∃ q, x.S.getD i 0 = q := ⟨_, rfl⟩
      have HV : Hid (F q = (fun i => F (x.S.getD i 0)) i) := by show _ = F (x.S.getD i 0); rw [hxe]
      rw [hxe] at c1 hxi
      have A := HF.out.c q hxi wr
      obtain ⟨z, hz⟩ : ∃ z, F q = z := ⟨_, rfl⟩
      rw [hz] at A HV
      clear hxe hz
      go_wp2_with fail
      refine A.mono ?_
      rintro e w2 ⟨rfl, q2⟩
      have F2 := FI.out.next q2
      obtain ⟨u, hu⟩ := F2.room i hi
      have fz := F2.free i
      have FN : Hid (Fill w (w2.setCell ⟨w.heap.size, i, none⟩ (.int .u32 (z : Nat))) w.heap.size n (fun i => F (x.S.getD i 0)) (i + 1)) := F2.step hi HV.out
      clear A F2
      go_wp2_with fail
      go_roundg (n - (i + 1))
      case measure => go_light; omega
      case rel => go_light; exact ⟨i + 1, by go_num, by omega, FN⟩
    · have hie : i = n := by omega
      have FE : Hid (Fill w wr w.heap.size n (fun i => F (x.S.getD i 0)) n) := by rw [hie] at FI; exact FI
      go_wp2_with fail
      have hlen : (x.S.map F).length = n := by rw [List.length_map]; exact HL.out
      refine bodyPost_ret (v := .slice (some ⟨w.heap.size, 0, none⟩) n n) (by simp [results, Tryz.results131, go_sem]) rfl ⟨⟨w.heap.size, 0, n, x.S.map F⟩, by show _ = Ending.returned (.slice _ (x.S.map F).length _); rw [hlen], rfl, ⟨rfl, Nat.le_refl _, ?_, ⟨hlen, by show (x.S.map F).length ≤ n; omega, fun j hj => ?_, fun j => ?_⟩, FE.out.free, FE.out.room, by show n ≤ maxLen; unfold maxLen; omega⟩, FE.out.q⟩
      · obtain ⟨u, hu⟩ := FE.out.room 0 (by omega)
        exact cell_in hu
      · have hj : j < (x.S.map F).length := hj
        rw [hlen] at hj
        show wr.cell? ⟨w.heap.size, 0 + j, none⟩ = some (.int .u32 (((x.S.map F).getD j 0 : Nat) : Int))
        rw [Nat.zero_add, getD_map F x.S (by rw [HL.out]; exact hj)]
        exact FE.out.done j hj
      · show (x.S.map F).getD j 0 < _
        by_cases hj : j < n
        · rw [getD_map F x.S (by rw [HL.out]; exact hj)]; exact HF.out.lt _ (HG.out.lt j)
        · rw [List.getD_eq_getElem?_getD, List.getElem?_eq_none (by omega)]; decide
/-- The planes of a picture that are changed. -/
def chgB (n : Int) (i : Nat) : Bool := n == -1 || n == (i : Int)
set_option maxHeartbeats 2000000 in
set_option maxRecDepth 100000 in
theorem samples_any (f : FuncId) (recv : Value) (F : Nat → Nat) (hF : Fun1 f recv F) (k : Int) (i : Nat) (w : World) (n : Nat) (x : PL) (h : Gd w n x) (h1 : 1 ≤ n) (h2 : n ≤ 65536) :
    Calls Tryz.prog 115 #[.agg #[.int .i64 k, .func (.func f) #[recv] #[]], .int .i64 (i : Int), .slice (some ⟨x.g, x.o, none⟩) x.S.length x.cap] w fun e w' => ∃ u, e = .returned u ∧ ∃ y : PL, u = .slice (some ⟨y.g, y.o, none⟩) y.S.length y.cap ∧ y.S = (if chgB k i = true then x.S.map F else x.S) ∧ Hid (Mine w.heap.size w' n y) ∧ Q w w' := by
  have HG : Hid (Gd w n x) := h
  have HF : Hid (Fun1 f recv F) := hF
  have qa : Hid (∀ c t, Q w (w.alloc (.cells c t))) := fun c t => (Q.refl w).cells c t
  have hv : ∀ y : PL, y.v = .slice (some ⟨y.g, y.o, none⟩) y.S.length y.cap := fun y => rfl
  clear h hF
  have yes : chgB k i = true → (k = -1 ∨ (k ≠ -1 ∧ k = i)) := fun hc => by
    unfold chgB at hc
    simp only [Bool.or_eq_true, beq_iff_eq] at hc
    omega
  cases hc : chgB k i
  · have k1 : k ≠ -1 ∧ k ≠ (i : Int) := by
      unfold chgB at hc
      simp only [Bool.or_eq_false_iff, beq_eq_false_iff_ne] at hc
      exact hc
    have b1 : (k != -1) = true := by rw [bne_iff_ne]; exact k1.1
    have b2 : (k != (i : Int)) = true := by rw [bne_iff_ne]; exact k1.2
    have b3 : (k == -1) = false := by rw [beq_eq_false_iff_ne]; exact k1.1
    have b4 : (k == (i : Int)) = false := by rw [beq_eq_false_iff_ne]; exact k1.2
    clear hc k1 yes
    go_enter Tryz.func115, Tryz.ntmps115
    go_wp2_with fail
    refine (clone_us _ n x (HG.out.next (qa.out _ _)) h1 h2).mono ?_
    rintro e w1 ⟨y, rfl, hy, hm, hq⟩
    have HY : Hid (y.S = _) := hy
    clear hy
    have hs := hq.1.size
    rw [hv]
    go_wp2_with fail
    refine bodyPost_ret (v := .slice (some ⟨y.g, y.o, none⟩) y.S.length y.cap) (by simp [results, Tryz.results115, go_sem]) rfl ⟨_, rfl, y, rfl, HY.out, hm.out.mono (by simp), (qa.out _ _).trans hq⟩
  · rcases yes hc with rfl | ⟨k1, rfl⟩
    · clear hc yes
      go_enter Tryz.func115, Tryz.ntmps115
      go_wp2_with fail
      refine (cmap_any f recv F HF.out _ n x (HG.out.next (qa.out _ _)) h1 h2).mono ?_
      rintro e w1 ⟨y, rfl, hy, hm, hq⟩
      have HY : Hid (y.S = _) := hy
      clear hy
      go_wp2_with fail
      refine bodyPost_ret (v := .slice (some ⟨y.g, y.o, none⟩) y.S.length y.cap) (by simp [results, Tryz.results115, go_sem]) rfl ⟨_, rfl, y, rfl, HY.out, hm.out.mono (by simp), (qa.out _ _).trans hq⟩
    · have b1 : ((i : Int) != -1) = true := by rw [bne_iff_ne]; exact k1
      have b3 : ((i : Int) == -1) = false := by rw [beq_eq_false_iff_ne]; exact k1
      clear hc yes
      go_enter Tryz.func115, Tryz.ntmps115
      go_wp2_with fail
      refine (cmap_any f recv F HF.out _ n x (HG.out.next (qa.out _ _)) h1 h2).mono ?_
      rintro e w1 ⟨y, rfl, hy, hm, hq⟩
      have HY : Hid (y.S = _) := hy
      clear hy
      go_wp2_with fail
      refine bodyPost_ret (v := .slice (some ⟨y.g, y.o, none⟩) y.S.length y.cap) (by simp [results, Tryz.results115, go_sem]) rfl ⟨_, rfl, y, rfl, HY.out, hm.out.mono (by simp), (qa.out _ _).trans hq⟩
end Go.Proofs.YtkgojnjlfkijiaaGreat

/- The chapter's examples, all of them. -/
import Derived.Test.YtkgfohodahkmmaaPlN
namespace Go.Proofs.Ytkgfohodahkmmaa
open Go.RowKit
set_option linter.unusedVariables false
set_option linter.unusedSimpArgs false

theorem lit_uis {w : World} (S : List Nat) {C : Array Value} (h : ∀ i, i < S.length → C[i]? = some (.int .u32 (S.getD i 0 : Nat))) : UIs (w.alloc (.cells C 22)) w.heap.size 0 S := fun i hi => by
  have hb : (w.alloc (.cells C 22)).heap[w.heap.size]? = some (.cells C 22 (0, 0)) := heap_alloc_new w _
  rw [Nat.zero_add, cell_of_row _ _ i C 22 (0, 0) hb]
  exact h i hi
theorem is_yes (W H : Int) (g g' n : Nat) (S : List Nat) (hn : S.length = n) (hn2 : n ≤ 100) (w : World) (hS : UIs w g 0 S) (hS' : UIs w g' 0 S) :
    Calls Try.prog 40 #[.agg #[.int .i64 W, .int .i64 H, .slice (some ⟨g, 0, none⟩) n n], .int .i64 W, .int .i64 H, .slice (some ⟨g', 0, none⟩) n n] w fun e w' => e = .returned (.bool true) ∧ Q w w' := by
  subst hn
  have := is_any W H _ S W H _ S w (hS.usl (Nat.le_refl _)) (hS'.usl (Nat.le_refl _)) (by omega) (by omega)
  rw [eqB_true.2 ⟨rfl, rfl, rfl⟩] at this
  exact this
theorem is_lit (W H : Int) (g n : Nat) (S : List Nat) {C : Array Value} (hC : ∀ i, i < S.length → C[i]? = some (.int .u32 (S.getD i 0 : Nat))) (hn : S.length = n) (hn2 : n ≤ 100) (w : World) (hS : UIs w g 0 S) :
    Calls Try.prog 40 #[.agg #[.int .i64 W, .int .i64 H, .slice (some ⟨g, 0, none⟩) n n], .int .i64 W, .int .i64 H, .slice (some ⟨w.heap.size, 0, none⟩) n n] (w.alloc (.cells C 22)) fun e w' => e = .returned (.bool true) ∧ Q w w' := by
  have q : Q w (w.alloc (.cells C 22)) := (Q.refl w).cells _ _
  refine (is_yes W H g w.heap.size n S hn hn2 _ (hS.next q) (lit_uis S hC)).mono ?_
  rintro e w' ⟨h1, h2⟩
  exact ⟨h1, q.trans h2⟩
set_option maxHeartbeats 4000000 in
set_option maxRecDepth 100000 in
theorem known_any (w : World) : Calls Try.prog 9 #[] w fun e w' => e = .returned (.bool true) ∧ Q w w' := by
  obtain ⟨w1, hw1⟩ : ∃ w1, w.alloc (.cells #[.int .u32 1, .int .u32 2, .int .u32 3, .int .u32 4, .int .u32 5, .int .u32 6] 22) = w1 := ⟨_, rfl⟩
  have qw1 : Q w w1 := by rw [← hw1]; exact (Q.refl w).cells _ _
  have UP : Hid (UIs w1 w.heap.size 0 [1, 2, 3, 4, 5, 6]) := by rw [← hw1]; exact lit_uis [1, 2, 3, 4, 5, 6] (fun i hi => by have hi2 : i < 6 := hi; match i, hi2 with | 0, _ => rfl | 1, _ => rfl | 2, _ => rfl | 3, _ => rfl | 4, _ => rfl | 5, _ => rfl | k + 6, h => exact absurd h (by omega))
  obtain ⟨G0, hG0⟩ : ∃ G, w.heap.size = G := ⟨_, rfl⟩
  rw [hG0] at UP
  obtain ⟨w2, hw2⟩ : ∃ w2, w1.alloc (.cells #[.int .i64 2, .int .i64 3, .slice (some ⟨G0, 0, none⟩) 6 6] 25) = w2 := ⟨_, rfl⟩
  have qw2 : Q w1 w2 := by rw [← hw2]; exact boxed_q w1 2 3 (.slice (some ⟨G0, 0, none⟩) 6 6)
  have p0 : w2.cell? ⟨w1.heap.size, 0, none⟩ = some (.int .i64 2) := by rw [← hw2]; exact boxed_0 w1 2 3 (.slice (some ⟨G0, 0, none⟩) 6 6)
  have p1 : w2.cell? ⟨w1.heap.size, 1, none⟩ = some (.int .i64 3) := by rw [← hw2]; exact boxed_1 w1 2 3 (.slice (some ⟨G0, 0, none⟩) 6 6)
  have p2 : w2.cell? ⟨w1.heap.size, 2, none⟩ = some (.slice (some ⟨G0, 0, none⟩) 6 6) := by rw [← hw2]; exact boxed_2 w1 2 3 (.slice (some ⟨G0, 0, none⟩) 6 6)
  replace UP : Hid (UIs w2 G0 0 [1, 2, 3, 4, 5, 6]) := UIs.next UP.out qw2
  have QT : Q w w2 := qw1.trans qw2
  go_enter Try.func9, Try.ntmps9
  go_wp2_with fail
  clear hw1 hw2 qw1 qw2
  refine (k_turn _ _ UP.out).mono ?_
  rintro e w3 ⟨uag, rfl, qw3, uau⟩
  have UA : Hid (UIs w3 uag 0 [5, 3, 1, 6, 4, 2]) := uau
  clear uau
  replace UP : Hid (UIs w3 G0 0 [1, 2, 3, 4, 5, 6]) := UIs.next UP.out qw3
  replace p0 := qw3.cell p0
  replace p1 := qw3.cell p1
  replace p2 := qw3.cell p2
  obtain ⟨w4, hw4⟩ : ∃ w4, w3.alloc (.cells #[.int .i64 3, .int .i64 2, .slice (some ⟨uag, 0, none⟩) 6 6] 25) = w4 := ⟨_, rfl⟩
  have qw4 : Q w3 w4 := by rw [← hw4]; exact boxed_q w3 3 2 (.slice (some ⟨uag, 0, none⟩) 6 6)
  have a0 : w4.cell? ⟨w3.heap.size, 0, none⟩ = some (.int .i64 3) := by rw [← hw4]; exact boxed_0 w3 3 2 (.slice (some ⟨uag, 0, none⟩) 6 6)
  have a1 : w4.cell? ⟨w3.heap.size, 1, none⟩ = some (.int .i64 2) := by rw [← hw4]; exact boxed_1 w3 3 2 (.slice (some ⟨uag, 0, none⟩) 6 6)
  have a2 : w4.cell? ⟨w3.heap.size, 2, none⟩ = some (.slice (some ⟨uag, 0, none⟩) 6 6) := by rw [← hw4]; exact boxed_2 w3 3 2 (.slice (some ⟨uag, 0, none⟩) 6 6)
  replace UP : Hid (UIs w4 G0 0 [1, 2, 3, 4, 5, 6]) := UIs.next UP.out qw4
  replace p0 := qw4.cell p0
  replace p1 := qw4.cell p1
  replace p2 := qw4.cell p2
  replace UA : Hid (UIs w4 uag 0 [5, 3, 1, 6, 4, 2]) := UIs.next UA.out qw4
  replace QT : Q w w4 := (QT.trans qw3).trans qw4
  go_wp2_with fail
  clear hw4 qw3 qw4
  refine (k_trans _ _ UP.out).mono ?_
  rintro e w5 ⟨ubg, rfl, qw5, ubu⟩
  have UB : Hid (UIs w5 ubg 0 [1, 3, 5, 2, 4, 6]) := ubu
  clear ubu
  replace UP : Hid (UIs w5 G0 0 [1, 2, 3, 4, 5, 6]) := UIs.next UP.out qw5
  replace p0 := qw5.cell p0
  replace p1 := qw5.cell p1
  replace p2 := qw5.cell p2
  replace UA : Hid (UIs w5 uag 0 [5, 3, 1, 6, 4, 2]) := UIs.next UA.out qw5
  replace a0 := qw5.cell a0
  replace a1 := qw5.cell a1
  replace a2 := qw5.cell a2
  obtain ⟨w6, hw6⟩ : ∃ w6, w5.alloc (.cells #[.int .i64 3, .int .i64 2, .slice (some ⟨ubg, 0, none⟩) 6 6] 25) = w6 := ⟨_, rfl⟩
  have qw6 : Q w5 w6 := by rw [← hw6]; exact boxed_q w5 3 2 (.slice (some ⟨ubg, 0, none⟩) 6 6)
  have b0 : w6.cell? ⟨w5.heap.size, 0, none⟩ = some (.int .i64 3) := by rw [← hw6]; exact boxed_0 w5 3 2 (.slice (some ⟨ubg, 0, none⟩) 6 6)
  have b1 : w6.cell? ⟨w5.heap.size, 1, none⟩ = some (.int .i64 2) := by rw [← hw6]; exact boxed_1 w5 3 2 (.slice (some ⟨ubg, 0, none⟩) 6 6)
  have b2 : w6.cell? ⟨w5.heap.size, 2, none⟩ = some (.slice (some ⟨ubg, 0, none⟩) 6 6) := by rw [← hw6]; exact boxed_2 w5 3 2 (.slice (some ⟨ubg, 0, none⟩) 6 6)
  replace UP : Hid (UIs w6 G0 0 [1, 2, 3, 4, 5, 6]) := UIs.next UP.out qw6
  replace p0 := qw6.cell p0
  replace p1 := qw6.cell p1
  replace p2 := qw6.cell p2
  replace UA : Hid (UIs w6 uag 0 [5, 3, 1, 6, 4, 2]) := UIs.next UA.out qw6
  replace a0 := qw6.cell a0
  replace a1 := qw6.cell a1
  replace a2 := qw6.cell a2
  replace UB : Hid (UIs w6 ubg 0 [1, 3, 5, 2, 4, 6]) := UIs.next UB.out qw6
  replace QT : Q w w6 := (QT.trans qw5).trans qw6
  go_wp2_with fail
  clear hw6 qw5 qw6
  refine (k_crop _ _ UP.out).mono ?_
  rintro e w7 ⟨ucg, rfl, qw7, ucu⟩
  have UC : Hid (UIs w7 ucg 0 [2, 4]) := ucu
  clear ucu
  replace UP : Hid (UIs w7 G0 0 [1, 2, 3, 4, 5, 6]) := UIs.next UP.out qw7
  replace p0 := qw7.cell p0
  replace p1 := qw7.cell p1
  replace p2 := qw7.cell p2
  replace UA : Hid (UIs w7 uag 0 [5, 3, 1, 6, 4, 2]) := UIs.next UA.out qw7
  replace a0 := qw7.cell a0
  replace a1 := qw7.cell a1
  replace a2 := qw7.cell a2
  replace UB : Hid (UIs w7 ubg 0 [1, 3, 5, 2, 4, 6]) := UIs.next UB.out qw7
  replace b0 := qw7.cell b0
  replace b1 := qw7.cell b1
  replace b2 := qw7.cell b2
  obtain ⟨w8, hw8⟩ : ∃ w8, w7.alloc (.cells #[.int .i64 1, .int .i64 2, .slice (some ⟨ucg, 0, none⟩) 2 2] 25) = w8 := ⟨_, rfl⟩
  have qw8 : Q w7 w8 := by rw [← hw8]; exact boxed_q w7 1 2 (.slice (some ⟨ucg, 0, none⟩) 2 2)
  have c0 : w8.cell? ⟨w7.heap.size, 0, none⟩ = some (.int .i64 1) := by rw [← hw8]; exact boxed_0 w7 1 2 (.slice (some ⟨ucg, 0, none⟩) 2 2)
  have c1 : w8.cell? ⟨w7.heap.size, 1, none⟩ = some (.int .i64 2) := by rw [← hw8]; exact boxed_1 w7 1 2 (.slice (some ⟨ucg, 0, none⟩) 2 2)
  have c2 : w8.cell? ⟨w7.heap.size, 2, none⟩ = some (.slice (some ⟨ucg, 0, none⟩) 2 2) := by rw [← hw8]; exact boxed_2 w7 1 2 (.slice (some ⟨ucg, 0, none⟩) 2 2)
  replace UP : Hid (UIs w8 G0 0 [1, 2, 3, 4, 5, 6]) := UIs.next UP.out qw8
  replace p0 := qw8.cell p0
  replace p1 := qw8.cell p1
  replace p2 := qw8.cell p2
  replace UA : Hid (UIs w8 uag 0 [5, 3, 1, 6, 4, 2]) := UIs.next UA.out qw8
  replace a0 := qw8.cell a0
  replace a1 := qw8.cell a1
  replace a2 := qw8.cell a2
  replace UB : Hid (UIs w8 ubg 0 [1, 3, 5, 2, 4, 6]) := UIs.next UB.out qw8
  replace b0 := qw8.cell b0
  replace b1 := qw8.cell b1
  replace b2 := qw8.cell b2
  replace UC : Hid (UIs w8 ucg 0 [2, 4]) := UIs.next UC.out qw8
  replace QT : Q w w8 := (QT.trans qw7).trans qw8
  go_wp2_with fail
  clear hw8 qw7 qw8
  obtain ⟨v1, hv1⟩ : ∃ v1, w8.alloc (.cells #[.int .u32 9, .int .u32 9] 22) = v1 := ⟨_, rfl⟩
  have qv1 : Q w8 v1 := by rw [← hv1]; exact (Q.refl w8).cells _ _
  have U9 : Hid (UIs v1 w8.heap.size 0 [9, 9]) := by rw [← hv1]; exact lit_uis [9, 9] (fun i hi => by have hi2 : i < 2 := hi; match i, hi2 with | 0, _ => rfl | 1, _ => rfl | k + 2, h => exact absurd h (by omega))
  replace UP : Hid (UIs v1 G0 0 [1, 2, 3, 4, 5, 6]) := UIs.next UP.out qv1
  replace p0 := qv1.cell p0
  replace p1 := qv1.cell p1
  replace p2 := qv1.cell p2
  replace UA : Hid (UIs v1 uag 0 [5, 3, 1, 6, 4, 2]) := UIs.next UA.out qv1
  replace a0 := qv1.cell a0
  replace a1 := qv1.cell a1
  replace a2 := qv1.cell a2
  replace UB : Hid (UIs v1 ubg 0 [1, 3, 5, 2, 4, 6]) := UIs.next UB.out qv1
  replace b0 := qv1.cell b0
  replace b1 := qv1.cell b1
  replace b2 := qv1.cell b2
  replace UC : Hid (UIs v1 ucg 0 [2, 4]) := UIs.next UC.out qv1
  replace c0 := qv1.cell c0
  replace c1 := qv1.cell c1
  replace c2 := qv1.cell c2
  replace QT : Q w v1 := QT.trans qv1
  obtain ⟨G9, hG9⟩ : ∃ G, w8.heap.size = G := ⟨_, rfl⟩
  rw [hG9] at U9
  rw [hv1, hG9]
  clear hv1 qv1
  refine (k_paste _ _ _ UP.out U9.out).mono ?_
  rintro e w9 ⟨udg, rfl, qw9, udu⟩
  have UD : Hid (UIs w9 udg 0 [1, 9, 3, 4, 5, 6]) := udu
  clear udu
  replace UP : Hid (UIs w9 G0 0 [1, 2, 3, 4, 5, 6]) := UIs.next UP.out qw9
  replace p0 := qw9.cell p0
  replace p1 := qw9.cell p1
  replace p2 := qw9.cell p2
  replace UA : Hid (UIs w9 uag 0 [5, 3, 1, 6, 4, 2]) := UIs.next UA.out qw9
  replace a0 := qw9.cell a0
  replace a1 := qw9.cell a1
  replace a2 := qw9.cell a2
  replace UB : Hid (UIs w9 ubg 0 [1, 3, 5, 2, 4, 6]) := UIs.next UB.out qw9
  replace b0 := qw9.cell b0
  replace b1 := qw9.cell b1
  replace b2 := qw9.cell b2
  replace UC : Hid (UIs w9 ucg 0 [2, 4]) := UIs.next UC.out qw9
  replace c0 := qw9.cell c0
  replace c1 := qw9.cell c1
  replace c2 := qw9.cell c2
  obtain ⟨w10, hw10⟩ : ∃ w10, w9.alloc (.cells #[.int .i64 2, .int .i64 3, .slice (some ⟨udg, 0, none⟩) 6 6] 25) = w10 := ⟨_, rfl⟩
  have qw10 : Q w9 w10 := by rw [← hw10]; exact boxed_q w9 2 3 (.slice (some ⟨udg, 0, none⟩) 6 6)
  have d0 : w10.cell? ⟨w9.heap.size, 0, none⟩ = some (.int .i64 2) := by rw [← hw10]; exact boxed_0 w9 2 3 (.slice (some ⟨udg, 0, none⟩) 6 6)
  have d1 : w10.cell? ⟨w9.heap.size, 1, none⟩ = some (.int .i64 3) := by rw [← hw10]; exact boxed_1 w9 2 3 (.slice (some ⟨udg, 0, none⟩) 6 6)
  have d2 : w10.cell? ⟨w9.heap.size, 2, none⟩ = some (.slice (some ⟨udg, 0, none⟩) 6 6) := by rw [← hw10]; exact boxed_2 w9 2 3 (.slice (some ⟨udg, 0, none⟩) 6 6)
  replace UP : Hid (UIs w10 G0 0 [1, 2, 3, 4, 5, 6]) := UIs.next UP.out qw10
  replace p0 := qw10.cell p0
  replace p1 := qw10.cell p1
  replace p2 := qw10.cell p2
  replace UA : Hid (UIs w10 uag 0 [5, 3, 1, 6, 4, 2]) := UIs.next UA.out qw10
  replace a0 := qw10.cell a0
  replace a1 := qw10.cell a1
  replace a2 := qw10.cell a2
  replace UB : Hid (UIs w10 ubg 0 [1, 3, 5, 2, 4, 6]) := UIs.next UB.out qw10
  replace b0 := qw10.cell b0
  replace b1 := qw10.cell b1
  replace b2 := qw10.cell b2
  replace UC : Hid (UIs w10 ucg 0 [2, 4]) := UIs.next UC.out qw10
  replace c0 := qw10.cell c0
  replace c1 := qw10.cell c1
  replace c2 := qw10.cell c2
  replace UD : Hid (UIs w10 udg 0 [1, 9, 3, 4, 5, 6]) := UIs.next UD.out qw10
  replace QT : Q w w10 := (QT.trans qw9).trans qw10
  go_wp2_with fail
  clear hw10 qw9 qw10
  refine (k_ext _ _ UP.out).mono ?_
  rintro e w11 ⟨ueg, rfl, qw11, ueu⟩
  have UE : Hid (UIs w11 ueg 0 [2, 1, 2, 4, 3, 4, 6, 5, 6]) := ueu
  clear ueu
  replace UP : Hid (UIs w11 G0 0 [1, 2, 3, 4, 5, 6]) := UIs.next UP.out qw11
  replace p0 := qw11.cell p0
  replace p1 := qw11.cell p1
  replace p2 := qw11.cell p2
  replace UA : Hid (UIs w11 uag 0 [5, 3, 1, 6, 4, 2]) := UIs.next UA.out qw11
  replace a0 := qw11.cell a0
  replace a1 := qw11.cell a1
  replace a2 := qw11.cell a2
  replace UB : Hid (UIs w11 ubg 0 [1, 3, 5, 2, 4, 6]) := UIs.next UB.out qw11
  replace b0 := qw11.cell b0
  replace b1 := qw11.cell b1
  replace b2 := qw11.cell b2
  replace UC : Hid (UIs w11 ucg 0 [2, 4]) := UIs.next UC.out qw11
  replace c0 := qw11.cell c0
  replace c1 := qw11.cell c1
  replace c2 := qw11.cell c2
  replace UD : Hid (UIs w11 udg 0 [1, 9, 3, 4, 5, 6]) := UIs.next UD.out qw11
  replace d0 := qw11.cell d0
  replace d1 := qw11.cell d1
  replace d2 := qw11.cell d2
  obtain ⟨w12, hw12⟩ : ∃ w12, w11.alloc (.cells #[.int .i64 3, .int .i64 3, .slice (some ⟨ueg, 0, none⟩) 9 9] 25) = w12 := ⟨_, rfl⟩
  have qw12 : Q w11 w12 := by rw [← hw12]; exact boxed_q w11 3 3 (.slice (some ⟨ueg, 0, none⟩) 9 9)
  have e0 : w12.cell? ⟨w11.heap.size, 0, none⟩ = some (.int .i64 3) := by rw [← hw12]; exact boxed_0 w11 3 3 (.slice (some ⟨ueg, 0, none⟩) 9 9)
  have e1 : w12.cell? ⟨w11.heap.size, 1, none⟩ = some (.int .i64 3) := by rw [← hw12]; exact boxed_1 w11 3 3 (.slice (some ⟨ueg, 0, none⟩) 9 9)
  have e2 : w12.cell? ⟨w11.heap.size, 2, none⟩ = some (.slice (some ⟨ueg, 0, none⟩) 9 9) := by rw [← hw12]; exact boxed_2 w11 3 3 (.slice (some ⟨ueg, 0, none⟩) 9 9)
  replace UP : Hid (UIs w12 G0 0 [1, 2, 3, 4, 5, 6]) := UIs.next UP.out qw12
  replace p0 := qw12.cell p0
  replace p1 := qw12.cell p1
  replace p2 := qw12.cell p2
  replace UA : Hid (UIs w12 uag 0 [5, 3, 1, 6, 4, 2]) := UIs.next UA.out qw12
  replace a0 := qw12.cell a0
  replace a1 := qw12.cell a1
  replace a2 := qw12.cell a2
  replace UB : Hid (UIs w12 ubg 0 [1, 3, 5, 2, 4, 6]) := UIs.next UB.out qw12
  replace b0 := qw12.cell b0
  replace b1 := qw12.cell b1
  replace b2 := qw12.cell b2
  replace UC : Hid (UIs w12 ucg 0 [2, 4]) := UIs.next UC.out qw12
  replace c0 := qw12.cell c0
  replace c1 := qw12.cell c1
  replace c2 := qw12.cell c2
  replace UD : Hid (UIs w12 udg 0 [1, 9, 3, 4, 5, 6]) := UIs.next UD.out qw12
  replace d0 := qw12.cell d0
  replace d1 := qw12.cell d1
  replace d2 := qw12.cell d2
  replace UE : Hid (UIs w12 ueg 0 [2, 1, 2, 4, 3, 4, 6, 5, 6]) := UIs.next UE.out qw12
  replace QT : Q w w12 := (QT.trans qw11).trans qw12
  go_wp2_with fail
  clear hw12 qw11 qw12
  refine (border_any 2 4 (-1) _).mono ?_
  rintro e wz ⟨rfl, rfl⟩
  rw [show borA 2 4 (-1) = 1 by decide, show borE 2 4 = 0 by decide]
  go_wp2_with fail
  refine (border_any 2 4 (5) _).mono ?_
  rintro e wz ⟨rfl, rfl⟩
  rw [show borA 2 4 (5) = 1 by decide, show borE 2 4 = 0 by decide]
  go_wp2_with fail
  refine (border_any 2 4 (6) _).mono ?_
  rintro e wz ⟨rfl, rfl⟩
  rw [show borA 2 4 (6) = 0 by decide, show borE 2 4 = 0 by decide]
  go_wp2_with fail
  refine (border_any 3 4 (-1) _).mono ?_
  rintro e wz ⟨rfl, rfl⟩
  rw [show borA 3 4 (-1) = 3 by decide, show borE 3 4 = 0 by decide]
  go_wp2_with fail
  refine (is_lit 3 2 _ 6 [5, 3, 1, 6, 4, 2] (fun i hi => by have hi2 : i < 6 := hi; match i, hi2 with | 0, _ => rfl | 1, _ => rfl | 2, _ => rfl | 3, _ => rfl | 4, _ => rfl | 5, _ => rfl | k + 6, h => exact absurd h (by omega)) rfl (by decide) _ UA.out).mono ?_
  rintro e w20 ⟨rfl, qw20⟩
  replace UP : Hid (UIs w20 G0 0 [1, 2, 3, 4, 5, 6]) := UIs.next UP.out qw20
  replace p0 := qw20.cell p0
  replace p1 := qw20.cell p1
  replace p2 := qw20.cell p2
  replace UA : Hid (UIs w20 uag 0 [5, 3, 1, 6, 4, 2]) := UIs.next UA.out qw20
  replace a0 := qw20.cell a0
  replace a1 := qw20.cell a1
  replace a2 := qw20.cell a2
  replace UB : Hid (UIs w20 ubg 0 [1, 3, 5, 2, 4, 6]) := UIs.next UB.out qw20
  replace b0 := qw20.cell b0
  replace b1 := qw20.cell b1
  replace b2 := qw20.cell b2
  replace UC : Hid (UIs w20 ucg 0 [2, 4]) := UIs.next UC.out qw20
  replace c0 := qw20.cell c0
  replace c1 := qw20.cell c1
  replace c2 := qw20.cell c2
  replace UD : Hid (UIs w20 udg 0 [1, 9, 3, 4, 5, 6]) := UIs.next UD.out qw20
  replace d0 := qw20.cell d0
  replace d1 := qw20.cell d1
  replace d2 := qw20.cell d2
  replace UE : Hid (UIs w20 ueg 0 [2, 1, 2, 4, 3, 4, 6, 5, 6]) := UIs.next UE.out qw20
  replace e0 := qw20.cell e0
  replace e1 := qw20.cell e1
  replace e2 := qw20.cell e2
  replace QT : Q w w20 := QT.trans qw20
  clear qw20
  go_wp2_with fail
  refine (is_lit 3 2 _ 6 [1, 3, 5, 2, 4, 6] (fun i hi => by have hi2 : i < 6 := hi; match i, hi2 with | 0, _ => rfl | 1, _ => rfl | 2, _ => rfl | 3, _ => rfl | 4, _ => rfl | 5, _ => rfl | k + 6, h => exact absurd h (by omega)) rfl (by decide) _ UB.out).mono ?_
  rintro e w21 ⟨rfl, qw21⟩
  replace UP : Hid (UIs w21 G0 0 [1, 2, 3, 4, 5, 6]) := UIs.next UP.out qw21
  replace p0 := qw21.cell p0
  replace p1 := qw21.cell p1
  replace p2 := qw21.cell p2
  replace UA : Hid (UIs w21 uag 0 [5, 3, 1, 6, 4, 2]) := UIs.next UA.out qw21
  replace a0 := qw21.cell a0
  replace a1 := qw21.cell a1
  replace a2 := qw21.cell a2
  replace UB : Hid (UIs w21 ubg 0 [1, 3, 5, 2, 4, 6]) := UIs.next UB.out qw21
  replace b0 := qw21.cell b0
  replace b1 := qw21.cell b1
  replace b2 := qw21.cell b2
  replace UC : Hid (UIs w21 ucg 0 [2, 4]) := UIs.next UC.out qw21
  replace c0 := qw21.cell c0
  replace c1 := qw21.cell c1
  replace c2 := qw21.cell c2
  replace UD : Hid (UIs w21 udg 0 [1, 9, 3, 4, 5, 6]) := UIs.next UD.out qw21
  replace d0 := qw21.cell d0
  replace d1 := qw21.cell d1
  replace d2 := qw21.cell d2
  replace UE : Hid (UIs w21 ueg 0 [2, 1, 2, 4, 3, 4, 6, 5, 6]) := UIs.next UE.out qw21
  replace e0 := qw21.cell e0
  replace e1 := qw21.cell e1
  replace e2 := qw21.cell e2
  replace QT : Q w w21 := QT.trans qw21
  clear qw21
  go_wp2_with fail
  refine (is_lit 1 2 _ 2 [2, 4] (fun i hi => by have hi2 : i < 2 := hi; match i, hi2 with | 0, _ => rfl | 1, _ => rfl | k + 2, h => exact absurd h (by omega)) rfl (by decide) _ UC.out).mono ?_
  rintro e w22 ⟨rfl, qw22⟩
  replace UP : Hid (UIs w22 G0 0 [1, 2, 3, 4, 5, 6]) := UIs.next UP.out qw22
  replace p0 := qw22.cell p0
  replace p1 := qw22.cell p1
  replace p2 := qw22.cell p2
  replace UA : Hid (UIs w22 uag 0 [5, 3, 1, 6, 4, 2]) := UIs.next UA.out qw22
  replace a0 := qw22.cell a0
  replace a1 := qw22.cell a1
  replace a2 := qw22.cell a2
  replace UB : Hid (UIs w22 ubg 0 [1, 3, 5, 2, 4, 6]) := UIs.next UB.out qw22
  replace b0 := qw22.cell b0
  replace b1 := qw22.cell b1
  replace b2 := qw22.cell b2
  replace UC : Hid (UIs w22 ucg 0 [2, 4]) := UIs.next UC.out qw22
  replace c0 := qw22.cell c0
  replace c1 := qw22.cell c1
  replace c2 := qw22.cell c2
  replace UD : Hid (UIs w22 udg 0 [1, 9, 3, 4, 5, 6]) := UIs.next UD.out qw22
  replace d0 := qw22.cell d0
  replace d1 := qw22.cell d1
  replace d2 := qw22.cell d2
  replace UE : Hid (UIs w22 ueg 0 [2, 1, 2, 4, 3, 4, 6, 5, 6]) := UIs.next UE.out qw22
  replace e0 := qw22.cell e0
  replace e1 := qw22.cell e1
  replace e2 := qw22.cell e2
  replace QT : Q w w22 := QT.trans qw22
  clear qw22
  go_wp2_with fail
  refine (is_lit 2 3 _ 6 [1, 9, 3, 4, 5, 6] (fun i hi => by have hi2 : i < 6 := hi; match i, hi2 with | 0, _ => rfl | 1, _ => rfl | 2, _ => rfl | 3, _ => rfl | 4, _ => rfl | 5, _ => rfl | k + 6, h => exact absurd h (by omega)) rfl (by decide) _ UD.out).mono ?_
  rintro e w23 ⟨rfl, qw23⟩
  replace UP : Hid (UIs w23 G0 0 [1, 2, 3, 4, 5, 6]) := UIs.next UP.out qw23
  replace p0 := qw23.cell p0
  replace p1 := qw23.cell p1
  replace p2 := qw23.cell p2
  replace UA : Hid (UIs w23 uag 0 [5, 3, 1, 6, 4, 2]) := UIs.next UA.out qw23
  replace a0 := qw23.cell a0
  replace a1 := qw23.cell a1
  replace a2 := qw23.cell a2
  replace UB : Hid (UIs w23 ubg 0 [1, 3, 5, 2, 4, 6]) := UIs.next UB.out qw23
  replace b0 := qw23.cell b0
  replace b1 := qw23.cell b1
  replace b2 := qw23.cell b2
  replace UC : Hid (UIs w23 ucg 0 [2, 4]) := UIs.next UC.out qw23
  replace c0 := qw23.cell c0
  replace c1 := qw23.cell c1
  replace c2 := qw23.cell c2
  replace UD : Hid (UIs w23 udg 0 [1, 9, 3, 4, 5, 6]) := UIs.next UD.out qw23
  replace d0 := qw23.cell d0
  replace d1 := qw23.cell d1
  replace d2 := qw23.cell d2
  replace UE : Hid (UIs w23 ueg 0 [2, 1, 2, 4, 3, 4, 6, 5, 6]) := UIs.next UE.out qw23
  replace e0 := qw23.cell e0
  replace e1 := qw23.cell e1
  replace e2 := qw23.cell e2
  replace QT : Q w w23 := QT.trans qw23
  clear qw23
  go_wp2_with fail
  refine (is_lit 3 3 _ 9 [2, 1, 2, 4, 3, 4, 6, 5, 6] (fun i hi => by have hi2 : i < 9 := hi; match i, hi2 with | 0, _ => rfl | 1, _ => rfl | 2, _ => rfl | 3, _ => rfl | 4, _ => rfl | 5, _ => rfl | 6, _ => rfl | 7, _ => rfl | 8, _ => rfl | k + 9, h => exact absurd h (by omega)) rfl (by decide) _ UE.out).mono ?_
  rintro e w24 ⟨rfl, qw24⟩
  replace UP : Hid (UIs w24 G0 0 [1, 2, 3, 4, 5, 6]) := UIs.next UP.out qw24
  replace p0 := qw24.cell p0
  replace p1 := qw24.cell p1
  replace p2 := qw24.cell p2
  replace UA : Hid (UIs w24 uag 0 [5, 3, 1, 6, 4, 2]) := UIs.next UA.out qw24
  replace a0 := qw24.cell a0
  replace a1 := qw24.cell a1
  replace a2 := qw24.cell a2
  replace UB : Hid (UIs w24 ubg 0 [1, 3, 5, 2, 4, 6]) := UIs.next UB.out qw24
  replace b0 := qw24.cell b0
  replace b1 := qw24.cell b1
  replace b2 := qw24.cell b2
  replace UC : Hid (UIs w24 ucg 0 [2, 4]) := UIs.next UC.out qw24
  replace c0 := qw24.cell c0
  replace c1 := qw24.cell c1
  replace c2 := qw24.cell c2
  replace UD : Hid (UIs w24 udg 0 [1, 9, 3, 4, 5, 6]) := UIs.next UD.out qw24
  replace d0 := qw24.cell d0
  replace d1 := qw24.cell d1
  replace d2 := qw24.cell d2
  replace UE : Hid (UIs w24 ueg 0 [2, 1, 2, 4, 3, 4, 6, 5, 6]) := UIs.next UE.out qw24
  replace e0 := qw24.cell e0
  replace e1 := qw24.cell e1
  replace e2 := qw24.cell e2
  replace QT : Q w w24 := QT.trans qw24
  clear qw24
  go_wp2_with fail
  go_ret
  exact ⟨rfl, QT⟩
end Go.Proofs.Ytkgfohodahkmmaa

/- Where two planes are unlike: nowhere, or no planes to be held against one another. -/
import Derived.Test.YtkgfohodahkmmaaPlV
import Derived.Test.YtkgfohodahkmmaaPlW
namespace Go.Proofs.Ytkgfohodahkmmaa
open Go.RowKit
set_option linter.unusedVariables false
set_option linter.unusedSimpArgs false

set_option maxHeartbeats 2000000 in
set_option maxRecDepth 100000 in
theorem runlike_n0 (W H : Int) (a : Option Addr) (n c : Nat) (W' H' : Int) (a' : Option Addr) (n' c' : Nat) (w : World) {r : Int} (C1 : ∀ w' : World, Calls Try.prog 18 #[.agg #[.int .i64 W, .int .i64 H, .slice a n c]] w' fun e w'' => e = .returned (.int .i64 r) ∧ Q w' w'') (hr : (r != 0) = true) :
    Calls Try.prog 37 #[.agg #[.int .i64 W, .int .i64 H, .slice a n c], .agg #[.int .i64 W', .int .i64 H', .slice a' n' c']] w fun e w' => e = .returned (.tuple #[.agg #[.int .i64 0, .int .i64 0, .int .i64 0, .int .i64 0], .bool false]) ∧ Q w w' := by
  have hb0 : ((0 : Int) != 0) = false := by decide
  obtain ⟨w1, hw1⟩ : ∃ w1, ((w.alloc (.cells #[.int .i64 W, .int .i64 H, .slice a n c] 25)).alloc (.cells #[.int .i64 W', .int .i64 H', .slice a' n' c'] 25)).alloc (.cells #[.int .i64 0, .int .i64 0, .int .i64 0, .int .i64 0] 56) = w1 := ⟨_, rfl⟩
  have Q1 : Hid (Q w w1) := by rw [← hw1]; exact ((((Q.refl w).cells _ _).cells _ _).cells _ _)
  have S1 : w1.heap.size = w.heap.size + 1 + 1 + 1 := by rw [← hw1]; simp
  have z00 : w1.cell? ⟨w.heap.size, 0, none⟩ = some (.int .i64 W) := by rw [← hw1]; simp [go_sem]
  have z01 : w1.cell? ⟨w.heap.size, 1, none⟩ = some (.int .i64 H) := by rw [← hw1]; simp [go_sem]
  have z02 : w1.cell? ⟨w.heap.size, 2, none⟩ = some (.slice a n c) := by rw [← hw1]; simp [go_sem]
  have z10 : w1.cell? ⟨w.heap.size + 1, 0, none⟩ = some (.int .i64 W') := by rw [← hw1]; simp [go_sem]
  have z11 : w1.cell? ⟨w.heap.size + 1, 1, none⟩ = some (.int .i64 H') := by rw [← hw1]; simp [go_sem]
  have z12 : w1.cell? ⟨w.heap.size + 1, 2, none⟩ = some (.slice a' n' c') := by rw [← hw1]; simp [go_sem]
  have z20 : w1.cell? ⟨w.heap.size + 1 + 1, 0, none⟩ = some (.int .i64 0) := by rw [← hw1]; simp [go_sem]
  have z21 : w1.cell? ⟨w.heap.size + 1 + 1, 1, none⟩ = some (.int .i64 0) := by rw [← hw1]; simp [go_sem]
  have z22 : w1.cell? ⟨w.heap.size + 1 + 1, 2, none⟩ = some (.int .i64 0) := by rw [← hw1]; simp [go_sem]
  have z23 : w1.cell? ⟨w.heap.size + 1 + 1, 3, none⟩ = some (.int .i64 0) := by rw [← hw1]; simp [go_sem]
  have yf : ∀ j, w1.frozen? ⟨w.heap.size + 1 + 1, j, none⟩ = false := fun j => by rw [← hw1]; simp [go_sem]
  have QT := Q1.out
  go_enter Try.func37, Try.ntmps37
  go_wp2_with fail
  clear hw1
  refine (C1 _).mono ?_
  rintro e m0 ⟨rfl, q0⟩
  replace z00 := q0.cell z00
  replace z01 := q0.cell z01
  replace z02 := q0.cell z02
  replace z10 := q0.cell z10
  replace z11 := q0.cell z11
  replace z12 := q0.cell z12
  replace z20 := q0.cell z20
  replace z21 := q0.cell z21
  replace z22 := q0.cell z22
  replace z23 := q0.cell z23
  replace QT := QT.trans q0
  replace yf : ∀ j, m0.frozen? ⟨w.heap.size + 1 + 1, j, none⟩ = false := fun j => by rw [q0.2]; exact yf j
  go_wp2_with fail
  refine bodyPost_ret (v := .tuple #[.agg #[.int .i64 0, .int .i64 0, .int .i64 0, .int .i64 0], .bool false]) (by simp [results, Try.results37, go_sem, z20, z21, z22, z23]) rfl ⟨rfl, ?_⟩
  exact (((QT.put (by omega)).put (by omega)).put (by omega)).put (by omega)
set_option maxHeartbeats 2000000 in
set_option maxRecDepth 100000 in
theorem runlike_n1 (W H : Int) (a : Option Addr) (n c : Nat) (W' H' : Int) (a' : Option Addr) (n' c' : Nat) (w : World) {r : Int} (C1 : ∀ w' : World, Calls Try.prog 18 #[.agg #[.int .i64 W, .int .i64 H, .slice a n c]] w' fun e w'' => e = .returned (.int .i64 0) ∧ Q w' w'') (C2 : ∀ w' : World, Calls Try.prog 18 #[.agg #[.int .i64 W', .int .i64 H', .slice a' n' c']] w' fun e w'' => e = .returned (.int .i64 r) ∧ Q w' w'') (hr : (r != 0) = true) :
    Calls Try.prog 37 #[.agg #[.int .i64 W, .int .i64 H, .slice a n c], .agg #[.int .i64 W', .int .i64 H', .slice a' n' c']] w fun e w' => e = .returned (.tuple #[.agg #[.int .i64 0, .int .i64 0, .int .i64 0, .int .i64 0], .bool false]) ∧ Q w w' := by
  have hb0 : ((0 : Int) != 0) = false := by decide
  obtain ⟨w1, hw1⟩ : ∃ w1, ((w.alloc (.cells #[.int .i64 W, .int .i64 H, .slice a n c] 25)).alloc (.cells #[.int .i64 W', .int .i64 H', .slice a' n' c'] 25)).alloc (.cells #[.int .i64 0, .int .i64 0, .int .i64 0, .int .i64 0] 56) = w1 := ⟨_, rfl⟩
  have Q1 : Hid (Q w w1) := by rw [← hw1]; exact ((((Q.refl w).cells _ _).cells _ _).cells _ _)
  have S1 : w1.heap.size = w.heap.size + 1 + 1 + 1 := by rw [← hw1]; simp
  have z00 : w1.cell? ⟨w.heap.size, 0, none⟩ = some (.int .i64 W) := by rw [← hw1]; simp [go_sem]
  have z01 : w1.cell? ⟨w.heap.size, 1, none⟩ = some (.int .i64 H) := by rw [← hw1]; simp [go_sem]
  have z02 : w1.cell? ⟨w.heap.size, 2, none⟩ = some (.slice a n c) := by rw [← hw1]; simp [go_sem]
  have z10 : w1.cell? ⟨w.heap.size + 1, 0, none⟩ = some (.int .i64 W') := by rw [← hw1]; simp [go_sem]
  have z11 : w1.cell? ⟨w.heap.size + 1, 1, none⟩ = some (.int .i64 H') := by rw [← hw1]; simp [go_sem]
  have z12 : w1.cell? ⟨w.heap.size + 1, 2, none⟩ = some (.slice a' n' c') := by rw [← hw1]; simp [go_sem]
  have z20 : w1.cell? ⟨w.heap.size + 1 + 1, 0, none⟩ = some (.int .i64 0) := by rw [← hw1]; simp [go_sem]
  have z21 : w1.cell? ⟨w.heap.size + 1 + 1, 1, none⟩ = some (.int .i64 0) := by rw [← hw1]; simp [go_sem]
  have z22 : w1.cell? ⟨w.heap.size + 1 + 1, 2, none⟩ = some (.int .i64 0) := by rw [← hw1]; simp [go_sem]
  have z23 : w1.cell? ⟨w.heap.size + 1 + 1, 3, none⟩ = some (.int .i64 0) := by rw [← hw1]; simp [go_sem]
  have yf : ∀ j, w1.frozen? ⟨w.heap.size + 1 + 1, j, none⟩ = false := fun j => by rw [← hw1]; simp [go_sem]
  have QT := Q1.out
  go_enter Try.func37, Try.ntmps37
  go_wp2_with fail
  clear hw1
  refine (C1 _).mono ?_
  rintro e m0 ⟨rfl, q0⟩
  replace z00 := q0.cell z00
  replace z01 := q0.cell z01
  replace z02 := q0.cell z02
  replace z10 := q0.cell z10
  replace z11 := q0.cell z11
  replace z12 := q0.cell z12
  replace z20 := q0.cell z20
  replace z21 := q0.cell z21
  replace z22 := q0.cell z22
  replace z23 := q0.cell z23
  replace QT := QT.trans q0
  replace yf : ∀ j, m0.frozen? ⟨w.heap.size + 1 + 1, j, none⟩ = false := fun j => by rw [q0.2]; exact yf j
  go_wp2_with fail
  refine (C2 _).mono ?_
  rintro e m1 ⟨rfl, q1⟩
  replace z00 := q1.cell z00
  replace z01 := q1.cell z01
  replace z02 := q1.cell z02
  replace z10 := q1.cell z10
  replace z11 := q1.cell z11
  replace z12 := q1.cell z12
  replace z20 := q1.cell z20
  replace z21 := q1.cell z21
  replace z22 := q1.cell z22
  replace z23 := q1.cell z23
  replace QT := QT.trans q1
  replace yf : ∀ j, m1.frozen? ⟨w.heap.size + 1 + 1, j, none⟩ = false := fun j => by rw [q1.2]; exact yf j
  go_wp2_with fail
  refine bodyPost_ret (v := .tuple #[.agg #[.int .i64 0, .int .i64 0, .int .i64 0, .int .i64 0], .bool false]) (by simp [results, Try.results37, go_sem, z20, z21, z22, z23]) rfl ⟨rfl, ?_⟩
  exact (((QT.put (by omega)).put (by omega)).put (by omega)).put (by omega)
set_option maxHeartbeats 2000000 in
set_option maxRecDepth 100000 in
theorem runlike_n2 (W H : Int) (a : Option Addr) (n c : Nat) (W' H' : Int) (a' : Option Addr) (n' c' : Nat) (w : World)  (C1 : ∀ w' : World, Calls Try.prog 18 #[.agg #[.int .i64 W, .int .i64 H, .slice a n c]] w' fun e w'' => e = .returned (.int .i64 0) ∧ Q w' w'') (C2 : ∀ w' : World, Calls Try.prog 18 #[.agg #[.int .i64 W', .int .i64 H', .slice a' n' c']] w' fun e w'' => e = .returned (.int .i64 0) ∧ Q w' w'') (e1 : (W != W') = true) :
    Calls Try.prog 37 #[.agg #[.int .i64 W, .int .i64 H, .slice a n c], .agg #[.int .i64 W', .int .i64 H', .slice a' n' c']] w fun e w' => e = .returned (.tuple #[.agg #[.int .i64 0, .int .i64 0, .int .i64 0, .int .i64 0], .bool false]) ∧ Q w w' := by
  have hb0 : ((0 : Int) != 0) = false := by decide
  obtain ⟨w1, hw1⟩ : ∃ w1, ((w.alloc (.cells #[.int .i64 W, .int .i64 H, .slice a n c] 25)).alloc (.cells #[.int .i64 W', .int .i64 H', .slice a' n' c'] 25)).alloc (.cells #[.int .i64 0, .int .i64 0, .int .i64 0, .int .i64 0] 56) = w1 := ⟨_, rfl⟩
  have Q1 : Hid (Q w w1) := by rw [← hw1]; exact ((((Q.refl w).cells _ _).cells _ _).cells _ _)
  have S1 : w1.heap.size = w.heap.size + 1 + 1 + 1 := by rw [← hw1]; simp
  have z00 : w1.cell? ⟨w.heap.size, 0, none⟩ = some (.int .i64 W) := by rw [← hw1]; simp [go_sem]
  have z01 : w1.cell? ⟨w.heap.size, 1, none⟩ = some (.int .i64 H) := by rw [← hw1]; simp [go_sem]
  have z02 : w1.cell? ⟨w.heap.size, 2, none⟩ = some (.slice a n c) := by rw [← hw1]; simp [go_sem]
  have z10 : w1.cell? ⟨w.heap.size + 1, 0, none⟩ = some (.int .i64 W') := by rw [← hw1]; simp [go_sem]
  have z11 : w1.cell? ⟨w.heap.size + 1, 1, none⟩ = some (.int .i64 H') := by rw [← hw1]; simp [go_sem]
  have z12 : w1.cell? ⟨w.heap.size + 1, 2, none⟩ = some (.slice a' n' c') := by rw [← hw1]; simp [go_sem]
  have z20 : w1.cell? ⟨w.heap.size + 1 + 1, 0, none⟩ = some (.int .i64 0) := by rw [← hw1]; simp [go_sem]
  have z21 : w1.cell? ⟨w.heap.size + 1 + 1, 1, none⟩ = some (.int .i64 0) := by rw [← hw1]; simp [go_sem]
  have z22 : w1.cell? ⟨w.heap.size + 1 + 1, 2, none⟩ = some (.int .i64 0) := by rw [← hw1]; simp [go_sem]
  have z23 : w1.cell? ⟨w.heap.size + 1 + 1, 3, none⟩ = some (.int .i64 0) := by rw [← hw1]; simp [go_sem]
  have yf : ∀ j, w1.frozen? ⟨w.heap.size + 1 + 1, j, none⟩ = false := fun j => by rw [← hw1]; simp [go_sem]
  have QT := Q1.out
  go_enter Try.func37, Try.ntmps37
  go_wp2_with fail
  clear hw1
  refine (C1 _).mono ?_
  rintro e m0 ⟨rfl, q0⟩
  replace z00 := q0.cell z00
  replace z01 := q0.cell z01
  replace z02 := q0.cell z02
  replace z10 := q0.cell z10
  replace z11 := q0.cell z11
  replace z12 := q0.cell z12
  replace z20 := q0.cell z20
  replace z21 := q0.cell z21
  replace z22 := q0.cell z22
  replace z23 := q0.cell z23
  replace QT := QT.trans q0
  replace yf : ∀ j, m0.frozen? ⟨w.heap.size + 1 + 1, j, none⟩ = false := fun j => by rw [q0.2]; exact yf j
  go_wp2_with fail
  refine (C2 _).mono ?_
  rintro e m1 ⟨rfl, q1⟩
  replace z00 := q1.cell z00
  replace z01 := q1.cell z01
  replace z02 := q1.cell z02
  replace z10 := q1.cell z10
  replace z11 := q1.cell z11
  replace z12 := q1.cell z12
  replace z20 := q1.cell z20
  replace z21 := q1.cell z21
  replace z22 := q1.cell z22
  replace z23 := q1.cell z23
  replace QT := QT.trans q1
  replace yf : ∀ j, m1.frozen? ⟨w.heap.size + 1 + 1, j, none⟩ = false := fun j => by rw [q1.2]; exact yf j
  go_wp2_with fail
  refine bodyPost_ret (v := .tuple #[.agg #[.int .i64 0, .int .i64 0, .int .i64 0, .int .i64 0], .bool false]) (by simp [results, Try.results37, go_sem, z20, z21, z22, z23]) rfl ⟨rfl, ?_⟩
  exact (((QT.put (by omega)).put (by omega)).put (by omega)).put (by omega)
set_option maxHeartbeats 2000000 in
set_option maxRecDepth 100000 in
theorem runlike_n3 (W H : Int) (a : Option Addr) (n c : Nat) (W' H' : Int) (a' : Option Addr) (n' c' : Nat) (w : World)  (C1 : ∀ w' : World, Calls Try.prog 18 #[.agg #[.int .i64 W, .int .i64 H, .slice a n c]] w' fun e w'' => e = .returned (.int .i64 0) ∧ Q w' w'') (C2 : ∀ w' : World, Calls Try.prog 18 #[.agg #[.int .i64 W', .int .i64 H', .slice a' n' c']] w' fun e w'' => e = .returned (.int .i64 0) ∧ Q w' w'') (e1 : (W != W') = false) (e2 : (H != H') = true) :
    Calls Try.prog 37 #[.agg #[.int .i64 W, .int .i64 H, .slice a n c], .agg #[.int .i64 W', .int .i64 H', .slice a' n' c']] w fun e w' => e = .returned (.tuple #[.agg #[.int .i64 0, .int .i64 0, .int .i64 0, .int .i64 0], .bool false]) ∧ Q w w' := by
  have hb0 : ((0 : Int) != 0) = false := by decide
  obtain ⟨w1, hw1⟩ : ∃ w1, ((w.alloc (.cells #[.int .i64 W, .int .i64 H, .slice a n c] 25)).alloc (.cells #[.int .i64 W', .int .i64 H', .slice a' n' c'] 25)).alloc (.cells #[.int .i64 0, .int .i64 0, .int .i64 0, .int .i64 0] 56) = w1 := ⟨_, rfl⟩
  have Q1 : Hid (Q w w1) := by rw [← hw1]; exact ((((Q.refl w).cells _ _).cells _ _).cells _ _)
  have S1 : w1.heap.size = w.heap.size + 1 + 1 + 1 := by rw [← hw1]; simp
  have z00 : w1.cell? ⟨w.heap.size, 0, none⟩ = some (.int .i64 W) := by rw [← hw1]; simp [go_sem]
  have z01 : w1.cell? ⟨w.heap.size, 1, none⟩ = some (.int .i64 H) := by rw [← hw1]; simp [go_sem]
  have z02 : w1.cell? ⟨w.heap.size, 2, none⟩ = some (.slice a n c) := by rw [← hw1]; simp [go_sem]
  have z10 : w1.cell? ⟨w.heap.size + 1, 0, none⟩ = some (.int .i64 W') := by rw [← hw1]; simp [go_sem]
  have z11 : w1.cell? ⟨w.heap.size + 1, 1, none⟩ = some (.int .i64 H') := by rw [← hw1]; simp [go_sem]
  have z12 : w1.cell? ⟨w.heap.size + 1, 2, none⟩ = some (.slice a' n' c') := by rw [← hw1]; simp [go_sem]
  have z20 : w1.cell? ⟨w.heap.size + 1 + 1, 0, none⟩ = some (.int .i64 0) := by rw [← hw1]; simp [go_sem]
  have z21 : w1.cell? ⟨w.heap.size + 1 + 1, 1, none⟩ = some (.int .i64 0) := by rw [← hw1]; simp [go_sem]
  have z22 : w1.cell? ⟨w.heap.size + 1 + 1, 2, none⟩ = some (.int .i64 0) := by rw [← hw1]; simp [go_sem]
  have z23 : w1.cell? ⟨w.heap.size + 1 + 1, 3, none⟩ = some (.int .i64 0) := by rw [← hw1]; simp [go_sem]
  have yf : ∀ j, w1.frozen? ⟨w.heap.size + 1 + 1, j, none⟩ = false := fun j => by rw [← hw1]; simp [go_sem]
  have QT := Q1.out
  go_enter Try.func37, Try.ntmps37
  go_wp2_with fail
  clear hw1
  refine (C1 _).mono ?_
  rintro e m0 ⟨rfl, q0⟩
  replace z00 := q0.cell z00
  replace z01 := q0.cell z01
  replace z02 := q0.cell z02
  replace z10 := q0.cell z10
  replace z11 := q0.cell z11
  replace z12 := q0.cell z12
  replace z20 := q0.cell z20
  replace z21 := q0.cell z21
  replace z22 := q0.cell z22
  replace z23 := q0.cell z23
  replace QT := QT.trans q0
  replace yf : ∀ j, m0.frozen? ⟨w.heap.size + 1 + 1, j, none⟩ = false := fun j => by rw [q0.2]; exact yf j
  go_wp2_with fail
  refine (C2 _).mono ?_
  rintro e m1 ⟨rfl, q1⟩
  replace z00 := q1.cell z00
  replace z01 := q1.cell z01
  replace z02 := q1.cell z02
  replace z10 := q1.cell z10
  replace z11 := q1.cell z11
  replace z12 := q1.cell z12
  replace z20 := q1.cell z20
  replace z21 := q1.cell z21
  replace z22 := q1.cell z22
  replace z23 := q1.cell z23
  replace QT := QT.trans q1
  replace yf : ∀ j, m1.frozen? ⟨w.heap.size + 1 + 1, j, none⟩ = false := fun j => by rw [q1.2]; exact yf j
  go_wp2_with fail
  refine bodyPost_ret (v := .tuple #[.agg #[.int .i64 0, .int .i64 0, .int .i64 0, .int .i64 0], .bool false]) (by simp [results, Try.results37, go_sem, z20, z21, z22, z23]) rfl ⟨rfl, ?_⟩
  exact (((QT.put (by omega)).put (by omega)).put (by omega)).put (by omega)
set_option maxHeartbeats 2000000 in
set_option maxRecDepth 100000 in
theorem runlike_n4 (W H : Int) (a : Option Addr) (n c : Nat) (W' H' : Int) (a' : Option Addr) (n' c' : Nat) (w : World)  (C1 : ∀ w' : World, Calls Try.prog 18 #[.agg #[.int .i64 W, .int .i64 H, .slice a n c]] w' fun e w'' => e = .returned (.int .i64 0) ∧ Q w' w'') (C2 : ∀ w' : World, Calls Try.prog 18 #[.agg #[.int .i64 W', .int .i64 H', .slice a' n' c']] w' fun e w'' => e = .returned (.int .i64 0) ∧ Q w' w'') (e1 : (W != W') = false) (e2 : (H != H') = false) (EQ : ∀ w' : World, Q w w' → Calls Try.prog 39 #[.agg #[.int .i64 W, .int .i64 H, .slice a n c], .agg #[.int .i64 W', .int .i64 H', .slice a' n' c']] w' fun e w'' => e = .returned (.bool true) ∧ Q w' w'') :
    Calls Try.prog 37 #[.agg #[.int .i64 W, .int .i64 H, .slice a n c], .agg #[.int .i64 W', .int .i64 H', .slice a' n' c']] w fun e w' => e = .returned (.tuple #[.agg #[.int .i64 0, .int .i64 0, .int .i64 0, .int .i64 0], .bool false]) ∧ Q w w' := by
  have hb0 : ((0 : Int) != 0) = false := by decide
  obtain ⟨w1, hw1⟩ : ∃ w1, ((w.alloc (.cells #[.int .i64 W, .int .i64 H, .slice a n c] 25)).alloc (.cells #[.int .i64 W', .int .i64 H', .slice a' n' c'] 25)).alloc (.cells #[.int .i64 0, .int .i64 0, .int .i64 0, .int .i64 0] 56) = w1 := ⟨_, rfl⟩
  have Q1 : Hid (Q w w1) := by rw [← hw1]; exact ((((Q.refl w).cells _ _).cells _ _).cells _ _)
  have S1 : w1.heap.size = w.heap.size + 1 + 1 + 1 := by rw [← hw1]; simp
  have z00 : w1.cell? ⟨w.heap.size, 0, none⟩ = some (.int .i64 W) := by rw [← hw1]; simp [go_sem]
  have z01 : w1.cell? ⟨w.heap.size, 1, none⟩ = some (.int .i64 H) := by rw [← hw1]; simp [go_sem]
  have z02 : w1.cell? ⟨w.heap.size, 2, none⟩ = some (.slice a n c) := by rw [← hw1]; simp [go_sem]
  have z10 : w1.cell? ⟨w.heap.size + 1, 0, none⟩ = some (.int .i64 W') := by rw [← hw1]; simp [go_sem]
  have z11 : w1.cell? ⟨w.heap.size + 1, 1, none⟩ = some (.int .i64 H') := by rw [← hw1]; simp [go_sem]
  have z12 : w1.cell? ⟨w.heap.size + 1, 2, none⟩ = some (.slice a' n' c') := by rw [← hw1]; simp [go_sem]
  have z20 : w1.cell? ⟨w.heap.size + 1 + 1, 0, none⟩ = some (.int .i64 0) := by rw [← hw1]; simp [go_sem]
  have z21 : w1.cell? ⟨w.heap.size + 1 + 1, 1, none⟩ = some (.int .i64 0) := by rw [← hw1]; simp [go_sem]
  have z22 : w1.cell? ⟨w.heap.size + 1 + 1, 2, none⟩ = some (.int .i64 0) := by rw [← hw1]; simp [go_sem]
  have z23 : w1.cell? ⟨w.heap.size + 1 + 1, 3, none⟩ = some (.int .i64 0) := by rw [← hw1]; simp [go_sem]
  have yf : ∀ j, w1.frozen? ⟨w.heap.size + 1 + 1, j, none⟩ = false := fun j => by rw [← hw1]; simp [go_sem]
  have QT := Q1.out
  go_enter Try.func37, Try.ntmps37
  go_wp2_with fail
  clear hw1
  refine (C1 _).mono ?_
  rintro e m0 ⟨rfl, q0⟩
  replace z00 := q0.cell z00
  replace z01 := q0.cell z01
  replace z02 := q0.cell z02
  replace z10 := q0.cell z10
  replace z11 := q0.cell z11
  replace z12 := q0.cell z12
  replace z20 := q0.cell z20
  replace z21 := q0.cell z21
  replace z22 := q0.cell z22
  replace z23 := q0.cell z23
  replace QT := QT.trans q0
  replace yf : ∀ j, m0.frozen? ⟨w.heap.size + 1 + 1, j, none⟩ = false := fun j => by rw [q0.2]; exact yf j
  go_wp2_with fail
  refine (C2 _).mono ?_
  rintro e m1 ⟨rfl, q1⟩
  replace z00 := q1.cell z00
  replace z01 := q1.cell z01
  replace z02 := q1.cell z02
  replace z10 := q1.cell z10
  replace z11 := q1.cell z11
  replace z12 := q1.cell z12
  replace z20 := q1.cell z20
  replace z21 := q1.cell z21
  replace z22 := q1.cell z22
  replace z23 := q1.cell z23
  replace QT := QT.trans q1
  replace yf : ∀ j, m1.frozen? ⟨w.heap.size + 1 + 1, j, none⟩ = false := fun j => by rw [q1.2]; exact yf j
  go_wp2_with fail
  refine (EQ _ QT).mono ?_
  rintro e m2 ⟨rfl, q2⟩
  replace z00 := q2.cell z00
  replace z01 := q2.cell z01
  replace z02 := q2.cell z02
  replace z10 := q2.cell z10
  replace z11 := q2.cell z11
  replace z12 := q2.cell z12
  replace z20 := q2.cell z20
  replace z21 := q2.cell z21
  replace z22 := q2.cell z22
  replace z23 := q2.cell z23
  replace QT := QT.trans q2
  replace yf : ∀ j, m2.frozen? ⟨w.heap.size + 1 + 1, j, none⟩ = false := fun j => by rw [q2.2]; exact yf j
  go_wp2_with fail
  refine bodyPost_ret (v := .tuple #[.agg #[.int .i64 0, .int .i64 0, .int .i64 0, .int .i64 0], .bool false]) (by simp [results, Try.results37, go_sem, z20, z21, z22, z23]) rfl ⟨rfl, ?_⟩
  exact (((QT.put (by omega)).put (by omega)).put (by omega)).put (by omega)
theorem runlike_no (W H : Int) (v : Value) (S : List Nat) (W' H' : Int) (v' : Value) (T : List Nat) (w : World) (hS : USl w v S) (hT : USl w v' T) (hn : S.length ≤ 9223372036854775807) (hn' : T.length ≤ 9223372036854775807) (h : ¬ UnOk W H S W' H' T) :
    Calls Try.prog 37 #[.agg #[.int .i64 W, .int .i64 H, v], .agg #[.int .i64 W', .int .i64 H', v']] w fun e w' => e = .returned (.tuple #[.agg #[.int .i64 0, .int .i64 0, .int .i64 0, .int .i64 0], .bool false]) ∧ Q w w' := by
  have EQ := fun (w' : World) (q : Q w w') => requal_any W H v S W' H' v' T w' (hS.next q) (hT.next q) hn hn'
  obtain ⟨a, cap, ev⟩ := hS.form
  obtain ⟨a', cap', ev'⟩ := hT.form
  subst ev ev'
  have C1 := fun w' : World => rcheck_any W H a S.length cap hn w'
  have C2 := fun w' : World => rcheck_any W' H' a' T.length cap' hn' w'
  by_cases h1 : chk W H S.length = 0
  · rw [h1] at C1
    by_cases h2 : chk W' H' T.length = 0
    · rw [h2] at C2
      by_cases e1 : W = W'
      · by_cases e2 : H = H'
        · have h3 : S = T := by
            by_cases g : S = T
            · exact g
            · exact absurd ⟨e1, e2, h1, h2, g⟩ h
          rw [eqB_true.2 ⟨e1, e2, h3⟩] at EQ
          exact runlike_n4 W H a _ cap W' H' a' _ cap' w C1 C2 (by rw [e1]; exact bne_self_eq_false _) (by rw [e2]; exact bne_self_eq_false _) EQ
        · exact runlike_n3 W H a _ cap W' H' a' _ cap' w C1 C2 (by rw [e1]; exact bne_self_eq_false _) (by rw [bne_iff_ne]; exact e2)
      · exact runlike_n2 W H a _ cap W' H' a' _ cap' w C1 C2 (by rw [bne_iff_ne]; exact e1)
    · exact runlike_n1 W H a _ cap W' H' a' _ cap' w C1 C2 (by rw [bne_iff_ne]; exact h2)
  · exact runlike_n0 W H a _ cap W' H' a' _ cap' w C1 (by rw [bne_iff_ne]; exact h1)
end Go.Proofs.Ytkgfohodahkmmaa

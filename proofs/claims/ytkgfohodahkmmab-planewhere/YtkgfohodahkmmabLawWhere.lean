/- What is said of where two planes are unlike: the walk. -/
import Derived.Test.YtkgfohodahkmmabWhereM
namespace Go.Proofs.Ytkgfohodahkmmab
open Go.RowKit
set_option linter.unusedVariables false
set_option linter.unusedSimpArgs false

set_option maxHeartbeats 2000000 in
set_option maxRecDepth 100000 in
theorem where_n0 (W H : Int) (a : Option Addr) (n c : Nat) (W' H' : Int) (a' : Option Addr) (n' c' : Nat) (w : World) {r : Int} (UN : ∀ w' : World, Q w w' → Calls Try.prog 13 #[.agg #[.int .i64 W, .int .i64 H, .slice a n c], .agg #[.int .i64 W', .int .i64 H', .slice a' n' c']] w' fun e w'' => e = .returned (.tuple #[.agg #[.int .i64 0, .int .i64 0, .int .i64 0, .int .i64 0], .bool false]) ∧ Q w' w'') (C1 : ∀ w' : World, Calls Try.prog 14 #[.agg #[.int .i64 W, .int .i64 H, .slice a n c]] w' fun e w'' => e = .returned (.int .i64 r) ∧ Q w' w'') (hr : (r != 0) = true) :
    Calls Try.prog 5 #[.agg #[.int .i64 W, .int .i64 H, .slice a n c], .agg #[.int .i64 W', .int .i64 H', .slice a' n' c']] w fun e w' => e = .returned (.bool true) ∧ Q w w' := by
  have hb0 : ((0 : Int) != 0) = false := by decide
  have hb1 : ((0 : Int) == 0) = true := by decide
  obtain ⟨w1, hw1⟩ : ∃ w1, (w.alloc (.cells #[.int .i64 W, .int .i64 H, .slice a n c] 24)).alloc (.cells #[.int .i64 W', .int .i64 H', .slice a' n' c'] 24) = w1 := ⟨_, rfl⟩
  have Q1 : Hid (Q w w1) := by rw [← hw1]; exact (((Q.refl w).cells _ _).cells _ _)
  have S1 : w1.heap.size = w.heap.size + 1 + 1 := by rw [← hw1]; simp
  have z00 : w1.cell? ⟨w.heap.size, 0, none⟩ = some (.int .i64 W) := by rw [← hw1]; simp [go_sem]
  have z01 : w1.cell? ⟨w.heap.size, 1, none⟩ = some (.int .i64 H) := by rw [← hw1]; simp [go_sem]
  have z02 : w1.cell? ⟨w.heap.size, 2, none⟩ = some (.slice a n c) := by rw [← hw1]; simp [go_sem]
  have z10 : w1.cell? ⟨w.heap.size + 1, 0, none⟩ = some (.int .i64 W') := by rw [← hw1]; simp [go_sem]
  have z11 : w1.cell? ⟨w.heap.size + 1, 1, none⟩ = some (.int .i64 H') := by rw [← hw1]; simp [go_sem]
  have z12 : w1.cell? ⟨w.heap.size + 1, 2, none⟩ = some (.slice a' n' c') := by rw [← hw1]; simp [go_sem]
  have QT := Q1.out
  have K := known_any w1
  go_enter Try.func5, Try.ntmps5
  go_wp2_with fail
  clear hw1
  refine K.mono ?_
  rintro e k1 ⟨rfl, kq⟩
  replace z00 := kq.cell z00
  replace z01 := kq.cell z01
  replace z02 := kq.cell z02
  replace z10 := kq.cell z10
  replace z11 := kq.cell z11
  replace z12 := kq.cell z12
  replace QT := QT.trans kq
  clear K
  go_wp2_with fail
  refine (UN _ QT).mono ?_
  rintro e u1 ⟨rfl, uq⟩
  have uz : Q u1 (u1.alloc (.cells #[.int .i64 0, .int .i64 0, .int .i64 0, .int .i64 0] 26)) := (Q.refl _).cells _ _
  replace z00 := (uq.trans uz).cell z00
  replace z01 := (uq.trans uz).cell z01
  replace z02 := (uq.trans uz).cell z02
  replace z10 := (uq.trans uz).cell z10
  replace z11 := (uq.trans uz).cell z11
  replace z12 := (uq.trans uz).cell z12
  replace QT := (QT.trans uq).trans uz
  clear UN
  go_wp2_with fail
  refine (C1 _).mono ?_
  rintro e m0 ⟨rfl, q0⟩
  replace z00 := q0.cell z00
  replace z01 := q0.cell z01
  replace z02 := q0.cell z02
  replace z10 := q0.cell z10
  replace z11 := q0.cell z11
  replace z12 := q0.cell z12
  replace QT := QT.trans q0
  go_wp2_with fail
  go_ret
  exact ⟨rfl, QT⟩
set_option maxHeartbeats 2000000 in
set_option maxRecDepth 100000 in
theorem where_n1 (W H : Int) (a : Option Addr) (n c : Nat) (W' H' : Int) (a' : Option Addr) (n' c' : Nat) (w : World) {r : Int} (UN : ∀ w' : World, Q w w' → Calls Try.prog 13 #[.agg #[.int .i64 W, .int .i64 H, .slice a n c], .agg #[.int .i64 W', .int .i64 H', .slice a' n' c']] w' fun e w'' => e = .returned (.tuple #[.agg #[.int .i64 0, .int .i64 0, .int .i64 0, .int .i64 0], .bool false]) ∧ Q w' w'') (C1 : ∀ w' : World, Calls Try.prog 14 #[.agg #[.int .i64 W, .int .i64 H, .slice a n c]] w' fun e w'' => e = .returned (.int .i64 0) ∧ Q w' w'') (C2 : ∀ w' : World, Calls Try.prog 14 #[.agg #[.int .i64 W', .int .i64 H', .slice a' n' c']] w' fun e w'' => e = .returned (.int .i64 r) ∧ Q w' w'') (hr : (r != 0) = true) :
    Calls Try.prog 5 #[.agg #[.int .i64 W, .int .i64 H, .slice a n c], .agg #[.int .i64 W', .int .i64 H', .slice a' n' c']] w fun e w' => e = .returned (.bool true) ∧ Q w w' := by
  have hb0 : ((0 : Int) != 0) = false := by decide
  have hb1 : ((0 : Int) == 0) = true := by decide
  obtain ⟨w1, hw1⟩ : ∃ w1, (w.alloc (.cells #[.int .i64 W, .int .i64 H, .slice a n c] 24)).alloc (.cells #[.int .i64 W', .int .i64 H', .slice a' n' c'] 24) = w1 := ⟨_, rfl⟩
  have Q1 : Hid (Q w w1) := by rw [← hw1]; exact (((Q.refl w).cells _ _).cells _ _)
  have S1 : w1.heap.size = w.heap.size + 1 + 1 := by rw [← hw1]; simp
  have z00 : w1.cell? ⟨w.heap.size, 0, none⟩ = some (.int .i64 W) := by rw [← hw1]; simp [go_sem]
  have z01 : w1.cell? ⟨w.heap.size, 1, none⟩ = some (.int .i64 H) := by rw [← hw1]; simp [go_sem]
  have z02 : w1.cell? ⟨w.heap.size, 2, none⟩ = some (.slice a n c) := by rw [← hw1]; simp [go_sem]
  have z10 : w1.cell? ⟨w.heap.size + 1, 0, none⟩ = some (.int .i64 W') := by rw [← hw1]; simp [go_sem]
  have z11 : w1.cell? ⟨w.heap.size + 1, 1, none⟩ = some (.int .i64 H') := by rw [← hw1]; simp [go_sem]
  have z12 : w1.cell? ⟨w.heap.size + 1, 2, none⟩ = some (.slice a' n' c') := by rw [← hw1]; simp [go_sem]
  have QT := Q1.out
  have K := known_any w1
  go_enter Try.func5, Try.ntmps5
  go_wp2_with fail
  clear hw1
  refine K.mono ?_
  rintro e k1 ⟨rfl, kq⟩
  replace z00 := kq.cell z00
  replace z01 := kq.cell z01
  replace z02 := kq.cell z02
  replace z10 := kq.cell z10
  replace z11 := kq.cell z11
  replace z12 := kq.cell z12
  replace QT := QT.trans kq
  clear K
  go_wp2_with fail
  refine (UN _ QT).mono ?_
  rintro e u1 ⟨rfl, uq⟩
  have uz : Q u1 (u1.alloc (.cells #[.int .i64 0, .int .i64 0, .int .i64 0, .int .i64 0] 26)) := (Q.refl _).cells _ _
  replace z00 := (uq.trans uz).cell z00
  replace z01 := (uq.trans uz).cell z01
  replace z02 := (uq.trans uz).cell z02
  replace z10 := (uq.trans uz).cell z10
  replace z11 := (uq.trans uz).cell z11
  replace z12 := (uq.trans uz).cell z12
  replace QT := (QT.trans uq).trans uz
  clear UN
  go_wp2_with fail
  refine (C1 _).mono ?_
  rintro e m0 ⟨rfl, q0⟩
  replace z00 := q0.cell z00
  replace z01 := q0.cell z01
  replace z02 := q0.cell z02
  replace z10 := q0.cell z10
  replace z11 := q0.cell z11
  replace z12 := q0.cell z12
  replace QT := QT.trans q0
  go_wp2_with fail
  refine (C2 _).mono ?_
  rintro e m1 ⟨rfl, q1⟩
  replace z00 := q1.cell z00
  replace z01 := q1.cell z01
  replace z02 := q1.cell z02
  replace z10 := q1.cell z10
  replace z11 := q1.cell z11
  replace z12 := q1.cell z12
  replace QT := QT.trans q1
  go_wp2_with fail
  go_ret
  exact ⟨rfl, QT⟩
set_option maxHeartbeats 2000000 in
set_option maxRecDepth 100000 in
theorem where_n2 (W H : Int) (a : Option Addr) (n c : Nat) (W' H' : Int) (a' : Option Addr) (n' c' : Nat) (w : World)  (UN : ∀ w' : World, Q w w' → Calls Try.prog 13 #[.agg #[.int .i64 W, .int .i64 H, .slice a n c], .agg #[.int .i64 W', .int .i64 H', .slice a' n' c']] w' fun e w'' => e = .returned (.tuple #[.agg #[.int .i64 0, .int .i64 0, .int .i64 0, .int .i64 0], .bool false]) ∧ Q w' w'') (C1 : ∀ w' : World, Calls Try.prog 14 #[.agg #[.int .i64 W, .int .i64 H, .slice a n c]] w' fun e w'' => e = .returned (.int .i64 0) ∧ Q w' w'') (C2 : ∀ w' : World, Calls Try.prog 14 #[.agg #[.int .i64 W', .int .i64 H', .slice a' n' c']] w' fun e w'' => e = .returned (.int .i64 0) ∧ Q w' w'') (e1 : (W != W') = true) :
    Calls Try.prog 5 #[.agg #[.int .i64 W, .int .i64 H, .slice a n c], .agg #[.int .i64 W', .int .i64 H', .slice a' n' c']] w fun e w' => e = .returned (.bool true) ∧ Q w w' := by
  have hb0 : ((0 : Int) != 0) = false := by decide
  have hb1 : ((0 : Int) == 0) = true := by decide
  obtain ⟨w1, hw1⟩ : ∃ w1, (w.alloc (.cells #[.int .i64 W, .int .i64 H, .slice a n c] 24)).alloc (.cells #[.int .i64 W', .int .i64 H', .slice a' n' c'] 24) = w1 := ⟨_, rfl⟩
  have Q1 : Hid (Q w w1) := by rw [← hw1]; exact (((Q.refl w).cells _ _).cells _ _)
  have S1 : w1.heap.size = w.heap.size + 1 + 1 := by rw [← hw1]; simp
  have z00 : w1.cell? ⟨w.heap.size, 0, none⟩ = some (.int .i64 W) := by rw [← hw1]; simp [go_sem]
  have z01 : w1.cell? ⟨w.heap.size, 1, none⟩ = some (.int .i64 H) := by rw [← hw1]; simp [go_sem]
  have z02 : w1.cell? ⟨w.heap.size, 2, none⟩ = some (.slice a n c) := by rw [← hw1]; simp [go_sem]
  have z10 : w1.cell? ⟨w.heap.size + 1, 0, none⟩ = some (.int .i64 W') := by rw [← hw1]; simp [go_sem]
  have z11 : w1.cell? ⟨w.heap.size + 1, 1, none⟩ = some (.int .i64 H') := by rw [← hw1]; simp [go_sem]
  have z12 : w1.cell? ⟨w.heap.size + 1, 2, none⟩ = some (.slice a' n' c') := by rw [← hw1]; simp [go_sem]
  have QT := Q1.out
  have K := known_any w1
  go_enter Try.func5, Try.ntmps5
  go_wp2_with fail
  clear hw1
  refine K.mono ?_
  rintro e k1 ⟨rfl, kq⟩
  replace z00 := kq.cell z00
  replace z01 := kq.cell z01
  replace z02 := kq.cell z02
  replace z10 := kq.cell z10
  replace z11 := kq.cell z11
  replace z12 := kq.cell z12
  replace QT := QT.trans kq
  clear K
  go_wp2_with fail
  refine (UN _ QT).mono ?_
  rintro e u1 ⟨rfl, uq⟩
  have uz : Q u1 (u1.alloc (.cells #[.int .i64 0, .int .i64 0, .int .i64 0, .int .i64 0] 26)) := (Q.refl _).cells _ _
  replace z00 := (uq.trans uz).cell z00
  replace z01 := (uq.trans uz).cell z01
  replace z02 := (uq.trans uz).cell z02
  replace z10 := (uq.trans uz).cell z10
  replace z11 := (uq.trans uz).cell z11
  replace z12 := (uq.trans uz).cell z12
  replace QT := (QT.trans uq).trans uz
  clear UN
  go_wp2_with fail
  refine (C1 _).mono ?_
  rintro e m0 ⟨rfl, q0⟩
  replace z00 := q0.cell z00
  replace z01 := q0.cell z01
  replace z02 := q0.cell z02
  replace z10 := q0.cell z10
  replace z11 := q0.cell z11
  replace z12 := q0.cell z12
  replace QT := QT.trans q0
  go_wp2_with fail
  refine (C2 _).mono ?_
  rintro e m1 ⟨rfl, q1⟩
  replace z00 := q1.cell z00
  replace z01 := q1.cell z01
  replace z02 := q1.cell z02
  replace z10 := q1.cell z10
  replace z11 := q1.cell z11
  replace z12 := q1.cell z12
  replace QT := QT.trans q1
  go_wp2_with fail
  go_ret
  exact ⟨rfl, QT⟩
set_option maxHeartbeats 2000000 in
set_option maxRecDepth 100000 in
theorem where_n3 (W H : Int) (a : Option Addr) (n c : Nat) (W' H' : Int) (a' : Option Addr) (n' c' : Nat) (w : World)  (UN : ∀ w' : World, Q w w' → Calls Try.prog 13 #[.agg #[.int .i64 W, .int .i64 H, .slice a n c], .agg #[.int .i64 W', .int .i64 H', .slice a' n' c']] w' fun e w'' => e = .returned (.tuple #[.agg #[.int .i64 0, .int .i64 0, .int .i64 0, .int .i64 0], .bool false]) ∧ Q w' w'') (C1 : ∀ w' : World, Calls Try.prog 14 #[.agg #[.int .i64 W, .int .i64 H, .slice a n c]] w' fun e w'' => e = .returned (.int .i64 0) ∧ Q w' w'') (C2 : ∀ w' : World, Calls Try.prog 14 #[.agg #[.int .i64 W', .int .i64 H', .slice a' n' c']] w' fun e w'' => e = .returned (.int .i64 0) ∧ Q w' w'') (e1 : (W != W') = false) (e2 : (H != H') = true) :
    Calls Try.prog 5 #[.agg #[.int .i64 W, .int .i64 H, .slice a n c], .agg #[.int .i64 W', .int .i64 H', .slice a' n' c']] w fun e w' => e = .returned (.bool true) ∧ Q w w' := by
  have hb0 : ((0 : Int) != 0) = false := by decide
  have hb1 : ((0 : Int) == 0) = true := by decide
  obtain ⟨w1, hw1⟩ : ∃ w1, (w.alloc (.cells #[.int .i64 W, .int .i64 H, .slice a n c] 24)).alloc (.cells #[.int .i64 W', .int .i64 H', .slice a' n' c'] 24) = w1 := ⟨_, rfl⟩
  have Q1 : Hid (Q w w1) := by rw [← hw1]; exact (((Q.refl w).cells _ _).cells _ _)
  have S1 : w1.heap.size = w.heap.size + 1 + 1 := by rw [← hw1]; simp
  have z00 : w1.cell? ⟨w.heap.size, 0, none⟩ = some (.int .i64 W) := by rw [← hw1]; simp [go_sem]
  have z01 : w1.cell? ⟨w.heap.size, 1, none⟩ = some (.int .i64 H) := by rw [← hw1]; simp [go_sem]
  have z02 : w1.cell? ⟨w.heap.size, 2, none⟩ = some (.slice a n c) := by rw [← hw1]; simp [go_sem]
  have z10 : w1.cell? ⟨w.heap.size + 1, 0, none⟩ = some (.int .i64 W') := by rw [← hw1]; simp [go_sem]
  have z11 : w1.cell? ⟨w.heap.size + 1, 1, none⟩ = some (.int .i64 H') := by rw [← hw1]; simp [go_sem]
  have z12 : w1.cell? ⟨w.heap.size + 1, 2, none⟩ = some (.slice a' n' c') := by rw [← hw1]; simp [go_sem]
  have QT := Q1.out
  have K := known_any w1
  go_enter Try.func5, Try.ntmps5
  go_wp2_with fail
  clear hw1
  refine K.mono ?_
  rintro e k1 ⟨rfl, kq⟩
  replace z00 := kq.cell z00
  replace z01 := kq.cell z01
  replace z02 := kq.cell z02
  replace z10 := kq.cell z10
  replace z11 := kq.cell z11
  replace z12 := kq.cell z12
  replace QT := QT.trans kq
  clear K
  go_wp2_with fail
  refine (UN _ QT).mono ?_
  rintro e u1 ⟨rfl, uq⟩
  have uz : Q u1 (u1.alloc (.cells #[.int .i64 0, .int .i64 0, .int .i64 0, .int .i64 0] 26)) := (Q.refl _).cells _ _
  replace z00 := (uq.trans uz).cell z00
  replace z01 := (uq.trans uz).cell z01
  replace z02 := (uq.trans uz).cell z02
  replace z10 := (uq.trans uz).cell z10
  replace z11 := (uq.trans uz).cell z11
  replace z12 := (uq.trans uz).cell z12
  replace QT := (QT.trans uq).trans uz
  clear UN
  go_wp2_with fail
  refine (C1 _).mono ?_
  rintro e m0 ⟨rfl, q0⟩
  replace z00 := q0.cell z00
  replace z01 := q0.cell z01
  replace z02 := q0.cell z02
  replace z10 := q0.cell z10
  replace z11 := q0.cell z11
  replace z12 := q0.cell z12
  replace QT := QT.trans q0
  go_wp2_with fail
  refine (C2 _).mono ?_
  rintro e m1 ⟨rfl, q1⟩
  replace z00 := q1.cell z00
  replace z01 := q1.cell z01
  replace z02 := q1.cell z02
  replace z10 := q1.cell z10
  replace z11 := q1.cell z11
  replace z12 := q1.cell z12
  replace QT := QT.trans q1
  go_wp2_with fail
  go_ret
  exact ⟨rfl, QT⟩
set_option maxHeartbeats 2000000 in
set_option maxRecDepth 100000 in
theorem where_n4 (W H : Int) (a : Option Addr) (n c : Nat) (W' H' : Int) (a' : Option Addr) (n' c' : Nat) (w : World)  (UN : ∀ w' : World, Q w w' → Calls Try.prog 13 #[.agg #[.int .i64 W, .int .i64 H, .slice a n c], .agg #[.int .i64 W', .int .i64 H', .slice a' n' c']] w' fun e w'' => e = .returned (.tuple #[.agg #[.int .i64 0, .int .i64 0, .int .i64 0, .int .i64 0], .bool false]) ∧ Q w' w'') (C1 : ∀ w' : World, Calls Try.prog 14 #[.agg #[.int .i64 W, .int .i64 H, .slice a n c]] w' fun e w'' => e = .returned (.int .i64 0) ∧ Q w' w'') (C2 : ∀ w' : World, Calls Try.prog 14 #[.agg #[.int .i64 W', .int .i64 H', .slice a' n' c']] w' fun e w'' => e = .returned (.int .i64 0) ∧ Q w' w'') (e1 : (W != W') = false) (e2 : (H != H') = false) (EQ : ∀ w' : World, Q w w' → Calls Try.prog 15 #[.agg #[.int .i64 W, .int .i64 H, .slice a n c], .agg #[.int .i64 W', .int .i64 H', .slice a' n' c']] w' fun e w'' => e = .returned (.bool true) ∧ Q w' w'') :
    Calls Try.prog 5 #[.agg #[.int .i64 W, .int .i64 H, .slice a n c], .agg #[.int .i64 W', .int .i64 H', .slice a' n' c']] w fun e w' => e = .returned (.bool true) ∧ Q w w' := by
  have hb0 : ((0 : Int) != 0) = false := by decide
  have hb1 : ((0 : Int) == 0) = true := by decide
  obtain ⟨w1, hw1⟩ : ∃ w1, (w.alloc (.cells #[.int .i64 W, .int .i64 H, .slice a n c] 24)).alloc (.cells #[.int .i64 W', .int .i64 H', .slice a' n' c'] 24) = w1 := ⟨_, rfl⟩
  have Q1 : Hid (Q w w1) := by rw [← hw1]; exact (((Q.refl w).cells _ _).cells _ _)
  have S1 : w1.heap.size = w.heap.size + 1 + 1 := by rw [← hw1]; simp
  have z00 : w1.cell? ⟨w.heap.size, 0, none⟩ = some (.int .i64 W) := by rw [← hw1]; simp [go_sem]
  have z01 : w1.cell? ⟨w.heap.size, 1, none⟩ = some (.int .i64 H) := by rw [← hw1]; simp [go_sem]
  have z02 : w1.cell? ⟨w.heap.size, 2, none⟩ = some (.slice a n c) := by rw [← hw1]; simp [go_sem]
  have z10 : w1.cell? ⟨w.heap.size + 1, 0, none⟩ = some (.int .i64 W') := by rw [← hw1]; simp [go_sem]
  have z11 : w1.cell? ⟨w.heap.size + 1, 1, none⟩ = some (.int .i64 H') := by rw [← hw1]; simp [go_sem]
  have z12 : w1.cell? ⟨w.heap.size + 1, 2, none⟩ = some (.slice a' n' c') := by rw [← hw1]; simp [go_sem]
  have QT := Q1.out
  have K := known_any w1
  go_enter Try.func5, Try.ntmps5
  go_wp2_with fail
  clear hw1
  refine K.mono ?_
  rintro e k1 ⟨rfl, kq⟩
  replace z00 := kq.cell z00
  replace z01 := kq.cell z01
  replace z02 := kq.cell z02
  replace z10 := kq.cell z10
  replace z11 := kq.cell z11
  replace z12 := kq.cell z12
  replace QT := QT.trans kq
  clear K
  go_wp2_with fail
  refine (UN _ QT).mono ?_
  rintro e u1 ⟨rfl, uq⟩
  have uz : Q u1 (u1.alloc (.cells #[.int .i64 0, .int .i64 0, .int .i64 0, .int .i64 0] 26)) := (Q.refl _).cells _ _
  replace z00 := (uq.trans uz).cell z00
  replace z01 := (uq.trans uz).cell z01
  replace z02 := (uq.trans uz).cell z02
  replace z10 := (uq.trans uz).cell z10
  replace z11 := (uq.trans uz).cell z11
  replace z12 := (uq.trans uz).cell z12
  replace QT := (QT.trans uq).trans uz
  clear UN
  go_wp2_with fail
  refine (C1 _).mono ?_
  rintro e m0 ⟨rfl, q0⟩
  replace z00 := q0.cell z00
  replace z01 := q0.cell z01
  replace z02 := q0.cell z02
  replace z10 := q0.cell z10
  replace z11 := q0.cell z11
  replace z12 := q0.cell z12
  replace QT := QT.trans q0
  go_wp2_with fail
  refine (C2 _).mono ?_
  rintro e m1 ⟨rfl, q1⟩
  replace z00 := q1.cell z00
  replace z01 := q1.cell z01
  replace z02 := q1.cell z02
  replace z10 := q1.cell z10
  replace z11 := q1.cell z11
  replace z12 := q1.cell z12
  replace QT := QT.trans q1
  go_wp2_with fail
  refine (EQ _ QT).mono ?_
  rintro e m2 ⟨rfl, q2⟩
  replace z00 := q2.cell z00
  replace z01 := q2.cell z01
  replace z02 := q2.cell z02
  replace z10 := q2.cell z10
  replace z11 := q2.cell z11
  replace z12 := q2.cell z12
  replace QT := QT.trans q2
  go_wp2_with fail
  go_ret
  exact ⟨rfl, QT⟩
set_option maxHeartbeats 16000000 in
set_option maxRecDepth 100000 in
theorem where_yes {a b : Nat} (hs : Size a b) {S : List Nat} (hl : S.length = a * b) (g o cap : Nat) {T : List Nat} (hl' : T.length = a * b) (g' o' cap' : Nat) (hcap : S.length ≤ cap) (hcap' : T.length ≤ cap') (hne : S ≠ T) (w : World) (hu : UIs w g o S) (hu' : UIs w g' o' T) :
    Calls Try.prog 5 #[.agg #[.int .i64 (a : Int), .int .i64 (b : Int), .slice (some ⟨g, o, none⟩) S.length cap], .agg #[.int .i64 (a : Int), .int .i64 (b : Int), .slice (some ⟨g', o', none⟩) T.length cap']] w fun e w' => e = .returned (.bool true) ∧ Q w w' := by
  have hb0 : ((0 : Int) != 0) = false := by decide
  have hbA : ((a : Int) != (a : Int)) = false := by simp
  have hbB : ((b : Int) != (b : Int)) = false := by simp
  have hn : S.length ≤ 65536 := by rw [hl]; exact hs.ab
  have hn' : T.length ≤ 65536 := by rw [hl']; exact hs.ab
  obtain ⟨w1, hw1⟩ : ∃ w1, (w.alloc (.cells #[.int .i64 (a : Int), .int .i64 (b : Int), .slice (some ⟨g, o, none⟩) S.length cap] 24)).alloc (.cells #[.int .i64 (a : Int), .int .i64 (b : Int), .slice (some ⟨g', o', none⟩) T.length cap'] 24) = w1 := ⟨_, rfl⟩
  have Q1 : Hid (Q w w1) := by rw [← hw1]; exact (((Q.refl w).cells _ _).cells _ _)
  have S1 : w1.heap.size = w.heap.size + 1 + 1 := by rw [← hw1]; simp
  have z00 : w1.cell? ⟨w.heap.size, 0, none⟩ = some (.int .i64 (a : Int)) := by rw [← hw1]; simp [go_sem]
  have z01 : w1.cell? ⟨w.heap.size, 1, none⟩ = some (.int .i64 (b : Int)) := by rw [← hw1]; simp [go_sem]
  have z02 : w1.cell? ⟨w.heap.size, 2, none⟩ = some (.slice (some ⟨g, o, none⟩) S.length cap) := by rw [← hw1]; simp [go_sem]
  have z10 : w1.cell? ⟨w.heap.size + 1, 0, none⟩ = some (.int .i64 (a : Int)) := by rw [← hw1]; simp [go_sem]
  have z11 : w1.cell? ⟨w.heap.size + 1, 1, none⟩ = some (.int .i64 (b : Int)) := by rw [← hw1]; simp [go_sem]
  have z12 : w1.cell? ⟨w.heap.size + 1, 2, none⟩ = some (.slice (some ⟨g', o', none⟩) T.length cap') := by rw [← hw1]; simp [go_sem]
  have QT := Q1.out
  have K := known_any w1
  have UN : Hid (∀ w' : World, Q w w' → Calls Try.prog 13 #[.agg #[.int .i64 (a : Int), .int .i64 (b : Int), .slice (some ⟨g, o, none⟩) S.length cap], .agg #[.int .i64 (a : Int), .int .i64 (b : Int), .slice (some ⟨g', o', none⟩) T.length cap']] w' fun e w'' => e = .returned (.tuple #[(unR S T a b (a * b)).v, .bool true]) ∧ Q w' w'') := fun w' q => unlike_yes hs hl g o cap hl' g' o' cap' hcap hcap' hne w' (hu.next q) (hu'.next q)
  have C1 : ∀ w' : World, Calls Try.prog 14 #[.agg #[.int .i64 (a : Int), .int .i64 (b : Int), .slice (some ⟨g, o, none⟩) S.length cap]] w' fun e w'' => e = .returned (.int .i64 0) ∧ Q w' w'' := fun w' => by
    have := rcheck_any (a : Int) (b : Int) (some ⟨g, o, none⟩) S.length cap (by omega) w'
    rw [show chk (a : Int) (b : Int) S.length = 0 by rw [hl]; exact chk_size hs] at this
    exact this
  have C2 : ∀ w' : World, Calls Try.prog 14 #[.agg #[.int .i64 (a : Int), .int .i64 (b : Int), .slice (some ⟨g', o', none⟩) T.length cap']] w' fun e w'' => e = .returned (.int .i64 0) ∧ Q w' w'' := fun w' => by
    have := rcheck_any (a : Int) (b : Int) (some ⟨g', o', none⟩) T.length cap' (by omega) w'
    rw [show chk (a : Int) (b : Int) T.length = 0 by rw [hl']; exact chk_size hs] at this
    exact this
  have EQ : ∀ w' : World, Q w w' → Calls Try.prog 15 #[.agg #[.int .i64 (a : Int), .int .i64 (b : Int), .slice (some ⟨g, o, none⟩) S.length cap], .agg #[.int .i64 (a : Int), .int .i64 (b : Int), .slice (some ⟨g', o', none⟩) T.length cap']] w' fun e w'' => e = .returned (.bool false) ∧ Q w' w'' := fun w' q => by
    have := equal_any (a : Int) (b : Int) _ S (a : Int) (b : Int) _ T w' ((hu.next q).usl hcap) ((hu'.next q).usl hcap') (by omega) (by omega)
    rw [eqB_false (fun h => hne h.2.2)] at this
    exact this
  have HS : Hid (Size a b) := hs
  have HL : Hid (S.length = a * b ∧ T.length = a * b) := ⟨hl, hl'⟩
  have HLL : Hid (S.length = T.length) := by show S.length = T.length; rw [hl, hl']
  have HU : Hid (UIs w g o S ∧ UIs w g' o' T) := ⟨hu, hu'⟩
  have HB : Hid (∀ i, i < a * b → ¬ S.getD i 0 = T.getD i 0 → (unR S T a b (a * b)).x0 ≤ ((i % a : Nat) : Int) ∧ ((i % a : Nat) : Int) < (unR S T a b (a * b)).x1 ∧ (unR S T a b (a * b)).y0 ≤ ((i / a : Nat) : Int) ∧ ((i / a : Nat) : Int) < (unR S T a b (a * b)).y1 ∧ (unR S T a b (a * b)).x1 ≤ 1024 ∧ (unR S T a b (a * b)).y1 ≤ 1024) := fun i hi hd => rect_bd hs hi hd
  have HM : Hid (∀ p q r s : Bool, Met S T a (a * b) (unR S T a b (a * b)) p q r s → sd p q r s = 15) := fun p q r s h => met_all hs hl hl' hne h
  have M0 : Hid (Met S T a 0 (unR S T a b (a * b)) false false false false) := fun i hi => absurd hi (Nat.not_lt_zero _)
  generalize unR S T a b (a * b) = R at UN HB HM M0
  have a1 := hs.a1
  have a2 := hs.a2
  clear hs hl hl' hu hu' hne
  unfold Rc.v at UN
  go_enter Try.func5, Try.ntmps5
  go_wp2_with fail
  clear hw1
  refine K.mono ?_
  rintro e k1 ⟨rfl, kq⟩
  replace z00 := kq.cell z00
  replace z01 := kq.cell z01
  replace z02 := kq.cell z02
  replace z10 := kq.cell z10
  replace z11 := kq.cell z11
  replace z12 := kq.cell z12
  replace QT := QT.trans kq
  clear K
  go_wp2_with fail
  refine (UN.out _ QT).mono ?_
  rintro e u1 ⟨rfl, uq⟩
  obtain ⟨u2, hu2⟩ : ∃ u2, u1.alloc (.cells #[.int .i64 R.x0, .int .i64 R.y0, .int .i64 R.x1, .int .i64 R.y1] 26) = u2 := ⟨_, rfl⟩
  have uz : Q u1 u2 := by rw [← hu2]; exact (Q.refl _).cells _ _
  have r0 : u2.cell? ⟨u1.heap.size, 0, none⟩ = some (.int .i64 R.x0) := by rw [← hu2]; simp [go_sem]
  have r1 : u2.cell? ⟨u1.heap.size, 1, none⟩ = some (.int .i64 R.y0) := by rw [← hu2]; simp [go_sem]
  have r2 : u2.cell? ⟨u1.heap.size, 2, none⟩ = some (.int .i64 R.x1) := by rw [← hu2]; simp [go_sem]
  have r3 : u2.cell? ⟨u1.heap.size, 3, none⟩ = some (.int .i64 R.y1) := by rw [← hu2]; simp [go_sem]
  replace z00 := (uq.trans uz).cell z00
  replace z01 := (uq.trans uz).cell z01
  replace z02 := (uq.trans uz).cell z02
  replace z10 := (uq.trans uz).cell z10
  replace z11 := (uq.trans uz).cell z11
  replace z12 := (uq.trans uz).cell z12
  replace QT := (QT.trans uq).trans uz
  clear UN
  go_wp2_with fail
  clear hu2
  refine (EQ _ QT).mono ?_
  rintro e m0 ⟨rfl, q0⟩
  replace z00 := q0.cell z00
  replace z01 := q0.cell z01
  replace z02 := q0.cell z02
  replace z10 := q0.cell z10
  replace z11 := q0.cell z11
  replace z12 := q0.cell z12
  replace r0 := q0.cell r0
  replace r1 := q0.cell r1
  replace r2 := q0.cell r2
  replace r3 := q0.cell r3
  replace QT := QT.trans q0
  go_wp2_with fail
  refine (C1 _).mono ?_
  rintro e m1 ⟨rfl, q1⟩
  replace z00 := q1.cell z00
  replace z01 := q1.cell z01
  replace z02 := q1.cell z02
  replace z10 := q1.cell z10
  replace z11 := q1.cell z11
  replace z12 := q1.cell z12
  replace r0 := q1.cell r0
  replace r1 := q1.cell r1
  replace r2 := q1.cell r2
  replace r3 := q1.cell r3
  replace QT := QT.trans q1
  go_wp2_with fail
  refine (C2 _).mono ?_
  rintro e m2 ⟨rfl, q2⟩
  replace z00 := q2.cell z00
  replace z01 := q2.cell z01
  replace z02 := q2.cell z02
  replace z10 := q2.cell z10
  replace z11 := q2.cell z11
  replace z12 := q2.cell z12
  replace r0 := q2.cell r0
  replace r1 := q2.cell r1
  replace r2 := q2.cell r2
  replace r3 := q2.cell r3
  replace QT := QT.trans q2
  go_wp2_with fail
  have e00 : (0 : Int) = sd false false false false := rfl
  have HQT : Hid (Q w m2) := QT
  obtain ⟨V, hV⟩ : ∃ V, u1.heap.size = V := ⟨_, rfl⟩
  rw [hV] at r0 r1 r2 r3 ⊢
  go_loopg [7, 8] S.length (fun m s7 s8 wr => ∃ (i : Nat) (p q r s : Bool), s8 = .int .i64 i ∧ s7 = .int .i64 (sd p q r s) ∧ i + m = S.length ∧ Hid (Q m2 wr) ∧ Hid (Met S T a i R p q r s))
  case atStart => exact ⟨0, false, false, false, false, rfl, rfl, by omega, Q.refl _, M0⟩
  case round =>
    obtain ⟨i, p, q, r, s, rfl, rfl, hm, HQ, ME⟩ := hrel
    have f00 := HQ.out.cell z00
    have f02 := HQ.out.cell z02
    have f12 := HQ.out.cell z12
    by_cases hi : i < S.length
    · have hi' : i < T.length := by have := HLL.out; omega
      have c1 := HQ.out.cell (HQT.out.cell (HU.out.1 i hi))
      have c2 := HQ.out.cell (HQT.out.cell (HU.out.2 i hi'))
      have hi0 : (0 : Int) ≤ (i : Int) := by omega
      have hi1 : (i : Int) < (S.length : Int) := by omega
      have hi2 : (i : Int) < (T.length : Int) := by omega
      have n0 := qw_some wr
      have d02 := qw_cell f02
      have d12 := qw_cell f12
      have d3 := qw_cell c1
      have d4 := qw_cell c2
      by_cases hx : S.getD i 0 = T.getD i 0
      · have e1 : (((S.getD i 0 : Nat) : Int) == ((T.getD i 0 : Nat) : Int)) = true := by rw [hx]; exact beq_self_eq_true _
        have MN : Hid (Met S T a (i + 1) R p q r s) := ME.out.same hx
        clear hx ME
        generalize S.getD i 0 = A at *
        generalize T.getD i 0 = B at *
        go_wp2_with fail
        refine wp_region_quiet_Q (by kernel_rfl) (by kernel_rfl) ?_
        repeat (first | go_big_quiet_step (fail) | quiet_step (fail))
        refine wpQuiet_nil ?_
        intro w4 hw'
        have hq4 := qw_out hw'
        clear hw' n0 d02 d12 d3 d4
        have QN : Hid (Q m2 w4) := HQ.out.trans hq4
        go_wp2_with fail
        go_roundg (S.length - (i + 1))
        case measure => go_light; omega
        case rel => go_light; exact ⟨i + 1, p, q, r, s, by go_num, rfl, by omega, QN, MN⟩
      · have e1 : (((S.getD i 0 : Nat) : Int) == ((T.getD i 0 : Nat) : Int)) = false := by rw [beq_eq_false_iff_ne]; omega
        obtain ⟨k1, k2, k3, k4, k5, k6⟩ := HB.out i (by rw [← HL.out.1]; exact hi) hx
        have MS := fun (p' q' r' s' : Bool) => Met.step (p' := p') (q' := q') (r' := r') (s' := s') ME.out
        obtain ⟨X, hX⟩ : ∃ X, i % a = X := ⟨_, rfl⟩
        obtain ⟨Y, hY⟩ : ∃ Y, i / a = Y := ⟨_, rfl⟩
        rw [hX] at k1 k2 MS
        rw [hY] at k3 k4 MS
        have MT : Hid (∀ (p' q' r' s' : Bool), (p' = true ∨ p' = p ∧ ¬ ((X : Nat) : Int) = R.x0) → (q' = true ∨ q' = q ∧ ¬ ((X : Nat) : Int) = R.x1 - 1) → (r' = true ∨ r' = r ∧ ¬ ((Y : Nat) : Int) = R.y0) → (s' = true ∨ s' = s ∧ ¬ ((Y : Nat) : Int) = R.y1 - 1) → Met S T a (i + 1) R p' q' r' s') := MS
        have tX : Int.tmod (i : Int) (a : Int) = (X : Int) := by rw [Int.tmod_eq_emod_of_nonneg (by omega), ← Int.natCast_emod, hX]
        have tY : Int.tdiv (i : Int) (a : Int) = (Y : Int) := by rw [Int.tdiv_eq_ediv_of_nonneg (by omega), ← Int.natCast_ediv, hY]
        have az : (a : Int) ≠ 0 := by omega
        have azb : ((a : Int) == 0) = false := by rw [beq_eq_false_iff_ne]; exact az
        have xl : X < a := by rw [← hX]; exact Nat.mod_lt _ (by omega)
        have yl : Y ≤ i := by rw [← hY]; exact Nat.div_le_self _ _
        have wX : IntKind.i64.wrap (X : Int) = (X : Int) := by rw [IntKind.wrap_i64]; omega
        have wY : IntKind.i64.wrap (Y : Int) = (Y : Int) := by rw [IntKind.wrap_i64]; omega
        have g1 : ¬ (X : Int) < R.x0 := by omega
        have g2 : ¬ (Y : Int) < R.y0 := by omega
        have s1 : IntKind.i64.wrap (R.x1 - 1) = R.x1 - 1 := by rw [IntKind.wrap_i64]; omega
        have s3 : IntKind.i64.wrap (R.y1 - 1) = R.y1 - 1 := by rw [IntKind.wrap_i64]; omega
        have o1 := sd_1
        have o2 := sd_2
        have o4 := sd_4
        have o8 := sd_8
        clear hX hY MS ME
        generalize S.getD i 0 = A at *
        generalize T.getD i 0 = B at *
        go_wp2_with fail
        refine wp_region_quiet_Q (by kernel_rfl) (by kernel_rfl) ?_
        repeat (first | go_big_quiet_step (fail) | quiet_step (fail))
        refine wpQuiet_nil ?_
        intro w4 hw'
        have hq4 := qw_out hw'
        clear hw' n0 d02 d12 d3 d4
        have n4 := qw_some w4
        have j00 := hq4.cell f00
        have d00 := qw_cell j00
        go_wp2_with fail
        refine wp_region_quiet_Q (by kernel_rfl) (by kernel_rfl) ?_
        repeat (first | go_big_quiet_step (fail) | quiet_step (fail))
        refine wpQuiet_nil ?_
        intro w5 hw'
        have hq5 := qw_out hw'
        clear hw' n4 d00
        have QN : Hid (Q m2 w5) := (HQ.out.trans hq4).trans hq5
        have t0 := QN.out.cell r0
        have t1 := QN.out.cell r1
        have t2 := QN.out.cell r2
        have t3 := QN.out.cell r3
        clear HB HM HL HLL HU HS HQT C1 C2 EQ e00 M0 f00 f02 f12 c1 c2 j00 hq4 hq5 z00 z01 z02 z10 z11 z12 r0 r1 r2 r3 e1 tX tY az azb wX wY
        by_cases b1 : (X : Int) = R.x0
        · have cb1 : ((X : Int) == R.x0) = true := by rw [b1]; exact beq_self_eq_true _
          by_cases b2 : (X : Int) = R.x1 - 1
          · have cb2 : ((X : Int) == R.x1 - 1) = true := by rw [b2]; exact beq_self_eq_true _
            by_cases b3 : (Y : Int) = R.y0
            · have cb3 : ((Y : Int) == R.y0) = true := by rw [b3]; exact beq_self_eq_true _
              by_cases b4 : (Y : Int) = R.y1 - 1
              · have cb4 : ((Y : Int) == R.y1 - 1) = true := by rw [b4]; exact beq_self_eq_true _
                have MN : Hid (Met S T a (i + 1) R true true true true) := MT.out true true true true (Or.inl rfl) (Or.inl rfl) (Or.inl rfl) (Or.inl rfl)
                clear MT b1 b2 b3 b4
                go_wp2_with fail
                go_roundg (S.length - (i + 1))
                case measure => go_light; omega
                case rel => go_light; exact ⟨i + 1, true, true, true, true, by go_num, rfl, by omega, QN, MN⟩
              · have cb4 : ((Y : Int) == R.y1 - 1) = false := by rw [beq_eq_false_iff_ne]; exact b4
                have MN : Hid (Met S T a (i + 1) R true true true s) := MT.out true true true s (Or.inl rfl) (Or.inl rfl) (Or.inl rfl) (Or.inr ⟨rfl, b4⟩)
                clear MT b1 b2 b3 b4
                go_wp2_with fail
                go_roundg (S.length - (i + 1))
                case measure => go_light; omega
                case rel => go_light; exact ⟨i + 1, true, true, true, s, by go_num, rfl, by omega, QN, MN⟩
            · have cb3 : ((Y : Int) == R.y0) = false := by rw [beq_eq_false_iff_ne]; exact b3
              by_cases b4 : (Y : Int) = R.y1 - 1
              · have cb4 : ((Y : Int) == R.y1 - 1) = true := by rw [b4]; exact beq_self_eq_true _
                have MN : Hid (Met S T a (i + 1) R true true r true) := MT.out true true r true (Or.inl rfl) (Or.inl rfl) (Or.inr ⟨rfl, b3⟩) (Or.inl rfl)
                clear MT b1 b2 b3 b4
                go_wp2_with fail
                go_roundg (S.length - (i + 1))
                case measure => go_light; omega
                case rel => go_light; exact ⟨i + 1, true, true, r, true, by go_num, rfl, by omega, QN, MN⟩
              · have cb4 : ((Y : Int) == R.y1 - 1) = false := by rw [beq_eq_false_iff_ne]; exact b4
                have MN : Hid (Met S T a (i + 1) R true true r s) := MT.out true true r s (Or.inl rfl) (Or.inl rfl) (Or.inr ⟨rfl, b3⟩) (Or.inr ⟨rfl, b4⟩)
                clear MT b1 b2 b3 b4
                go_wp2_with fail
                go_roundg (S.length - (i + 1))
                case measure => go_light; omega
                case rel => go_light; exact ⟨i + 1, true, true, r, s, by go_num, rfl, by omega, QN, MN⟩
          · have cb2 : ((X : Int) == R.x1 - 1) = false := by rw [beq_eq_false_iff_ne]; exact b2
            by_cases b3 : (Y : Int) = R.y0
            · have cb3 : ((Y : Int) == R.y0) = true := by rw [b3]; exact beq_self_eq_true _
              by_cases b4 : (Y : Int) = R.y1 - 1
              · have cb4 : ((Y : Int) == R.y1 - 1) = true := by rw [b4]; exact beq_self_eq_true _
                have MN : Hid (Met S T a (i + 1) R true q true true) := MT.out true q true true (Or.inl rfl) (Or.inr ⟨rfl, b2⟩) (Or.inl rfl) (Or.inl rfl)
                clear MT b1 b2 b3 b4
                go_wp2_with fail
                go_roundg (S.length - (i + 1))
                case measure => go_light; omega
                case rel => go_light; exact ⟨i + 1, true, q, true, true, by go_num, rfl, by omega, QN, MN⟩
              · have cb4 : ((Y : Int) == R.y1 - 1) = false := by rw [beq_eq_false_iff_ne]; exact b4
                have MN : Hid (Met S T a (i + 1) R true q true s) := MT.out true q true s (Or.inl rfl) (Or.inr ⟨rfl, b2⟩) (Or.inl rfl) (Or.inr ⟨rfl, b4⟩)
                clear MT b1 b2 b3 b4
                go_wp2_with fail
                go_roundg (S.length - (i + 1))
                case measure => go_light; omega
                case rel => go_light; exact ⟨i + 1, true, q, true, s, by go_num, rfl, by omega, QN, MN⟩
            · have cb3 : ((Y : Int) == R.y0) = false := by rw [beq_eq_false_iff_ne]; exact b3
              by_cases b4 : (Y : Int) = R.y1 - 1
              · have cb4 : ((Y : Int) == R.y1 - 1) = true := by rw [b4]; exact beq_self_eq_true _
                have MN : Hid (Met S T a (i + 1) R true q r true) := MT.out true q r true (Or.inl rfl) (Or.inr ⟨rfl, b2⟩) (Or.inr ⟨rfl, b3⟩) (Or.inl rfl)
                clear MT b1 b2 b3 b4
                go_wp2_with fail
                go_roundg (S.length - (i + 1))
                case measure => go_light; omega
                case rel => go_light; exact ⟨i + 1, true, q, r, true, by go_num, rfl, by omega, QN, MN⟩
              · have cb4 : ((Y : Int) == R.y1 - 1) = false := by rw [beq_eq_false_iff_ne]; exact b4
                have MN : Hid (Met S T a (i + 1) R true q r s) := MT.out true q r s (Or.inl rfl) (Or.inr ⟨rfl, b2⟩) (Or.inr ⟨rfl, b3⟩) (Or.inr ⟨rfl, b4⟩)
                clear MT b1 b2 b3 b4
                go_wp2_with fail
                go_roundg (S.length - (i + 1))
                case measure => go_light; omega
                case rel => go_light; exact ⟨i + 1, true, q, r, s, by go_num, rfl, by omega, QN, MN⟩
        · have cb1 : ((X : Int) == R.x0) = false := by rw [beq_eq_false_iff_ne]; exact b1
          by_cases b2 : (X : Int) = R.x1 - 1
          · have cb2 : ((X : Int) == R.x1 - 1) = true := by rw [b2]; exact beq_self_eq_true _
            by_cases b3 : (Y : Int) = R.y0
            · have cb3 : ((Y : Int) == R.y0) = true := by rw [b3]; exact beq_self_eq_true _
              by_cases b4 : (Y : Int) = R.y1 - 1
              · have cb4 : ((Y : Int) == R.y1 - 1) = true := by rw [b4]; exact beq_self_eq_true _
                have MN : Hid (Met S T a (i + 1) R p true true true) := MT.out p true true true (Or.inr ⟨rfl, b1⟩) (Or.inl rfl) (Or.inl rfl) (Or.inl rfl)
                clear MT b1 b2 b3 b4
                go_wp2_with fail
                go_roundg (S.length - (i + 1))
                case measure => go_light; omega
                case rel => go_light; exact ⟨i + 1, p, true, true, true, by go_num, rfl, by omega, QN, MN⟩
              · have cb4 : ((Y : Int) == R.y1 - 1) = false := by rw [beq_eq_false_iff_ne]; exact b4
                have MN : Hid (Met S T a (i + 1) R p true true s) := MT.out p true true s (Or.inr ⟨rfl, b1⟩) (Or.inl rfl) (Or.inl rfl) (Or.inr ⟨rfl, b4⟩)
                clear MT b1 b2 b3 b4
                go_wp2_with fail
                go_roundg (S.length - (i + 1))
                case measure => go_light; omega
                case rel => go_light; exact ⟨i + 1, p, true, true, s, by go_num, rfl, by omega, QN, MN⟩
            · have cb3 : ((Y : Int) == R.y0) = false := by rw [beq_eq_false_iff_ne]; exact b3
              by_cases b4 : (Y : Int) = R.y1 - 1
              · have cb4 : ((Y : Int) == R.y1 - 1) = true := by rw [b4]; exact beq_self_eq_true _
                have MN : Hid (Met S T a (i + 1) R p true r true) := MT.out p true r true (Or.inr ⟨rfl, b1⟩) (Or.inl rfl) (Or.inr ⟨rfl, b3⟩) (Or.inl rfl)
                clear MT b1 b2 b3 b4
                go_wp2_with fail
                go_roundg (S.length - (i + 1))
                case measure => go_light; omega
                case rel => go_light; exact ⟨i + 1, p, true, r, true, by go_num, rfl, by omega, QN, MN⟩
              · have cb4 : ((Y : Int) == R.y1 - 1) = false := by rw [beq_eq_false_iff_ne]; exact b4
                have MN : Hid (Met S T a (i + 1) R p true r s) := MT.out p true r s (Or.inr ⟨rfl, b1⟩) (Or.inl rfl) (Or.inr ⟨rfl, b3⟩) (Or.inr ⟨rfl, b4⟩)
                clear MT b1 b2 b3 b4
                go_wp2_with fail
                go_roundg (S.length - (i + 1))
                case measure => go_light; omega
                case rel => go_light; exact ⟨i + 1, p, true, r, s, by go_num, rfl, by omega, QN, MN⟩
          · have cb2 : ((X : Int) == R.x1 - 1) = false := by rw [beq_eq_false_iff_ne]; exact b2
            by_cases b3 : (Y : Int) = R.y0
            · have cb3 : ((Y : Int) == R.y0) = true := by rw [b3]; exact beq_self_eq_true _
              by_cases b4 : (Y : Int) = R.y1 - 1
              · have cb4 : ((Y : Int) == R.y1 - 1) = true := by rw [b4]; exact beq_self_eq_true _
                have MN : Hid (Met S T a (i + 1) R p q true true) := MT.out p q true true (Or.inr ⟨rfl, b1⟩) (Or.inr ⟨rfl, b2⟩) (Or.inl rfl) (Or.inl rfl)
                clear MT b1 b2 b3 b4
                go_wp2_with fail
                go_roundg (S.length - (i + 1))
                case measure => go_light; omega
                case rel => go_light; exact ⟨i + 1, p, q, true, true, by go_num, rfl, by omega, QN, MN⟩
              · have cb4 : ((Y : Int) == R.y1 - 1) = false := by rw [beq_eq_false_iff_ne]; exact b4
                have MN : Hid (Met S T a (i + 1) R p q true s) := MT.out p q true s (Or.inr ⟨rfl, b1⟩) (Or.inr ⟨rfl, b2⟩) (Or.inl rfl) (Or.inr ⟨rfl, b4⟩)
                clear MT b1 b2 b3 b4
                go_wp2_with fail
                go_roundg (S.length - (i + 1))
                case measure => go_light; omega
                case rel => go_light; exact ⟨i + 1, p, q, true, s, by go_num, rfl, by omega, QN, MN⟩
            · have cb3 : ((Y : Int) == R.y0) = false := by rw [beq_eq_false_iff_ne]; exact b3
              by_cases b4 : (Y : Int) = R.y1 - 1
              · have cb4 : ((Y : Int) == R.y1 - 1) = true := by rw [b4]; exact beq_self_eq_true _
                have MN : Hid (Met S T a (i + 1) R p q r true) := MT.out p q r true (Or.inr ⟨rfl, b1⟩) (Or.inr ⟨rfl, b2⟩) (Or.inr ⟨rfl, b3⟩) (Or.inl rfl)
                clear MT b1 b2 b3 b4
                go_wp2_with fail
                go_roundg (S.length - (i + 1))
                case measure => go_light; omega
                case rel => go_light; exact ⟨i + 1, p, q, r, true, by go_num, rfl, by omega, QN, MN⟩
              · have cb4 : ((Y : Int) == R.y1 - 1) = false := by rw [beq_eq_false_iff_ne]; exact b4
                have MN : Hid (Met S T a (i + 1) R p q r s) := MT.out p q r s (Or.inr ⟨rfl, b1⟩) (Or.inr ⟨rfl, b2⟩) (Or.inr ⟨rfl, b3⟩) (Or.inr ⟨rfl, b4⟩)
                clear MT b1 b2 b3 b4
                go_wp2_with fail
                go_roundg (S.length - (i + 1))
                case measure => go_light; omega
                case rel => go_light; exact ⟨i + 1, p, q, r, s, by go_num, rfl, by omega, QN, MN⟩
    · have hie : i = a * b := by have := HL.out.1; omega
      have h15 : sd p q r s = 15 := HM.out p q r s (by have := ME.out; rw [hie] at this; exact this)
      have e15 : (sd p q r s == 15) = true := by rw [h15]; decide
      have QN : Hid (Q w wr) := HQT.out.trans HQ.out
      go_wp2_with fail
      go_ret
      exact ⟨rfl, QN.out⟩
end Go.Proofs.Ytkgfohodahkmmab

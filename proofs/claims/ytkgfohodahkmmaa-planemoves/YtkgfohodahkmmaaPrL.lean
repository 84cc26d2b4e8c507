/- The document's planes: what Crop and Paste refuse. -/
import Derived.Test.YtkgfohodahkmmaaPrK
namespace Go.Proofs.Ytkgfohodahkmmaa
open Go.RowKit
set_option linter.unusedVariables false
set_option linter.unusedSimpArgs false

set_option maxHeartbeats 1000000 in
set_option maxRecDepth 100000 in
theorem rcrop_o0 {a b : Nat} (hs : Size a b) {S : List Nat} (hl : S.length = a * b) (g o cap : Nat) (x0 y0 x1 y1 : Int)  (h0 : x0 < 0) (w : World) :
    Calls Try.prog 23 #[.agg #[.int .i64 (a : Int), .int .i64 (b : Int), .slice (some ⟨g, o, none⟩) S.length cap], .agg #[.int .i64 x0, .int .i64 y0, .int .i64 x1, .int .i64 y1]] w (Fails w 52) := by
  have hb : ((0 : Int) != 0) = false := by decide
  have hn : S.length ≤ 65536 := by rw [hl]; exact hs.ab
  obtain ⟨w1, hw1⟩ : ∃ w1, ((w.alloc (.cells #[.int .i64 (a : Int), .int .i64 (b : Int), .slice (some ⟨g, o, none⟩) S.length cap] 25)).alloc (.cells #[.int .i64 x0, .int .i64 y0, .int .i64 x1, .int .i64 y1] 56)).alloc (.cells #[.int .i64 0, .int .i64 0, .slice none 0 0] 25) = w1 := ⟨_, rfl⟩
  have Q1 : Hid (Q w w1) := by rw [← hw1]; exact ((((Q.refl w).cells _ _).cells _ _).cells _ _)
  have S1 : w1.heap.size = w.heap.size + 1 + 1 + 1 := by rw [← hw1]; simp
  have z00 : w1.cell? ⟨w.heap.size, 0, none⟩ = some (.int .i64 (a : Int)) := by rw [← hw1]; simp [go_sem]
  have z01 : w1.cell? ⟨w.heap.size, 1, none⟩ = some (.int .i64 (b : Int)) := by rw [← hw1]; simp [go_sem]
  have z02 : w1.cell? ⟨w.heap.size, 2, none⟩ = some (.slice (some ⟨g, o, none⟩) S.length cap) := by rw [← hw1]; simp [go_sem]
  have z10 : w1.cell? ⟨w.heap.size + 1, 0, none⟩ = some (.int .i64 x0) := by rw [← hw1]; simp [go_sem]
  have z11 : w1.cell? ⟨w.heap.size + 1, 1, none⟩ = some (.int .i64 y0) := by rw [← hw1]; simp [go_sem]
  have z12 : w1.cell? ⟨w.heap.size + 1, 2, none⟩ = some (.int .i64 x1) := by rw [← hw1]; simp [go_sem]
  have z13 : w1.cell? ⟨w.heap.size + 1, 3, none⟩ = some (.int .i64 y1) := by rw [← hw1]; simp [go_sem]
  have z20 : w1.cell? ⟨w.heap.size + 1 + 1, 0, none⟩ = some (.int .i64 0) := by rw [← hw1]; simp [go_sem]
  have z21 : w1.cell? ⟨w.heap.size + 1 + 1, 1, none⟩ = some (.int .i64 0) := by rw [← hw1]; simp [go_sem]
  have z22 : w1.cell? ⟨w.heap.size + 1 + 1, 2, none⟩ = some (.slice none 0 0) := by rw [← hw1]; simp [go_sem]
  have yf : ∀ j, w1.frozen? ⟨w.heap.size + 1 + 1, j, none⟩ = false := fun j => by rw [← hw1]; simp [go_sem]
  have A := rcheck_any (a : Int) (b : Int) (some ⟨g, o, none⟩) S.length cap (by omega) w1
  rw [show chk (a : Int) (b : Int) S.length = 0 by rw [hl]; exact chk_size hs] at A
  clear hs hl hn
  go_enter Try.func23, Try.ntmps23
  go_wp2_with fail
  clear hw1
  refine A.mono ?_
  rintro e w2 ⟨rfl, q2⟩
  replace z00 := q2.cell z00
  replace z01 := q2.cell z01
  replace z02 := q2.cell z02
  replace z10 := q2.cell z10
  replace z11 := q2.cell z11
  replace z12 := q2.cell z12
  replace z13 := q2.cell z13
  replace z20 := q2.cell z20
  replace z21 := q2.cell z21
  replace z22 := q2.cell z22
  replace yf : ∀ j, w2.frozen? ⟨w.heap.size + 1 + 1, j, none⟩ = false := fun j => by rw [q2.2]; exact yf j
  clear A
  go_wp2_with fail
  refine bodyPost_ret (v := .tuple #[noPl, .int .i64 52]) (by simp [results, Try.results23, go_sem, noPl, z20, z21, z22]) rfl ⟨rfl, ?_⟩
  exact (((Q1.out.trans q2).put (by omega)).put (by omega)).put (by omega)
set_option maxHeartbeats 1000000 in
set_option maxRecDepth 100000 in
theorem rcrop_o1 {a b : Nat} (hs : Size a b) {S : List Nat} (hl : S.length = a * b) (g o cap : Nat) (x0 y0 x1 y1 : Int) (h0 : ¬ x0 < 0) (h1 : x1 ≤ x0) (w : World) :
    Calls Try.prog 23 #[.agg #[.int .i64 (a : Int), .int .i64 (b : Int), .slice (some ⟨g, o, none⟩) S.length cap], .agg #[.int .i64 x0, .int .i64 y0, .int .i64 x1, .int .i64 y1]] w (Fails w 52) := by
  have hb : ((0 : Int) != 0) = false := by decide
  have hn : S.length ≤ 65536 := by rw [hl]; exact hs.ab
  obtain ⟨w1, hw1⟩ : ∃ w1, ((w.alloc (.cells #[.int .i64 (a : Int), .int .i64 (b : Int), .slice (some ⟨g, o, none⟩) S.length cap] 25)).alloc (.cells #[.int .i64 x0, .int .i64 y0, .int .i64 x1, .int .i64 y1] 56)).alloc (.cells #[.int .i64 0, .int .i64 0, .slice none 0 0] 25) = w1 := ⟨_, rfl⟩
  have Q1 : Hid (Q w w1) := by rw [← hw1]; exact ((((Q.refl w).cells _ _).cells _ _).cells _ _)
  have S1 : w1.heap.size = w.heap.size + 1 + 1 + 1 := by rw [← hw1]; simp
  have z00 : w1.cell? ⟨w.heap.size, 0, none⟩ = some (.int .i64 (a : Int)) := by rw [← hw1]; simp [go_sem]
  have z01 : w1.cell? ⟨w.heap.size, 1, none⟩ = some (.int .i64 (b : Int)) := by rw [← hw1]; simp [go_sem]
  have z02 : w1.cell? ⟨w.heap.size, 2, none⟩ = some (.slice (some ⟨g, o, none⟩) S.length cap) := by rw [← hw1]; simp [go_sem]
  have z10 : w1.cell? ⟨w.heap.size + 1, 0, none⟩ = some (.int .i64 x0) := by rw [← hw1]; simp [go_sem]
  have z11 : w1.cell? ⟨w.heap.size + 1, 1, none⟩ = some (.int .i64 y0) := by rw [← hw1]; simp [go_sem]
  have z12 : w1.cell? ⟨w.heap.size + 1, 2, none⟩ = some (.int .i64 x1) := by rw [← hw1]; simp [go_sem]
  have z13 : w1.cell? ⟨w.heap.size + 1, 3, none⟩ = some (.int .i64 y1) := by rw [← hw1]; simp [go_sem]
  have z20 : w1.cell? ⟨w.heap.size + 1 + 1, 0, none⟩ = some (.int .i64 0) := by rw [← hw1]; simp [go_sem]
  have z21 : w1.cell? ⟨w.heap.size + 1 + 1, 1, none⟩ = some (.int .i64 0) := by rw [← hw1]; simp [go_sem]
  have z22 : w1.cell? ⟨w.heap.size + 1 + 1, 2, none⟩ = some (.slice none 0 0) := by rw [← hw1]; simp [go_sem]
  have yf : ∀ j, w1.frozen? ⟨w.heap.size + 1 + 1, j, none⟩ = false := fun j => by rw [← hw1]; simp [go_sem]
  have A := rcheck_any (a : Int) (b : Int) (some ⟨g, o, none⟩) S.length cap (by omega) w1
  rw [show chk (a : Int) (b : Int) S.length = 0 by rw [hl]; exact chk_size hs] at A
  clear hs hl hn
  go_enter Try.func23, Try.ntmps23
  go_wp2_with fail
  clear hw1
  refine A.mono ?_
  rintro e w2 ⟨rfl, q2⟩
  replace z00 := q2.cell z00
  replace z01 := q2.cell z01
  replace z02 := q2.cell z02
  replace z10 := q2.cell z10
  replace z11 := q2.cell z11
  replace z12 := q2.cell z12
  replace z13 := q2.cell z13
  replace z20 := q2.cell z20
  replace z21 := q2.cell z21
  replace z22 := q2.cell z22
  replace yf : ∀ j, w2.frozen? ⟨w.heap.size + 1 + 1, j, none⟩ = false := fun j => by rw [q2.2]; exact yf j
  clear A
  go_wp2_with fail
  refine bodyPost_ret (v := .tuple #[noPl, .int .i64 52]) (by simp [results, Try.results23, go_sem, noPl, z20, z21, z22]) rfl ⟨rfl, ?_⟩
  exact (((Q1.out.trans q2).put (by omega)).put (by omega)).put (by omega)
set_option maxHeartbeats 1000000 in
set_option maxRecDepth 100000 in
theorem rcrop_o2 {a b : Nat} (hs : Size a b) {S : List Nat} (hl : S.length = a * b) (g o cap : Nat) (x0 y0 x1 y1 : Int) (h0 : ¬ x0 < 0) (h1 : ¬ x1 ≤ x0) (h2 : (a : Int) < x1) (w : World) :
    Calls Try.prog 23 #[.agg #[.int .i64 (a : Int), .int .i64 (b : Int), .slice (some ⟨g, o, none⟩) S.length cap], .agg #[.int .i64 x0, .int .i64 y0, .int .i64 x1, .int .i64 y1]] w (Fails w 52) := by
  have hb : ((0 : Int) != 0) = false := by decide
  have hn : S.length ≤ 65536 := by rw [hl]; exact hs.ab
  obtain ⟨w1, hw1⟩ : ∃ w1, ((w.alloc (.cells #[.int .i64 (a : Int), .int .i64 (b : Int), .slice (some ⟨g, o, none⟩) S.length cap] 25)).alloc (.cells #[.int .i64 x0, .int .i64 y0, .int .i64 x1, .int .i64 y1] 56)).alloc (.cells #[.int .i64 0, .int .i64 0, .slice none 0 0] 25) = w1 := ⟨_, rfl⟩
  have Q1 : Hid (Q w w1) := by rw [← hw1]; exact ((((Q.refl w).cells _ _).cells _ _).cells _ _)
  have S1 : w1.heap.size = w.heap.size + 1 + 1 + 1 := by rw [← hw1]; simp
  have z00 : w1.cell? ⟨w.heap.size, 0, none⟩ = some (.int .i64 (a : Int)) := by rw [← hw1]; simp [go_sem]
  have z01 : w1.cell? ⟨w.heap.size, 1, none⟩ = some (.int .i64 (b : Int)) := by rw [← hw1]; simp [go_sem]
  have z02 : w1.cell? ⟨w.heap.size, 2, none⟩ = some (.slice (some ⟨g, o, none⟩) S.length cap) := by rw [← hw1]; simp [go_sem]
  have z10 : w1.cell? ⟨w.heap.size + 1, 0, none⟩ = some (.int .i64 x0) := by rw [← hw1]; simp [go_sem]
  have z11 : w1.cell? ⟨w.heap.size + 1, 1, none⟩ = some (.int .i64 y0) := by rw [← hw1]; simp [go_sem]
  have z12 : w1.cell? ⟨w.heap.size + 1, 2, none⟩ = some (.int .i64 x1) := by rw [← hw1]; simp [go_sem]
  have z13 : w1.cell? ⟨w.heap.size + 1, 3, none⟩ = some (.int .i64 y1) := by rw [← hw1]; simp [go_sem]
  have z20 : w1.cell? ⟨w.heap.size + 1 + 1, 0, none⟩ = some (.int .i64 0) := by rw [← hw1]; simp [go_sem]
  have z21 : w1.cell? ⟨w.heap.size + 1 + 1, 1, none⟩ = some (.int .i64 0) := by rw [← hw1]; simp [go_sem]
  have z22 : w1.cell? ⟨w.heap.size + 1 + 1, 2, none⟩ = some (.slice none 0 0) := by rw [← hw1]; simp [go_sem]
  have yf : ∀ j, w1.frozen? ⟨w.heap.size + 1 + 1, j, none⟩ = false := fun j => by rw [← hw1]; simp [go_sem]
  have A := rcheck_any (a : Int) (b : Int) (some ⟨g, o, none⟩) S.length cap (by omega) w1
  rw [show chk (a : Int) (b : Int) S.length = 0 by rw [hl]; exact chk_size hs] at A
  clear hs hl hn
  go_enter Try.func23, Try.ntmps23
  go_wp2_with fail
  clear hw1
  refine A.mono ?_
  rintro e w2 ⟨rfl, q2⟩
  replace z00 := q2.cell z00
  replace z01 := q2.cell z01
  replace z02 := q2.cell z02
  replace z10 := q2.cell z10
  replace z11 := q2.cell z11
  replace z12 := q2.cell z12
  replace z13 := q2.cell z13
  replace z20 := q2.cell z20
  replace z21 := q2.cell z21
  replace z22 := q2.cell z22
  replace yf : ∀ j, w2.frozen? ⟨w.heap.size + 1 + 1, j, none⟩ = false := fun j => by rw [q2.2]; exact yf j
  clear A
  go_wp2_with fail
  refine bodyPost_ret (v := .tuple #[noPl, .int .i64 52]) (by simp [results, Try.results23, go_sem, noPl, z20, z21, z22]) rfl ⟨rfl, ?_⟩
  exact (((Q1.out.trans q2).put (by omega)).put (by omega)).put (by omega)
set_option maxHeartbeats 1000000 in
set_option maxRecDepth 100000 in
theorem rcrop_o3 {a b : Nat} (hs : Size a b) {S : List Nat} (hl : S.length = a * b) (g o cap : Nat) (x0 y0 x1 y1 : Int) (h0 : ¬ x0 < 0) (h1 : ¬ x1 ≤ x0) (h2 : ¬ (a : Int) < x1) (h3 : y0 < 0) (w : World) :
    Calls Try.prog 23 #[.agg #[.int .i64 (a : Int), .int .i64 (b : Int), .slice (some ⟨g, o, none⟩) S.length cap], .agg #[.int .i64 x0, .int .i64 y0, .int .i64 x1, .int .i64 y1]] w (Fails w 52) := by
  have hb : ((0 : Int) != 0) = false := by decide
  have hn : S.length ≤ 65536 := by rw [hl]; exact hs.ab
  obtain ⟨w1, hw1⟩ : ∃ w1, ((w.alloc (.cells #[.int .i64 (a : Int), .int .i64 (b : Int), .slice (some ⟨g, o, none⟩) S.length cap] 25)).alloc (.cells #[.int .i64 x0, .int .i64 y0, .int .i64 x1, .int .i64 y1] 56)).alloc (.cells #[.int .i64 0, .int .i64 0, .slice none 0 0] 25) = w1 := ⟨_, rfl⟩
  have Q1 : Hid (Q w w1) := by rw [← hw1]; exact ((((Q.refl w).cells _ _).cells _ _).cells _ _)
  have S1 : w1.heap.size = w.heap.size + 1 + 1 + 1 := by rw [← hw1]; simp
  have z00 : w1.cell? ⟨w.heap.size, 0, none⟩ = some (.int .i64 (a : Int)) := by rw [← hw1]; simp [go_sem]
  have z01 : w1.cell? ⟨w.heap.size, 1, none⟩ = some (.int .i64 (b : Int)) := by rw [← hw1]; simp [go_sem]
  have z02 : w1.cell? ⟨w.heap.size, 2, none⟩ = some (.slice (some ⟨g, o, none⟩) S.length cap) := by rw [← hw1]; simp [go_sem]
  have z10 : w1.cell? ⟨w.heap.size + 1, 0, none⟩ = some (.int .i64 x0) := by rw [← hw1]; simp [go_sem]
  have z11 : w1.cell? ⟨w.heap.size + 1, 1, none⟩ = some (.int .i64 y0) := by rw [← hw1]; simp [go_sem]
  have z12 : w1.cell? ⟨w.heap.size + 1, 2, none⟩ = some (.int .i64 x1) := by rw [← hw1]; simp [go_sem]
  have z13 : w1.cell? ⟨w.heap.size + 1, 3, none⟩ = some (.int .i64 y1) := by rw [← hw1]; simp [go_sem]
  have z20 : w1.cell? ⟨w.heap.size + 1 + 1, 0, none⟩ = some (.int .i64 0) := by rw [← hw1]; simp [go_sem]
  have z21 : w1.cell? ⟨w.heap.size + 1 + 1, 1, none⟩ = some (.int .i64 0) := by rw [← hw1]; simp [go_sem]
  have z22 : w1.cell? ⟨w.heap.size + 1 + 1, 2, none⟩ = some (.slice none 0 0) := by rw [← hw1]; simp [go_sem]
  have yf : ∀ j, w1.frozen? ⟨w.heap.size + 1 + 1, j, none⟩ = false := fun j => by rw [← hw1]; simp [go_sem]
  have A := rcheck_any (a : Int) (b : Int) (some ⟨g, o, none⟩) S.length cap (by omega) w1
  rw [show chk (a : Int) (b : Int) S.length = 0 by rw [hl]; exact chk_size hs] at A
  clear hs hl hn
  go_enter Try.func23, Try.ntmps23
  go_wp2_with fail
  clear hw1
  refine A.mono ?_
  rintro e w2 ⟨rfl, q2⟩
  replace z00 := q2.cell z00
  replace z01 := q2.cell z01
  replace z02 := q2.cell z02
  replace z10 := q2.cell z10
  replace z11 := q2.cell z11
  replace z12 := q2.cell z12
  replace z13 := q2.cell z13
  replace z20 := q2.cell z20
  replace z21 := q2.cell z21
  replace z22 := q2.cell z22
  replace yf : ∀ j, w2.frozen? ⟨w.heap.size + 1 + 1, j, none⟩ = false := fun j => by rw [q2.2]; exact yf j
  clear A
  go_wp2_with fail
  refine bodyPost_ret (v := .tuple #[noPl, .int .i64 52]) (by simp [results, Try.results23, go_sem, noPl, z20, z21, z22]) rfl ⟨rfl, ?_⟩
  exact (((Q1.out.trans q2).put (by omega)).put (by omega)).put (by omega)
set_option maxHeartbeats 1000000 in
set_option maxRecDepth 100000 in
theorem rcrop_o4 {a b : Nat} (hs : Size a b) {S : List Nat} (hl : S.length = a * b) (g o cap : Nat) (x0 y0 x1 y1 : Int) (h0 : ¬ x0 < 0) (h1 : ¬ x1 ≤ x0) (h2 : ¬ (a : Int) < x1) (h3 : ¬ y0 < 0) (h4 : y1 ≤ y0) (w : World) :
    Calls Try.prog 23 #[.agg #[.int .i64 (a : Int), .int .i64 (b : Int), .slice (some ⟨g, o, none⟩) S.length cap], .agg #[.int .i64 x0, .int .i64 y0, .int .i64 x1, .int .i64 y1]] w (Fails w 52) := by
  have hb : ((0 : Int) != 0) = false := by decide
  have hn : S.length ≤ 65536 := by rw [hl]; exact hs.ab
  obtain ⟨w1, hw1⟩ : ∃ w1, ((w.alloc (.cells #[.int .i64 (a : Int), .int .i64 (b : Int), .slice (some ⟨g, o, none⟩) S.length cap] 25)).alloc (.cells #[.int .i64 x0, .int .i64 y0, .int .i64 x1, .int .i64 y1] 56)).alloc (.cells #[.int .i64 0, .int .i64 0, .slice none 0 0] 25) = w1 := ⟨_, rfl⟩
  have Q1 : Hid (Q w w1) := by rw [← hw1]; exact ((((Q.refl w).cells _ _).cells _ _).cells _ _)
  have S1 : w1.heap.size = w.heap.size + 1 + 1 + 1 := by rw [← hw1]; simp
  have z00 : w1.cell? ⟨w.heap.size, 0, none⟩ = some (.int .i64 (a : Int)) := by rw [← hw1]; simp [go_sem]
  have z01 : w1.cell? ⟨w.heap.size, 1, none⟩ = some (.int .i64 (b : Int)) := by rw [← hw1]; simp [go_sem]
  have z02 : w1.cell? ⟨w.heap.size, 2, none⟩ = some (.slice (some ⟨g, o, none⟩) S.length cap) := by rw [← hw1]; simp [go_sem]
  have z10 : w1.cell? ⟨w.heap.size + 1, 0, none⟩ = some (.int .i64 x0) := by rw [← hw1]; simp [go_sem]
  have z11 : w1.cell? ⟨w.heap.size + 1, 1, none⟩ = some (.int .i64 y0) := by rw [← hw1]; simp [go_sem]
  have z12 : w1.cell? ⟨w.heap.size + 1, 2, none⟩ = some (.int .i64 x1) := by rw [← hw1]; simp [go_sem]
  have z13 : w1.cell? ⟨w.heap.size + 1, 3, none⟩ = some (.int .i64 y1) := by rw [← hw1]; simp [go_sem]
  have z20 : w1.cell? ⟨w.heap.size + 1 + 1, 0, none⟩ = some (.int .i64 0) := by rw [← hw1]; simp [go_sem]
  have z21 : w1.cell? ⟨w.heap.size + 1 + 1, 1, none⟩ = some (.int .i64 0) := by rw [← hw1]; simp [go_sem]
  have z22 : w1.cell? ⟨w.heap.size + 1 + 1, 2, none⟩ = some (.slice none 0 0) := by rw [← hw1]; simp [go_sem]
  have yf : ∀ j, w1.frozen? ⟨w.heap.size + 1 + 1, j, none⟩ = false := fun j => by rw [← hw1]; simp [go_sem]
  have A := rcheck_any (a : Int) (b : Int) (some ⟨g, o, none⟩) S.length cap (by omega) w1
  rw [show chk (a : Int) (b : Int) S.length = 0 by rw [hl]; exact chk_size hs] at A
  clear hs hl hn
  go_enter Try.func23, Try.ntmps23
  go_wp2_with fail
  clear hw1
  refine A.mono ?_
  rintro e w2 ⟨rfl, q2⟩
  replace z00 := q2.cell z00
  replace z01 := q2.cell z01
  replace z02 := q2.cell z02
  replace z10 := q2.cell z10
  replace z11 := q2.cell z11
  replace z12 := q2.cell z12
  replace z13 := q2.cell z13
  replace z20 := q2.cell z20
  replace z21 := q2.cell z21
  replace z22 := q2.cell z22
  replace yf : ∀ j, w2.frozen? ⟨w.heap.size + 1 + 1, j, none⟩ = false := fun j => by rw [q2.2]; exact yf j
  clear A
  go_wp2_with fail
  refine bodyPost_ret (v := .tuple #[noPl, .int .i64 52]) (by simp [results, Try.results23, go_sem, noPl, z20, z21, z22]) rfl ⟨rfl, ?_⟩
  exact (((Q1.out.trans q2).put (by omega)).put (by omega)).put (by omega)
set_option maxHeartbeats 1000000 in
set_option maxRecDepth 100000 in
theorem rcrop_o5 {a b : Nat} (hs : Size a b) {S : List Nat} (hl : S.length = a * b) (g o cap : Nat) (x0 y0 x1 y1 : Int) (h0 : ¬ x0 < 0) (h1 : ¬ x1 ≤ x0) (h2 : ¬ (a : Int) < x1) (h3 : ¬ y0 < 0) (h4 : ¬ y1 ≤ y0) (h5 : (b : Int) < y1) (w : World) :
    Calls Try.prog 23 #[.agg #[.int .i64 (a : Int), .int .i64 (b : Int), .slice (some ⟨g, o, none⟩) S.length cap], .agg #[.int .i64 x0, .int .i64 y0, .int .i64 x1, .int .i64 y1]] w (Fails w 52) := by
  have hb : ((0 : Int) != 0) = false := by decide
  have hn : S.length ≤ 65536 := by rw [hl]; exact hs.ab
  obtain ⟨w1, hw1⟩ : ∃ w1, ((w.alloc (.cells #[.int .i64 (a : Int), .int .i64 (b : Int), .slice (some ⟨g, o, none⟩) S.length cap] 25)).alloc (.cells #[.int .i64 x0, .int .i64 y0, .int .i64 x1, .int .i64 y1] 56)).alloc (.cells #[.int .i64 0, .int .i64 0, .slice none 0 0] 25) = w1 := ⟨_, rfl⟩
  have Q1 : Hid (Q w w1) := by rw [← hw1]; exact ((((Q.refl w).cells _ _).cells _ _).cells _ _)
  have S1 : w1.heap.size = w.heap.size + 1 + 1 + 1 := by rw [← hw1]; simp
  have z00 : w1.cell? ⟨w.heap.size, 0, none⟩ = some (.int .i64 (a : Int)) := by rw [← hw1]; simp [go_sem]
  have z01 : w1.cell? ⟨w.heap.size, 1, none⟩ = some (.int .i64 (b : Int)) := by rw [← hw1]; simp [go_sem]
  have z02 : w1.cell? ⟨w.heap.size, 2, none⟩ = some (.slice (some ⟨g, o, none⟩) S.length cap) := by rw [← hw1]; simp [go_sem]
  have z10 : w1.cell? ⟨w.heap.size + 1, 0, none⟩ = some (.int .i64 x0) := by rw [← hw1]; simp [go_sem]
  have z11 : w1.cell? ⟨w.heap.size + 1, 1, none⟩ = some (.int .i64 y0) := by rw [← hw1]; simp [go_sem]
  have z12 : w1.cell? ⟨w.heap.size + 1, 2, none⟩ = some (.int .i64 x1) := by rw [← hw1]; simp [go_sem]
  have z13 : w1.cell? ⟨w.heap.size + 1, 3, none⟩ = some (.int .i64 y1) := by rw [← hw1]; simp [go_sem]
  have z20 : w1.cell? ⟨w.heap.size + 1 + 1, 0, none⟩ = some (.int .i64 0) := by rw [← hw1]; simp [go_sem]
  have z21 : w1.cell? ⟨w.heap.size + 1 + 1, 1, none⟩ = some (.int .i64 0) := by rw [← hw1]; simp [go_sem]
  have z22 : w1.cell? ⟨w.heap.size + 1 + 1, 2, none⟩ = some (.slice none 0 0) := by rw [← hw1]; simp [go_sem]
  have yf : ∀ j, w1.frozen? ⟨w.heap.size + 1 + 1, j, none⟩ = false := fun j => by rw [← hw1]; simp [go_sem]
  have A := rcheck_any (a : Int) (b : Int) (some ⟨g, o, none⟩) S.length cap (by omega) w1
  rw [show chk (a : Int) (b : Int) S.length = 0 by rw [hl]; exact chk_size hs] at A
  clear hs hl hn
  go_enter Try.func23, Try.ntmps23
  go_wp2_with fail
  clear hw1
  refine A.mono ?_
  rintro e w2 ⟨rfl, q2⟩
  replace z00 := q2.cell z00
  replace z01 := q2.cell z01
  replace z02 := q2.cell z02
  replace z10 := q2.cell z10
  replace z11 := q2.cell z11
  replace z12 := q2.cell z12
  replace z13 := q2.cell z13
  replace z20 := q2.cell z20
  replace z21 := q2.cell z21
  replace z22 := q2.cell z22
  replace yf : ∀ j, w2.frozen? ⟨w.heap.size + 1 + 1, j, none⟩ = false := fun j => by rw [q2.2]; exact yf j
  clear A
  go_wp2_with fail
  refine bodyPost_ret (v := .tuple #[noPl, .int .i64 52]) (by simp [results, Try.results23, go_sem, noPl, z20, z21, z22]) rfl ⟨rfl, ?_⟩
  exact (((Q1.out.trans q2).put (by omega)).put (by omega)).put (by omega)
theorem rcrop_out {a b : Nat} (hs : Size a b) {S : List Nat} (hl : S.length = a * b) (g o cap : Nat) (x0 y0 x1 y1 : Int) (hr : wiB x0 y0 x1 y1 a b = false) (w : World) :
    Calls Try.prog 23 #[.agg #[.int .i64 (a : Int), .int .i64 (b : Int), .slice (some ⟨g, o, none⟩) S.length cap], .agg #[.int .i64 x0, .int .i64 y0, .int .i64 x1, .int .i64 y1]] w (Fails w 52) := by
  by_cases h0 : x0 < 0
  · exact rcrop_o0 hs hl g o cap x0 y0 x1 y1 h0 w
  by_cases h1 : x1 ≤ x0
  · exact rcrop_o1 hs hl g o cap x0 y0 x1 y1 h0 h1 w
  by_cases h2 : (a : Int) < x1
  · exact rcrop_o2 hs hl g o cap x0 y0 x1 y1 h0 h1 h2 w
  by_cases h3 : y0 < 0
  · exact rcrop_o3 hs hl g o cap x0 y0 x1 y1 h0 h1 h2 h3 w
  by_cases h4 : y1 ≤ y0
  · exact rcrop_o4 hs hl g o cap x0 y0 x1 y1 h0 h1 h2 h3 h4 w
  by_cases h5 : (b : Int) < y1
  · exact rcrop_o5 hs hl g o cap x0 y0 x1 y1 h0 h1 h2 h3 h4 h5 w
  · exfalso
    have : wiB x0 y0 x1 y1 a b = true := by
      unfold wiB
      simp only [Bool.and_eq_true, decide_eq_true_eq]
      omega
    rw [this] at hr
    cases hr
set_option maxHeartbeats 1000000 in
set_option maxRecDepth 100000 in
theorem rpaste_bad2 (W H : Int) (a : Option Addr) (n c : Nat) (hn : n ≤ 9223372036854775807) (hok : chk W H n = 0) (W2 H2 : Int) (a2 : Option Addr) (n2 c2 : Nat) (hn2 : n2 ≤ 9223372036854775807) {r : Int} (hr : chk W2 H2 n2 = r) (h0 : r ≠ 0) (X Y : Int) (w : World) :
    Calls Try.prog 25 #[.agg #[.int .i64 W, .int .i64 H, .slice a n c], .agg #[.int .i64 W2, .int .i64 H2, .slice a2 n2 c2], .int .i64 X, .int .i64 Y] w (Fails w r) := by
  have hb : (r != 0) = true := by rw [bne_iff_ne]; exact h0
  have hb0 : ((0 : Int) != 0) = false := by decide
  obtain ⟨w1, hw1⟩ : ∃ w1, ((w.alloc (.cells #[.int .i64 W, .int .i64 H, .slice a n c] 25)).alloc (.cells #[.int .i64 W2, .int .i64 H2, .slice a2 n2 c2] 25)).alloc (.cells #[.int .i64 0, .int .i64 0, .slice none 0 0] 25) = w1 := ⟨_, rfl⟩
  have Q1 : Hid (Q w w1) := by rw [← hw1]; exact ((((Q.refl w).cells _ _).cells _ _).cells _ _)
  have S1 : w1.heap.size = w.heap.size + 1 + 1 + 1 := by rw [← hw1]; simp
  have z00 : w1.cell? ⟨w.heap.size, 0, none⟩ = some (.int .i64 W) := by rw [← hw1]; simp [go_sem]
  have z01 : w1.cell? ⟨w.heap.size, 1, none⟩ = some (.int .i64 H) := by rw [← hw1]; simp [go_sem]
  have z02 : w1.cell? ⟨w.heap.size, 2, none⟩ = some (.slice a n c) := by rw [← hw1]; simp [go_sem]
  have z10 : w1.cell? ⟨w.heap.size + 1, 0, none⟩ = some (.int .i64 W2) := by rw [← hw1]; simp [go_sem]
  have z11 : w1.cell? ⟨w.heap.size + 1, 1, none⟩ = some (.int .i64 H2) := by rw [← hw1]; simp [go_sem]
  have z12 : w1.cell? ⟨w.heap.size + 1, 2, none⟩ = some (.slice a2 n2 c2) := by rw [← hw1]; simp [go_sem]
  have z20 : w1.cell? ⟨w.heap.size + 1 + 1, 0, none⟩ = some (.int .i64 0) := by rw [← hw1]; simp [go_sem]
  have z21 : w1.cell? ⟨w.heap.size + 1 + 1, 1, none⟩ = some (.int .i64 0) := by rw [← hw1]; simp [go_sem]
  have z22 : w1.cell? ⟨w.heap.size + 1 + 1, 2, none⟩ = some (.slice none 0 0) := by rw [← hw1]; simp [go_sem]
  have yf : ∀ j, w1.frozen? ⟨w.heap.size + 1 + 1, j, none⟩ = false := fun j => by rw [← hw1]; simp [go_sem]
  have A := rcheck_any W H a n c hn w1
  rw [hok] at A
  have B : ∀ w : World, Calls Try.prog 18 #[.agg #[.int .i64 W2, .int .i64 H2, .slice a2 n2 c2]] w fun e w' => e = .returned (.int .i64 r) ∧ Q w w' := fun w => hr ▸ rcheck_any W2 H2 a2 n2 c2 hn2 w
  clear hr hn hn2 hok
  go_enter Try.func25, Try.ntmps25
  go_wp2_with fail
  clear hw1
  refine A.mono ?_
  rintro e w2 ⟨rfl, q2⟩
  replace z00 := q2.cell z00
  replace z01 := q2.cell z01
  replace z02 := q2.cell z02
  replace z10 := q2.cell z10
  replace z11 := q2.cell z11
  replace z12 := q2.cell z12
  replace z20 := q2.cell z20
  replace z21 := q2.cell z21
  replace z22 := q2.cell z22
  go_wp2_with fail
  refine (B _).mono ?_
  rintro e w3 ⟨rfl, q3⟩
  replace z00 := q3.cell z00
  replace z01 := q3.cell z01
  replace z02 := q3.cell z02
  replace z10 := q3.cell z10
  replace z11 := q3.cell z11
  replace z12 := q3.cell z12
  replace z20 := q3.cell z20
  replace z21 := q3.cell z21
  replace z22 := q3.cell z22
  have yk : ∀ j, w3.frozen? ⟨w.heap.size + 1 + 1, j, none⟩ = false := fun j => by rw [q3.2, q2.2]; exact yf j
  clear A B yf
  go_wp2_with fail
  refine bodyPost_ret (v := .tuple #[noPl, .int .i64 r]) (by simp [results, Try.results25, go_sem, noPl, z20, z21, z22]) rfl ⟨rfl, ?_⟩
  exact ((((Q1.out.trans q2).trans q3).put (by omega)).put (by omega)).put (by omega)
end Go.Proofs.Ytkgfohodahkmmaa

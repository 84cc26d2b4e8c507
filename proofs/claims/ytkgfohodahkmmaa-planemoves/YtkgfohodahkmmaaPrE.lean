/- The document's planes: what is refused. -/
import Derived.Test.YtkgfohodahkmmaaPrD
namespace Go.Proofs.Ytkgfohodahkmmaa
open Go.RowKit
set_option linter.unusedVariables false
set_option linter.unusedSimpArgs false

set_option maxHeartbeats 1000000 in
set_option maxRecDepth 100000 in
theorem rflip_bad (W H : Int) (a : Option Addr) (n c : Nat) (hn : n ≤ 9223372036854775807) {r : Int} (hr : chk W H n = r) (h0 : r ≠ 0) (B : Bool) (w : World) :
    Calls Try.prog 27 #[.agg #[.int .i64 W, .int .i64 H, .slice a n c], .bool B] w (Fails w r) := by
  have hb : (r != 0) = true := by rw [bne_iff_ne]; exact h0
  obtain ⟨w1, hw1⟩ : ∃ w1, (w.alloc (.cells #[.int .i64 W, .int .i64 H, .slice a n c] 25)).alloc (.cells #[.int .i64 0, .int .i64 0, .slice none 0 0] 25) = w1 := ⟨_, rfl⟩
  have Q1 : Hid (Q w w1) := by rw [← hw1]; exact (((Q.refl w).cells _ _).cells _ _)
  have S1 : w1.heap.size = w.heap.size + 1 + 1 := by rw [← hw1]; simp
  have z00 : w1.cell? ⟨w.heap.size, 0, none⟩ = some (.int .i64 W) := by rw [← hw1]; simp [go_sem]
  have z01 : w1.cell? ⟨w.heap.size, 1, none⟩ = some (.int .i64 H) := by rw [← hw1]; simp [go_sem]
  have z02 : w1.cell? ⟨w.heap.size, 2, none⟩ = some (.slice a n c) := by rw [← hw1]; simp [go_sem]
  have z10 : w1.cell? ⟨w.heap.size + 1, 0, none⟩ = some (.int .i64 0) := by rw [← hw1]; simp [go_sem]
  have z11 : w1.cell? ⟨w.heap.size + 1, 1, none⟩ = some (.int .i64 0) := by rw [← hw1]; simp [go_sem]
  have z12 : w1.cell? ⟨w.heap.size + 1, 2, none⟩ = some (.slice none 0 0) := by rw [← hw1]; simp [go_sem]
  have yf : ∀ j, w1.frozen? ⟨w.heap.size + 1, j, none⟩ = false := fun j => by rw [← hw1]; simp [go_sem]
  have A := rcheck_any W H a n c hn w1
  rw [hr] at A
  clear hr hn
  go_enter Try.func27, Try.ntmps27
  go_wp2_with fail
  refine A.mono ?_
  rintro e w2 ⟨rfl, q2⟩
  replace z00 := q2.cell z00
  replace z01 := q2.cell z01
  replace z02 := q2.cell z02
  replace z10 := q2.cell z10
  replace z11 := q2.cell z11
  replace z12 := q2.cell z12
  have yg : ∀ j, w2.frozen? ⟨w.heap.size + 1, j, none⟩ = false := fun j => by rw [q2.2]; exact yf j
  clear hw1 A yf
  go_wp2_with fail
  refine bodyPost_ret (v := .tuple #[noPl, .int .i64 r]) (by simp [results, Try.results27, go_sem, noPl, z10, z11, z12]) rfl ⟨rfl, ?_⟩
  exact (((Q1.out.trans q2).put (by omega)).put (by omega)).put (by omega)
set_option maxHeartbeats 1000000 in
set_option maxRecDepth 100000 in
theorem rtrans_bad (W H : Int) (a : Option Addr) (n c : Nat) (hn : n ≤ 9223372036854775807) {r : Int} (hr : chk W H n = r) (h0 : r ≠ 0)  (w : World) :
    Calls Try.prog 29 #[.agg #[.int .i64 W, .int .i64 H, .slice a n c]] w (Fails w r) := by
  have hb : (r != 0) = true := by rw [bne_iff_ne]; exact h0
  obtain ⟨w1, hw1⟩ : ∃ w1, (w.alloc (.cells #[.int .i64 W, .int .i64 H, .slice a n c] 25)).alloc (.cells #[.int .i64 0, .int .i64 0, .slice none 0 0] 25) = w1 := ⟨_, rfl⟩
  have Q1 : Hid (Q w w1) := by rw [← hw1]; exact (((Q.refl w).cells _ _).cells _ _)
  have S1 : w1.heap.size = w.heap.size + 1 + 1 := by rw [← hw1]; simp
  have z00 : w1.cell? ⟨w.heap.size, 0, none⟩ = some (.int .i64 W) := by rw [← hw1]; simp [go_sem]
  have z01 : w1.cell? ⟨w.heap.size, 1, none⟩ = some (.int .i64 H) := by rw [← hw1]; simp [go_sem]
  have z02 : w1.cell? ⟨w.heap.size, 2, none⟩ = some (.slice a n c) := by rw [← hw1]; simp [go_sem]
  have z10 : w1.cell? ⟨w.heap.size + 1, 0, none⟩ = some (.int .i64 0) := by rw [← hw1]; simp [go_sem]
  have z11 : w1.cell? ⟨w.heap.size + 1, 1, none⟩ = some (.int .i64 0) := by rw [← hw1]; simp [go_sem]
  have z12 : w1.cell? ⟨w.heap.size + 1, 2, none⟩ = some (.slice none 0 0) := by rw [← hw1]; simp [go_sem]
  have yf : ∀ j, w1.frozen? ⟨w.heap.size + 1, j, none⟩ = false := fun j => by rw [← hw1]; simp [go_sem]
  have A := rcheck_any W H a n c hn w1
  rw [hr] at A
  clear hr hn
  go_enter Try.func29, Try.ntmps29
  go_wp2_with fail
  refine A.mono ?_
  rintro e w2 ⟨rfl, q2⟩
  replace z00 := q2.cell z00
  replace z01 := q2.cell z01
  replace z02 := q2.cell z02
  replace z10 := q2.cell z10
  replace z11 := q2.cell z11
  replace z12 := q2.cell z12
  have yg : ∀ j, w2.frozen? ⟨w.heap.size + 1, j, none⟩ = false := fun j => by rw [q2.2]; exact yf j
  clear hw1 A yf
  go_wp2_with fail
  refine bodyPost_ret (v := .tuple #[noPl, .int .i64 r]) (by simp [results, Try.results29, go_sem, noPl, z10, z11, z12]) rfl ⟨rfl, ?_⟩
  exact (((Q1.out.trans q2).put (by omega)).put (by omega)).put (by omega)
set_option maxHeartbeats 1000000 in
set_option maxRecDepth 100000 in
theorem rturn_bad (W H : Int) (a : Option Addr) (n c : Nat) (hn : n ≤ 9223372036854775807) {r : Int} (hr : chk W H n = r) (h0 : r ≠ 0) (k : Int) (w : World) :
    Calls Try.prog 31 #[.agg #[.int .i64 W, .int .i64 H, .slice a n c], .int .i64 k] w (Fails w r) := by
  have hb : (r != 0) = true := by rw [bne_iff_ne]; exact h0
  obtain ⟨w1, hw1⟩ : ∃ w1, (w.alloc (.cells #[.int .i64 W, .int .i64 H, .slice a n c] 25)).alloc (.cells #[.int .i64 0, .int .i64 0, .slice none 0 0] 25) = w1 := ⟨_, rfl⟩
  have Q1 : Hid (Q w w1) := by rw [← hw1]; exact (((Q.refl w).cells _ _).cells _ _)
  have S1 : w1.heap.size = w.heap.size + 1 + 1 := by rw [← hw1]; simp
  have z00 : w1.cell? ⟨w.heap.size, 0, none⟩ = some (.int .i64 W) := by rw [← hw1]; simp [go_sem]
  have z01 : w1.cell? ⟨w.heap.size, 1, none⟩ = some (.int .i64 H) := by rw [← hw1]; simp [go_sem]
  have z02 : w1.cell? ⟨w.heap.size, 2, none⟩ = some (.slice a n c) := by rw [← hw1]; simp [go_sem]
  have z10 : w1.cell? ⟨w.heap.size + 1, 0, none⟩ = some (.int .i64 0) := by rw [← hw1]; simp [go_sem]
  have z11 : w1.cell? ⟨w.heap.size + 1, 1, none⟩ = some (.int .i64 0) := by rw [← hw1]; simp [go_sem]
  have z12 : w1.cell? ⟨w.heap.size + 1, 2, none⟩ = some (.slice none 0 0) := by rw [← hw1]; simp [go_sem]
  have yf : ∀ j, w1.frozen? ⟨w.heap.size + 1, j, none⟩ = false := fun j => by rw [← hw1]; simp [go_sem]
  have A := rcheck_any W H a n c hn w1
  rw [hr] at A
  clear hr hn
  go_enter Try.func31, Try.ntmps31
  go_wp2_with fail
  refine A.mono ?_
  rintro e w2 ⟨rfl, q2⟩
  replace z00 := q2.cell z00
  replace z01 := q2.cell z01
  replace z02 := q2.cell z02
  replace z10 := q2.cell z10
  replace z11 := q2.cell z11
  replace z12 := q2.cell z12
  have yg : ∀ j, w2.frozen? ⟨w.heap.size + 1, j, none⟩ = false := fun j => by rw [q2.2]; exact yf j
  clear hw1 A yf
  go_wp2_with fail
  refine bodyPost_ret (v := .tuple #[noPl, .int .i64 r]) (by simp [results, Try.results31, go_sem, noPl, z10, z11, z12]) rfl ⟨rfl, ?_⟩
  exact (((Q1.out.trans q2).put (by omega)).put (by omega)).put (by omega)
set_option maxHeartbeats 1000000 in
set_option maxRecDepth 100000 in
theorem rcrop_bad (W H : Int) (a : Option Addr) (n c : Nat) (hn : n ≤ 9223372036854775807) {r : Int} (hr : chk W H n = r) (h0 : r ≠ 0) (x0 y0 x1 y1 : Int) (w : World) :
    Calls Try.prog 23 #[.agg #[.int .i64 W, .int .i64 H, .slice a n c], .agg #[.int .i64 x0, .int .i64 y0, .int .i64 x1, .int .i64 y1]] w (Fails w r) := by
  have hb : (r != 0) = true := by rw [bne_iff_ne]; exact h0
  obtain ⟨w1, hw1⟩ : ∃ w1, ((w.alloc (.cells #[.int .i64 W, .int .i64 H, .slice a n c] 25)).alloc (.cells #[.int .i64 x0, .int .i64 y0, .int .i64 x1, .int .i64 y1] 56)).alloc (.cells #[.int .i64 0, .int .i64 0, .slice none 0 0] 25) = w1 := ⟨_, rfl⟩
  have Q1 : Hid (Q w w1) := by rw [← hw1]; exact ((((Q.refl w).cells _ _).cells _ _).cells _ _)
  have S1 : w1.heap.size = w.heap.size + 1 + 1 + 1 := by rw [← hw1]; simp
  have z00 : w1.cell? ⟨w.heap.size, 0, none⟩ = some (.int .i64 W) := by rw [← hw1]; simp [go_sem]
  have z01 : w1.cell? ⟨w.heap.size, 1, none⟩ = some (.int .i64 H) := by rw [← hw1]; simp [go_sem]
  have z02 : w1.cell? ⟨w.heap.size, 2, none⟩ = some (.slice a n c) := by rw [← hw1]; simp [go_sem]
  have z10 : w1.cell? ⟨w.heap.size + 1, 0, none⟩ = some (.int .i64 x0) := by rw [← hw1]; simp [go_sem]
  have z11 : w1.cell? ⟨w.heap.size + 1, 1, none⟩ = some (.int .i64 y0) := by rw [← hw1]; simp [go_sem]
  have z12 : w1.cell? ⟨w.heap.size + 1, 2, none⟩ = some (.int .i64 x1) := by rw [← hw1]; simp [go_sem]
  have z13 : w1.cell? ⟨w.heap.size + 1, 3, none⟩ = some (.int .i64 y1) := by rw [← hw1]; simp [go_sem]
  have z20 : w1.cell? ⟨w.heap.size + 1 + 1, 0, none⟩ = some (.int .i64 0) := by rw [← hw1]; simp [go_sem]
  have z21 : w1.cell? ⟨w.heap.size + 1 + 1, 1, none⟩ = some (.int .i64 0) := by rw [← hw1]; simp [go_sem]
  have z22 : w1.cell? ⟨w.heap.size + 1 + 1, 2, none⟩ = some (.slice none 0 0) := by rw [← hw1]; simp [go_sem]
  have yf : ∀ j, w1.frozen? ⟨w.heap.size + 1 + 1, j, none⟩ = false := fun j => by rw [← hw1]; simp [go_sem]
  have A := rcheck_any W H a n c hn w1
  rw [hr] at A
  clear hr hn
  go_enter Try.func23, Try.ntmps23
  go_wp2_with fail
  refine A.mono ?_
  rintro e w2 ⟨rfl, q2⟩
  replace z00 := q2.cell z00
  replace z01 := q2.cell z01
  replace z02 := q2.cell z02
  replace z10 := q2.cell z10
  replace z11 := q2.cell z11
  replace z12 := q2.cell z12
  replace z13 := q2.cell z13
  replace z20 := q2.cell z20
  replace z21 := q2.cell z21
  replace z22 := q2.cell z22
  have yg : ∀ j, w2.frozen? ⟨w.heap.size + 1 + 1, j, none⟩ = false := fun j => by rw [q2.2]; exact yf j
  clear hw1 A yf
  go_wp2_with fail
  refine bodyPost_ret (v := .tuple #[noPl, .int .i64 r]) (by simp [results, Try.results23, go_sem, noPl, z20, z21, z22]) rfl ⟨rfl, ?_⟩
  exact (((Q1.out.trans q2).put (by omega)).put (by omega)).put (by omega)
set_option maxHeartbeats 1000000 in
set_option maxRecDepth 100000 in
theorem rext_bad (W H : Int) (a : Option Addr) (n c : Nat) (hn : n ≤ 9223372036854775807) {r : Int} (hr : chk W H n = r) (h0 : r ≠ 0) (k l t r1 b1 : Int) (w : World) :
    Calls Try.prog 34 #[.agg #[.int .i64 W, .int .i64 H, .slice a n c], .int .i64 k, .int .i64 l, .int .i64 t, .int .i64 r1, .int .i64 b1] w (Fails w r) := by
  have hb : (r != 0) = true := by rw [bne_iff_ne]; exact h0
  obtain ⟨w1, hw1⟩ : ∃ w1, (w.alloc (.cells #[.int .i64 W, .int .i64 H, .slice a n c] 25)).alloc (.cells #[.int .i64 0, .int .i64 0, .slice none 0 0] 25) = w1 := ⟨_, rfl⟩
  have Q1 : Hid (Q w w1) := by rw [← hw1]; exact (((Q.refl w).cells _ _).cells _ _)
  have S1 : w1.heap.size = w.heap.size + 1 + 1 := by rw [← hw1]; simp
  have z00 : w1.cell? ⟨w.heap.size, 0, none⟩ = some (.int .i64 W) := by rw [← hw1]; simp [go_sem]
  have z01 : w1.cell? ⟨w.heap.size, 1, none⟩ = some (.int .i64 H) := by rw [← hw1]; simp [go_sem]
  have z02 : w1.cell? ⟨w.heap.size, 2, none⟩ = some (.slice a n c) := by rw [← hw1]; simp [go_sem]
  have z10 : w1.cell? ⟨w.heap.size + 1, 0, none⟩ = some (.int .i64 0) := by rw [← hw1]; simp [go_sem]
  have z11 : w1.cell? ⟨w.heap.size + 1, 1, none⟩ = some (.int .i64 0) := by rw [← hw1]; simp [go_sem]
  have z12 : w1.cell? ⟨w.heap.size + 1, 2, none⟩ = some (.slice none 0 0) := by rw [← hw1]; simp [go_sem]
  have yf : ∀ j, w1.frozen? ⟨w.heap.size + 1, j, none⟩ = false := fun j => by rw [← hw1]; simp [go_sem]
  have A := rcheck_any W H a n c hn w1
  rw [hr] at A
  clear hr hn
  go_enter Try.func34, Try.ntmps34
  go_wp2_with fail
  refine A.mono ?_
  rintro e w2 ⟨rfl, q2⟩
  replace z00 := q2.cell z00
  replace z01 := q2.cell z01
  replace z02 := q2.cell z02
  replace z10 := q2.cell z10
  replace z11 := q2.cell z11
  replace z12 := q2.cell z12
  have yg : ∀ j, w2.frozen? ⟨w.heap.size + 1, j, none⟩ = false := fun j => by rw [q2.2]; exact yf j
  clear hw1 A yf
  go_wp2_with fail
  refine bodyPost_ret (v := .tuple #[noPl, .int .i64 r]) (by simp [results, Try.results34, go_sem, noPl, z10, z11, z12]) rfl ⟨rfl, ?_⟩
  exact (((Q1.out.trans q2).put (by omega)).put (by omega)).put (by omega)
set_option maxHeartbeats 1000000 in
set_option maxRecDepth 100000 in
theorem rpaste_bad (W H : Int) (a : Option Addr) (n c : Nat) (hn : n ≤ 9223372036854775807) {r : Int} (hr : chk W H n = r) (h0 : r ≠ 0) (W2 H2 : Int) (a2 : Option Addr) (n2 c2 : Nat) (X Y : Int) (w : World) :
    Calls Try.prog 25 #[.agg #[.int .i64 W, .int .i64 H, .slice a n c], .agg #[.int .i64 W2, .int .i64 H2, .slice a2 n2 c2], .int .i64 X, .int .i64 Y] w (Fails w r) := by
  have hb : (r != 0) = true := by rw [bne_iff_ne]; exact h0
  obtain ⟨w1, hw1⟩ : ∃ w1, ((w.alloc (.cells #[.int .i64 W, .int .i64 H, .slice a n c] 25)).alloc (.cells #[.int .i64 W2, .int .i64 H2, .slice a2 n2 c2] 25)).alloc (.cells #[.int .i64 0, .int .i64 0, .slice none 0 0] 25) = w1 := ⟨_, rfl⟩
  have Q1 : Hid (Q w w1) := by rw [← hw1]; exact ((((Q.refl w).cells _ _).cells _ _).cells _ _)
  have S1 : w1.heap.size = w.heap.size + 1 + 1 + 1 := by rw [← hw1]; simp
  have z00 : w1.cell? ⟨w.heap.size, 0, none⟩ = some (.int .i64 W) := by rw [← hw1]; simp [go_sem]
  have z01 : w1.cell? ⟨w.heap.size, 1, none⟩ = some (.int .i64 H) := by rw [← hw1]; simp [go_sem]
  have z02 : w1.cell? ⟨w.heap.size, 2, none⟩ = some (.slice a n c) := by rw [← hw1]; simp [go_sem]
  have z10 : w1.cell? ⟨w.heap.size + 1, 0, none⟩ = some (.int .i64 W2) := by rw [← hw1]; simp [go_sem]
  have z11 : w1.cell? ⟨w.heap.size + 1, 1, none⟩ = some (.int .i64 H2) := by rw [← hw1]; simp [go_sem]
  have z12 : w1.cell? ⟨w.heap.size + 1, 2, none⟩ = some (.slice a2 n2 c2) := by rw [← hw1]; simp [go_sem]
  have z20 : w1.cell? ⟨w.heap.size + 1 + 1, 0, none⟩ = some (.int .i64 0) := by rw [← hw1]; simp [go_sem]
  have z21 : w1.cell? ⟨w.heap.size + 1 + 1, 1, none⟩ = some (.int .i64 0) := by rw [← hw1]; simp [go_sem]
  have z22 : w1.cell? ⟨w.heap.size + 1 + 1, 2, none⟩ = some (.slice none 0 0) := by rw [← hw1]; simp [go_sem]
  have yf : ∀ j, w1.frozen? ⟨w.heap.size + 1 + 1, j, none⟩ = false := fun j => by rw [← hw1]; simp [go_sem]
  have A := rcheck_any W H a n c hn w1
  rw [hr] at A
  clear hr hn
  go_enter Try.func25, Try.ntmps25
  go_wp2_with fail
  refine A.mono ?_
  rintro e w2 ⟨rfl, q2⟩
  replace z00 := q2.cell z00
  replace z01 := q2.cell z01
  replace z02 := q2.cell z02
  replace z10 := q2.cell z10
  replace z11 := q2.cell z11
  replace z12 := q2.cell z12
  replace z20 := q2.cell z20
  replace z21 := q2.cell z21
  replace z22 := q2.cell z22
  have yg : ∀ j, w2.frozen? ⟨w.heap.size + 1 + 1, j, none⟩ = false := fun j => by rw [q2.2]; exact yf j
  clear hw1 A yf
  go_wp2_with fail
  refine bodyPost_ret (v := .tuple #[noPl, .int .i64 r]) (by simp [results, Try.results25, go_sem, noPl, z20, z21, z22]) rfl ⟨rfl, ?_⟩
  exact (((Q1.out.trans q2).put (by omega)).put (by omega)).put (by omega)
end Go.Proofs.Ytkgfohodahkmmaa

/- Planes made and moved: the program's New, Get, Crop, Paste, Flip, Transpose. -/
import Derived.Test.YtkgfohodahkmmaaPlG
namespace Go.Proofs.Ytkgfohodahkmmaa
open Go.RowKit
set_option linter.unusedVariables false
set_option linter.unusedSimpArgs false

/-- An empty answer. -/
def noPl : Value := .agg #[.int .i64 0, .int .i64 0, .slice none 0 0]
/-- A plane in memory of its own, and no error. -/
def Made (w : World) (a b : Nat) (S : List Nat) (e : Ending) (w' : World) : Prop := ∃ g, e = .returned (.tuple #[.agg #[.int .i64 (a : Int), .int .i64 (b : Int), .slice (some ⟨g, 0, none⟩) (a * b) (a * b)], .int .i64 0]) ∧ Own w w' g S
/-- No plane, and an error. -/
def Fails (w : World) (r : Int) (e : Ending) (w' : World) : Prop := e = .returned (.tuple #[noPl, .int .i64 r]) ∧ Q w w'
theorem Q.put {w wr : World} (h : Q w wr) {c j : Nat} (hc : w.heap.size ≤ c) {v : Value} : Q w (wr.setCell ⟨c, j, none⟩ v) := h.set hc v
theorem Own.base {w0 w wr : World} {b : Nat} {S : List Nat} (h : Own w wr b S) (q : Q w0 w) : Own w0 wr b S := ⟨q.trans h.q, Nat.le_trans q.1.size h.new, h.cells, h.free⟩

set_option maxHeartbeats 1000000 in
set_option maxRecDepth 100000 in
theorem flip_bad (W H : Int) (a : Option Addr) (n c : Nat) (hn : n ≤ 9223372036854775807) {r : Int} (hr : chk W H n = r) (h0 : r ≠ 0) (B : Bool) (w : World) :
    Calls Try.prog 26 #[.agg #[.int .i64 W, .int .i64 H, .slice a n c], .bool B] w (Fails w r) := by
  have hb : (r != 0) = true := by rw [bne_iff_ne]; exact h0
  obtain ⟨w1, hw1⟩ : ∃ w1, (w.alloc (.cells #[.int .i64 W, .int .i64 H, .slice a n c] 25)).alloc (.cells #[.int .i64 0, .int .i64 0, .slice none 0 0] 25) = w1 := ⟨_, rfl⟩
  have Q1 : Hid (Q w w1) := by rw [← hw1]; exact (((Q.refl w).cells _ _).cells _ _)
  have S1 : w1.heap.size = w.heap.size + 1 + 1 := by rw [← hw1]; simp
  have z00 : w1.cell? ⟨w.heap.size, 0, none⟩ = some (.int .i64 W) := by rw [← hw1]; simp [go_sem]
  have z01 : w1.cell? ⟨w.heap.size, 1, none⟩ = some (.int .i64 H) := by rw [← hw1]; simp [go_sem]
  have z02 : w1.cell? ⟨w.heap.size, 2, none⟩ = some (.slice a n c) := by rw [← hw1]; simp [go_sem]
  have z10 : w1.cell? ⟨w.heap.size + 1, 0, none⟩ = some (.int .i64 0) := by rw [← hw1]; simp [go_sem]
  have z11 : w1.cell? ⟨w.heap.size + 1, 1, none⟩ = some (.int .i64 0) := by rw [← hw1]; simp [go_sem]
  have z12 : w1.cell? ⟨w.heap.size + 1, 2, none⟩ = some (.slice none 0 0) := by rw [← hw1]; simp [go_sem]
  have yf : ∀ j, w1.frozen? ⟨w.heap.size + 1, j, none⟩ = false := fun j => by rw [← hw1]; simp [go_sem]
  have A := check_any W H a n c hn w1
  rw [hr] at A
  clear hr hn
  go_enter Try.func26, Try.ntmps26
  go_wp2_with fail
  refine A.mono ?_
  rintro e w2 ⟨rfl, q2⟩
  replace z00 := q2.cell z00
  replace z01 := q2.cell z01
  replace z02 := q2.cell z02
  replace z10 := q2.cell z10
  replace z11 := q2.cell z11
  replace z12 := q2.cell z12
  have yg : ∀ j, w2.frozen? ⟨w.heap.size + 1, j, none⟩ = false := fun j => by rw [q2.2]; exact yf j
  clear hw1 A yf
  go_wp2_with fail
  refine bodyPost_ret (v := .tuple #[noPl, .int .i64 r]) (by simp [results, Try.results26, go_sem, noPl, z10, z11, z12]) rfl ⟨rfl, ?_⟩
  exact (((Q1.out.trans q2).put (by omega)).put (by omega)).put (by omega)
set_option maxHeartbeats 1000000 in
set_option maxRecDepth 100000 in
theorem trans_bad (W H : Int) (a : Option Addr) (n c : Nat) (hn : n ≤ 9223372036854775807) {r : Int} (hr : chk W H n = r) (h0 : r ≠ 0)  (w : World) :
    Calls Try.prog 28 #[.agg #[.int .i64 W, .int .i64 H, .slice a n c]] w (Fails w r) := by
  have hb : (r != 0) = true := by rw [bne_iff_ne]; exact h0
  obtain ⟨w1, hw1⟩ : ∃ w1, (w.alloc (.cells #[.int .i64 W, .int .i64 H, .slice a n c] 25)).alloc (.cells #[.int .i64 0, .int .i64 0, .slice none 0 0] 25) = w1 := ⟨_, rfl⟩
  have Q1 : Hid (Q w w1) := by rw [← hw1]; exact (((Q.refl w).cells _ _).cells _ _)
  have S1 : w1.heap.size = w.heap.size + 1 + 1 := by rw [← hw1]; simp
  have z00 : w1.cell? ⟨w.heap.size, 0, none⟩ = some (.int .i64 W) := by rw [← hw1]; simp [go_sem]
  have z01 : w1.cell? ⟨w.heap.size, 1, none⟩ = some (.int .i64 H) := by rw [← hw1]; simp [go_sem]
  have z02 : w1.cell? ⟨w.heap.size, 2, none⟩ = some (.slice a n c) := by rw [← hw1]; simp [go_sem]
  have z10 : w1.cell? ⟨w.heap.size + 1, 0, none⟩ = some (.int .i64 0) := by rw [← hw1]; simp [go_sem]
  have z11 : w1.cell? ⟨w.heap.size + 1, 1, none⟩ = some (.int .i64 0) := by rw [← hw1]; simp [go_sem]
  have z12 : w1.cell? ⟨w.heap.size + 1, 2, none⟩ = some (.slice none 0 0) := by rw [← hw1]; simp [go_sem]
  have yf : ∀ j, w1.frozen? ⟨w.heap.size + 1, j, none⟩ = false := fun j => by rw [← hw1]; simp [go_sem]
  have A := check_any W H a n c hn w1
  rw [hr] at A
  clear hr hn
  go_enter Try.func28, Try.ntmps28
  go_wp2_with fail
  refine A.mono ?_
  rintro e w2 ⟨rfl, q2⟩
  replace z00 := q2.cell z00
  replace z01 := q2.cell z01
  replace z02 := q2.cell z02
  replace z10 := q2.cell z10
  replace z11 := q2.cell z11
  replace z12 := q2.cell z12
  have yg : ∀ j, w2.frozen? ⟨w.heap.size + 1, j, none⟩ = false := fun j => by rw [q2.2]; exact yf j
  clear hw1 A yf
  go_wp2_with fail
  refine bodyPost_ret (v := .tuple #[noPl, .int .i64 r]) (by simp [results, Try.results28, go_sem, noPl, z10, z11, z12]) rfl ⟨rfl, ?_⟩
  exact (((Q1.out.trans q2).put (by omega)).put (by omega)).put (by omega)
set_option maxHeartbeats 1000000 in
set_option maxRecDepth 100000 in
theorem turn_bad (W H : Int) (a : Option Addr) (n c : Nat) (hn : n ≤ 9223372036854775807) {r : Int} (hr : chk W H n = r) (h0 : r ≠ 0) (k : Int) (w : World) :
    Calls Try.prog 30 #[.agg #[.int .i64 W, .int .i64 H, .slice a n c], .int .i64 k] w (Fails w r) := by
  have hb : (r != 0) = true := by rw [bne_iff_ne]; exact h0
  obtain ⟨w1, hw1⟩ : ∃ w1, (w.alloc (.cells #[.int .i64 W, .int .i64 H, .slice a n c] 25)).alloc (.cells #[.int .i64 0, .int .i64 0, .slice none 0 0] 25) = w1 := ⟨_, rfl⟩
  have Q1 : Hid (Q w w1) := by rw [← hw1]; exact (((Q.refl w).cells _ _).cells _ _)
  have S1 : w1.heap.size = w.heap.size + 1 + 1 := by rw [← hw1]; simp
  have z00 : w1.cell? ⟨w.heap.size, 0, none⟩ = some (.int .i64 W) := by rw [← hw1]; simp [go_sem]
  have z01 : w1.cell? ⟨w.heap.size, 1, none⟩ = some (.int .i64 H) := by rw [← hw1]; simp [go_sem]
  have z02 : w1.cell? ⟨w.heap.size, 2, none⟩ = some (.slice a n c) := by rw [← hw1]; simp [go_sem]
  have z10 : w1.cell? ⟨w.heap.size + 1, 0, none⟩ = some (.int .i64 0) := by rw [← hw1]; simp [go_sem]
  have z11 : w1.cell? ⟨w.heap.size + 1, 1, none⟩ = some (.int .i64 0) := by rw [← hw1]; simp [go_sem]
  have z12 : w1.cell? ⟨w.heap.size + 1, 2, none⟩ = some (.slice none 0 0) := by rw [← hw1]; simp [go_sem]
  have yf : ∀ j, w1.frozen? ⟨w.heap.size + 1, j, none⟩ = false := fun j => by rw [← hw1]; simp [go_sem]
  have A := check_any W H a n c hn w1
  rw [hr] at A
  clear hr hn
  go_enter Try.func30, Try.ntmps30
  go_wp2_with fail
  refine A.mono ?_
  rintro e w2 ⟨rfl, q2⟩
  replace z00 := q2.cell z00
  replace z01 := q2.cell z01
  replace z02 := q2.cell z02
  replace z10 := q2.cell z10
  replace z11 := q2.cell z11
  replace z12 := q2.cell z12
  have yg : ∀ j, w2.frozen? ⟨w.heap.size + 1, j, none⟩ = false := fun j => by rw [q2.2]; exact yf j
  clear hw1 A yf
  go_wp2_with fail
  refine bodyPost_ret (v := .tuple #[noPl, .int .i64 r]) (by simp [results, Try.results30, go_sem, noPl, z10, z11, z12]) rfl ⟨rfl, ?_⟩
  exact (((Q1.out.trans q2).put (by omega)).put (by omega)).put (by omega)
set_option maxHeartbeats 1000000 in
set_option maxRecDepth 100000 in
theorem crop_bad (W H : Int) (a : Option Addr) (n c : Nat) (hn : n ≤ 9223372036854775807) {r : Int} (hr : chk W H n = r) (h0 : r ≠ 0) (x0 y0 x1 y1 : Int) (w : World) :
    Calls Try.prog 22 #[.agg #[.int .i64 W, .int .i64 H, .slice a n c], .agg #[.int .i64 x0, .int .i64 y0, .int .i64 x1, .int .i64 y1]] w (Fails w r) := by
  have hb : (r != 0) = true := by rw [bne_iff_ne]; exact h0
  obtain ⟨w1, hw1⟩ : ∃ w1, ((w.alloc (.cells #[.int .i64 W, .int .i64 H, .slice a n c] 25)).alloc (.cells #[.int .i64 x0, .int .i64 y0, .int .i64 x1, .int .i64 y1] 56)).alloc (.cells #[.int .i64 0, .int .i64 0, .slice none 0 0] 25) = w1 := ⟨_, rfl⟩
  have Q1 : Hid (Q w w1) := by rw [← hw1]; exact ((((Q.refl w).cells _ _).cells _ _).cells _ _)
  have S1 : w1.heap.size = w.heap.size + 1 + 1 + 1 := by rw [← hw1]; simp
  have z00 : w1.cell? ⟨w.heap.size, 0, none⟩ = some (.int .i64 W) := by rw [← hw1]; simp [go_sem]
  have z01 : w1.cell? ⟨w.heap.size, 1, none⟩ = some (.int .i64 H) := by rw [← hw1]; simp [go_sem]
  have z02 : w1.cell? ⟨w.heap.size, 2, none⟩ = some (.slice a n c) := by rw [← hw1]; simp [go_sem]
  have z10 : w1.cell? ⟨w.heap.size + 1, 0, none⟩ = some (.int .i64 x0) := by rw [← hw1]; simp [go_sem]
  have z11 : w1.cell? ⟨w.heap.size + 1, 1, none⟩ = some (.int .i64 y0) := by rw [← hw1]; simp [go_sem]
  have z12 : w1.cell? ⟨w.heap.size + 1, 2, none⟩ = some (.int .i64 x1) := by rw [← hw1]; simp [go_sem]
  have z13 : w1.cell? ⟨w.heap.size + 1, 3, none⟩ = some (.int .i64 y1) := by rw [← hw1]; simp [go_sem]
  have z20 : w1.cell? ⟨w.heap.size + 1 + 1, 0, none⟩ = some (.int .i64 0) := by rw [← hw1]; simp [go_sem]
  have z21 : w1.cell? ⟨w.heap.size + 1 + 1, 1, none⟩ = some (.int .i64 0) := by rw [← hw1]; simp [go_sem]
  have z22 : w1.cell? ⟨w.heap.size + 1 + 1, 2, none⟩ = some (.slice none 0 0) := by rw [← hw1]; simp [go_sem]
  have yf : ∀ j, w1.frozen? ⟨w.heap.size + 1 + 1, j, none⟩ = false := fun j => by rw [← hw1]; simp [go_sem]
  have A := check_any W H a n c hn w1
  rw [hr] at A
  clear hr hn
  go_enter Try.func22, Try.ntmps22
  go_wp2_with fail
  refine A.mono ?_
  rintro e w2 ⟨rfl, q2⟩
  replace z00 := q2.cell z00
  replace z01 := q2.cell z01
  replace z02 := q2.cell z02
  replace z10 := q2.cell z10
  replace z11 := q2.cell z11
  replace z12 := q2.cell z12
  replace z13 := q2.cell z13
  replace z20 := q2.cell z20
  replace z21 := q2.cell z21
  replace z22 := q2.cell z22
  have yg : ∀ j, w2.frozen? ⟨w.heap.size + 1 + 1, j, none⟩ = false := fun j => by rw [q2.2]; exact yf j
  clear hw1 A yf
  go_wp2_with fail
  refine bodyPost_ret (v := .tuple #[noPl, .int .i64 r]) (by simp [results, Try.results22, go_sem, noPl, z20, z21, z22]) rfl ⟨rfl, ?_⟩
  exact (((Q1.out.trans q2).put (by omega)).put (by omega)).put (by omega)
set_option maxHeartbeats 1000000 in
set_option maxRecDepth 100000 in
theorem ext_bad (W H : Int) (a : Option Addr) (n c : Nat) (hn : n ≤ 9223372036854775807) {r : Int} (hr : chk W H n = r) (h0 : r ≠ 0) (k l t r1 b1 : Int) (w : World) :
    Calls Try.prog 35 #[.agg #[.int .i64 W, .int .i64 H, .slice a n c], .int .i64 k, .int .i64 l, .int .i64 t, .int .i64 r1, .int .i64 b1] w (Fails w r) := by
  have hb : (r != 0) = true := by rw [bne_iff_ne]; exact h0
  obtain ⟨w1, hw1⟩ : ∃ w1, (((w.alloc (.cells #[.int .i64 W, .int .i64 H, .slice a n c] 25)).alloc (.cells #[.int .i64 l] 3)).alloc (.cells #[.int .i64 t] 3)).alloc (.cells #[.int .i64 0, .int .i64 0, .slice none 0 0] 25) = w1 := ⟨_, rfl⟩
  have Q1 : Hid (Q w w1) := by rw [← hw1]; exact (((((Q.refl w).cells _ _).cells _ _).cells _ _).cells _ _)
  have S1 : w1.heap.size = w.heap.size + 1 + 1 + 1 + 1 := by rw [← hw1]; simp
  have z00 : w1.cell? ⟨w.heap.size, 0, none⟩ = some (.int .i64 W) := by rw [← hw1]; simp [go_sem]
  have z01 : w1.cell? ⟨w.heap.size, 1, none⟩ = some (.int .i64 H) := by rw [← hw1]; simp [go_sem]
  have z02 : w1.cell? ⟨w.heap.size, 2, none⟩ = some (.slice a n c) := by rw [← hw1]; simp [go_sem]
  have z10 : w1.cell? ⟨w.heap.size + 1, 0, none⟩ = some (.int .i64 l) := by rw [← hw1]; simp [go_sem]
  have z20 : w1.cell? ⟨w.heap.size + 1 + 1, 0, none⟩ = some (.int .i64 t) := by rw [← hw1]; simp [go_sem]
  have z30 : w1.cell? ⟨w.heap.size + 1 + 1 + 1, 0, none⟩ = some (.int .i64 0) := by rw [← hw1]; simp [go_sem]
  have z31 : w1.cell? ⟨w.heap.size + 1 + 1 + 1, 1, none⟩ = some (.int .i64 0) := by rw [← hw1]; simp [go_sem]
  have z32 : w1.cell? ⟨w.heap.size + 1 + 1 + 1, 2, none⟩ = some (.slice none 0 0) := by rw [← hw1]; simp [go_sem]
  have yf : ∀ j, w1.frozen? ⟨w.heap.size + 1 + 1 + 1, j, none⟩ = false := fun j => by rw [← hw1]; simp [go_sem]
  have A := check_any W H a n c hn w1
  rw [hr] at A
  clear hr hn
  go_enter Try.func35, Try.ntmps35
  go_wp2_with fail
  refine A.mono ?_
  rintro e w2 ⟨rfl, q2⟩
  replace z00 := q2.cell z00
  replace z01 := q2.cell z01
  replace z02 := q2.cell z02
  replace z10 := q2.cell z10
  replace z20 := q2.cell z20
  replace z30 := q2.cell z30
  replace z31 := q2.cell z31
  replace z32 := q2.cell z32
  have yg : ∀ j, w2.frozen? ⟨w.heap.size + 1 + 1 + 1, j, none⟩ = false := fun j => by rw [q2.2]; exact yf j
  clear hw1 A yf
  go_wp2_with fail
  refine bodyPost_ret (v := .tuple #[noPl, .int .i64 r]) (by simp [results, Try.results35, go_sem, noPl, z30, z31, z32]) rfl ⟨rfl, ?_⟩
  exact (((Q1.out.trans q2).put (by omega)).put (by omega)).put (by omega)
set_option maxHeartbeats 2000000 in
set_option maxRecDepth 100000 in
theorem flip_no {a b : Nat} (hs : Size a b) {S : List Nat} (hl : S.length = a * b) (g o cap : Nat)  (w : World) (hu : UIs w g o S) :
    Calls Try.prog 26 #[.agg #[.int .i64 (a : Int), .int .i64 (b : Int), .slice (some ⟨g, o, none⟩) S.length cap], .bool false] w (Made w a b (tab a b (fun x y => smp S a x (b - 1 - y)))) := by
  have hb : ((0 : Int) != 0) = false := by decide
  have hn : S.length ≤ 9223372036854775807 := by have := hs.ab; omega
  obtain ⟨w1, hw1⟩ : ∃ w1, (w.alloc (.cells #[.int .i64 (a : Int), .int .i64 (b : Int), .slice (some ⟨g, o, none⟩) S.length cap] 25)).alloc (.cells #[.int .i64 0, .int .i64 0, .slice none 0 0] 25) = w1 := ⟨_, rfl⟩
  have Q1 : Hid (Q w w1) := by rw [← hw1]; exact (((Q.refl w).cells _ _).cells _ _)
  have S1 : w1.heap.size = w.heap.size + 1 + 1 := by rw [← hw1]; simp
  have z00 : w1.cell? ⟨w.heap.size, 0, none⟩ = some (.int .i64 (a : Int)) := by rw [← hw1]; simp [go_sem]
  have z01 : w1.cell? ⟨w.heap.size, 1, none⟩ = some (.int .i64 (b : Int)) := by rw [← hw1]; simp [go_sem]
  have z02 : w1.cell? ⟨w.heap.size, 2, none⟩ = some (.slice (some ⟨g, o, none⟩) S.length cap) := by rw [← hw1]; simp [go_sem]
  have z10 : w1.cell? ⟨w.heap.size + 1, 0, none⟩ = some (.int .i64 0) := by rw [← hw1]; simp [go_sem]
  have z11 : w1.cell? ⟨w.heap.size + 1, 1, none⟩ = some (.int .i64 0) := by rw [← hw1]; simp [go_sem]
  have z12 : w1.cell? ⟨w.heap.size + 1, 2, none⟩ = some (.slice none 0 0) := by rw [← hw1]; simp [go_sem]
  have yf : ∀ j, w1.frozen? ⟨w.heap.size + 1, j, none⟩ = false := fun j => by rw [← hw1]; simp [go_sem]
  have A := check_any (a : Int) (b : Int) (some ⟨g, o, none⟩) S.length cap hn w1
  rw [show chk (a : Int) (b : Int) S.length = 0 by rw [hl]; exact chk_size hs] at A
  have HS : Hid (Size a b) := hs
  have HL : Hid (S.length = a * b) := hl
  have HU : Hid (UIs w g o S) := hu
  clear hs hl hu hn
  go_enter Try.func26, Try.ntmps26
  go_wp2_with fail
  refine A.mono ?_
  rintro e w2 ⟨rfl, q2⟩
  replace z00 := q2.cell z00
  replace z01 := q2.cell z01
  replace z02 := q2.cell z02
  replace z10 := q2.cell z10
  replace z11 := q2.cell z11
  replace z12 := q2.cell z12
  have yg : ∀ j, w2.frozen? ⟨w.heap.size + 1, j, none⟩ = false := fun j => by rw [q2.2]; exact yf j
  clear hw1 A yf
  go_wp2_with fail
  refine (lay_any a b HS.out 57 #[.pointer (some ⟨w.heap.size, 0, none⟩)] (enters_of Try.func57 (by kernel_rfl) rfl) (fun x y => smp S a x (b - 1 - y)) w2 ?_).mono ?_
  · intro x y w' hx hy hq
    exact flip1_any HS.out HL.out hx hy (PBox.next ⟨z00, z01, z02⟩ hq) (HU.out.next ((Q1.out.trans q2).trans hq))
  rintro e w3 ⟨g3, rfl, O3⟩
  have q3 := O3.q
  replace z10 := q3.cell z10
  replace z11 := q3.cell z11
  replace z12 := q3.cell z12
  have yh : ∀ j, w3.frozen? ⟨w.heap.size + 1, j, none⟩ = false := fun j => by rw [q3.2]; exact yg j
  have hg : g3 ≠ w.heap.size + 1 := by
    have h1 := O3.new
    have h2 := q2.1.size
    omega
  have HO : Hid (Own w w3 g3 (tab a b (fun x y => smp S a x (b - 1 - y)))) := O3.base (Q1.out.trans q2)
  clear O3 q3 yg
  go_wp2_with fail
  refine bodyPost_ret (v := .tuple #[.agg #[.int .i64 ((a : Nat) : Int), .int .i64 ((b : Nat) : Int), .slice (some ⟨g3, 0, none⟩) (a * b) (a * b)], .int .i64 0]) (by simp [results, Try.results26, go_sem, z10, z11, z12]) rfl ⟨g3, rfl, ?_⟩
  exact ((HO.out.set (by omega) (fun e => hg e.symm)).set (by omega) (fun e => hg e.symm)).set (by omega) (fun e => hg e.symm)
set_option maxHeartbeats 2000000 in
set_option maxRecDepth 100000 in
theorem flip_yes {a b : Nat} (hs : Size a b) {S : List Nat} (hl : S.length = a * b) (g o cap : Nat)  (w : World) (hu : UIs w g o S) :
    Calls Try.prog 26 #[.agg #[.int .i64 (a : Int), .int .i64 (b : Int), .slice (some ⟨g, o, none⟩) S.length cap], .bool true] w (Made w a b (tab a b (fun x y => smp S a (a - 1 - x) y))) := by
  have hb : ((0 : Int) != 0) = false := by decide
  have hn : S.length ≤ 9223372036854775807 := by have := hs.ab; omega
  obtain ⟨w1, hw1⟩ : ∃ w1, (w.alloc (.cells #[.int .i64 (a : Int), .int .i64 (b : Int), .slice (some ⟨g, o, none⟩) S.length cap] 25)).alloc (.cells #[.int .i64 0, .int .i64 0, .slice none 0 0] 25) = w1 := ⟨_, rfl⟩
  have Q1 : Hid (Q w w1) := by rw [← hw1]; exact (((Q.refl w).cells _ _).cells _ _)
  have S1 : w1.heap.size = w.heap.size + 1 + 1 := by rw [← hw1]; simp
  have z00 : w1.cell? ⟨w.heap.size, 0, none⟩ = some (.int .i64 (a : Int)) := by rw [← hw1]; simp [go_sem]
  have z01 : w1.cell? ⟨w.heap.size, 1, none⟩ = some (.int .i64 (b : Int)) := by rw [← hw1]; simp [go_sem]
  have z02 : w1.cell? ⟨w.heap.size, 2, none⟩ = some (.slice (some ⟨g, o, none⟩) S.length cap) := by rw [← hw1]; simp [go_sem]
  have z10 : w1.cell? ⟨w.heap.size + 1, 0, none⟩ = some (.int .i64 0) := by rw [← hw1]; simp [go_sem]
  have z11 : w1.cell? ⟨w.heap.size + 1, 1, none⟩ = some (.int .i64 0) := by rw [← hw1]; simp [go_sem]
  have z12 : w1.cell? ⟨w.heap.size + 1, 2, none⟩ = some (.slice none 0 0) := by rw [← hw1]; simp [go_sem]
  have yf : ∀ j, w1.frozen? ⟨w.heap.size + 1, j, none⟩ = false := fun j => by rw [← hw1]; simp [go_sem]
  have A := check_any (a : Int) (b : Int) (some ⟨g, o, none⟩) S.length cap hn w1
  rw [show chk (a : Int) (b : Int) S.length = 0 by rw [hl]; exact chk_size hs] at A
  have HS : Hid (Size a b) := hs
  have HL : Hid (S.length = a * b) := hl
  have HU : Hid (UIs w g o S) := hu
  clear hs hl hu hn
  go_enter Try.func26, Try.ntmps26
  go_wp2_with fail
  refine A.mono ?_
  rintro e w2 ⟨rfl, q2⟩
  replace z00 := q2.cell z00
  replace z01 := q2.cell z01
  replace z02 := q2.cell z02
  replace z10 := q2.cell z10
  replace z11 := q2.cell z11
  replace z12 := q2.cell z12
  have yg : ∀ j, w2.frozen? ⟨w.heap.size + 1, j, none⟩ = false := fun j => by rw [q2.2]; exact yf j
  clear hw1 A yf
  go_wp2_with fail
  refine (lay_any a b HS.out 58 #[.pointer (some ⟨w.heap.size, 0, none⟩)] (enters_of Try.func58 (by kernel_rfl) rfl) (fun x y => smp S a (a - 1 - x) y) w2 ?_).mono ?_
  · intro x y w' hx hy hq
    exact flip2_any HS.out HL.out hx hy (PBox.next ⟨z00, z01, z02⟩ hq) (HU.out.next ((Q1.out.trans q2).trans hq))
  rintro e w3 ⟨g3, rfl, O3⟩
  have q3 := O3.q
  replace z10 := q3.cell z10
  replace z11 := q3.cell z11
  replace z12 := q3.cell z12
  have yh : ∀ j, w3.frozen? ⟨w.heap.size + 1, j, none⟩ = false := fun j => by rw [q3.2]; exact yg j
  have hg : g3 ≠ w.heap.size + 1 := by
    have h1 := O3.new
    have h2 := q2.1.size
    omega
  have HO : Hid (Own w w3 g3 (tab a b (fun x y => smp S a (a - 1 - x) y))) := O3.base (Q1.out.trans q2)
  clear O3 q3 yg
  go_wp2_with fail
  refine bodyPost_ret (v := .tuple #[.agg #[.int .i64 ((a : Nat) : Int), .int .i64 ((b : Nat) : Int), .slice (some ⟨g3, 0, none⟩) (a * b) (a * b)], .int .i64 0]) (by simp [results, Try.results26, go_sem, z10, z11, z12]) rfl ⟨g3, rfl, ?_⟩
  exact ((HO.out.set (by omega) (fun e => hg e.symm)).set (by omega) (fun e => hg e.symm)).set (by omega) (fun e => hg e.symm)
set_option maxHeartbeats 2000000 in
set_option maxRecDepth 100000 in
theorem trans_any {a b : Nat} (hs : Size a b) {S : List Nat} (hl : S.length = a * b) (g o cap : Nat)  (w : World) (hu : UIs w g o S) :
    Calls Try.prog 28 #[.agg #[.int .i64 (a : Int), .int .i64 (b : Int), .slice (some ⟨g, o, none⟩) S.length cap]] w (Made w b a (tab b a (fun x y => smp S a y x))) := by
  have hb : ((0 : Int) != 0) = false := by decide
  have hn : S.length ≤ 9223372036854775807 := by have := hs.ab; omega
  obtain ⟨w1, hw1⟩ : ∃ w1, (w.alloc (.cells #[.int .i64 (a : Int), .int .i64 (b : Int), .slice (some ⟨g, o, none⟩) S.length cap] 25)).alloc (.cells #[.int .i64 0, .int .i64 0, .slice none 0 0] 25) = w1 := ⟨_, rfl⟩
  have Q1 : Hid (Q w w1) := by rw [← hw1]; exact (((Q.refl w).cells _ _).cells _ _)
  have S1 : w1.heap.size = w.heap.size + 1 + 1 := by rw [← hw1]; simp
  have z00 : w1.cell? ⟨w.heap.size, 0, none⟩ = some (.int .i64 (a : Int)) := by rw [← hw1]; simp [go_sem]
  have z01 : w1.cell? ⟨w.heap.size, 1, none⟩ = some (.int .i64 (b : Int)) := by rw [← hw1]; simp [go_sem]
  have z02 : w1.cell? ⟨w.heap.size, 2, none⟩ = some (.slice (some ⟨g, o, none⟩) S.length cap) := by rw [← hw1]; simp [go_sem]
  have z10 : w1.cell? ⟨w.heap.size + 1, 0, none⟩ = some (.int .i64 0) := by rw [← hw1]; simp [go_sem]
  have z11 : w1.cell? ⟨w.heap.size + 1, 1, none⟩ = some (.int .i64 0) := by rw [← hw1]; simp [go_sem]
  have z12 : w1.cell? ⟨w.heap.size + 1, 2, none⟩ = some (.slice none 0 0) := by rw [← hw1]; simp [go_sem]
  have yf : ∀ j, w1.frozen? ⟨w.heap.size + 1, j, none⟩ = false := fun j => by rw [← hw1]; simp [go_sem]
  have A := check_any (a : Int) (b : Int) (some ⟨g, o, none⟩) S.length cap hn w1
  rw [show chk (a : Int) (b : Int) S.length = 0 by rw [hl]; exact chk_size hs] at A
  have HS : Hid (Size a b) := hs
  have HL : Hid (S.length = a * b) := hl
  have HU : Hid (UIs w g o S) := hu
  clear hs hl hu hn
  go_enter Try.func28, Try.ntmps28
  go_wp2_with fail
  refine A.mono ?_
  rintro e w2 ⟨rfl, q2⟩
  replace z00 := q2.cell z00
  replace z01 := q2.cell z01
  replace z02 := q2.cell z02
  replace z10 := q2.cell z10
  replace z11 := q2.cell z11
  replace z12 := q2.cell z12
  have yg : ∀ j, w2.frozen? ⟨w.heap.size + 1, j, none⟩ = false := fun j => by rw [q2.2]; exact yf j
  clear hw1 A yf
  go_wp2_with fail
  refine (lay_any b a HS.out.swap 59 #[.pointer (some ⟨w.heap.size, 0, none⟩)] (enters_of Try.func59 (by kernel_rfl) rfl) (fun x y => smp S a y x) w2 ?_).mono ?_
  · intro x y w' hx hy hq
    exact trans1_any HS.out HL.out hx hy (PBox.next ⟨z00, z01, z02⟩ hq) (HU.out.next ((Q1.out.trans q2).trans hq))
  rintro e w3 ⟨g3, rfl, O3⟩
  have q3 := O3.q
  replace z10 := q3.cell z10
  replace z11 := q3.cell z11
  replace z12 := q3.cell z12
  have yh : ∀ j, w3.frozen? ⟨w.heap.size + 1, j, none⟩ = false := fun j => by rw [q3.2]; exact yg j
  have hg : g3 ≠ w.heap.size + 1 := by
    have h1 := O3.new
    have h2 := q2.1.size
    omega
  have HO : Hid (Own w w3 g3 (tab b a (fun x y => smp S a y x))) := O3.base (Q1.out.trans q2)
  clear O3 q3 yg
  go_wp2_with fail
  refine bodyPost_ret (v := .tuple #[.agg #[.int .i64 ((b : Nat) : Int), .int .i64 ((a : Nat) : Int), .slice (some ⟨g3, 0, none⟩) (b * a) (b * a)], .int .i64 0]) (by simp [results, Try.results28, go_sem, z10, z11, z12]) rfl ⟨g3, rfl, ?_⟩
  exact ((HO.out.set (by omega) (fun e => hg e.symm)).set (by omega) (fun e => hg e.symm)).set (by omega) (fun e => hg e.symm)
end Go.Proofs.Ytkgfohodahkmmaa

/- The document's planes: New, Get. -/
import Derived.Test.YtkgfohodahkmmaaPrG
namespace Go.Proofs.Ytkgfohodahkmmaa
open Go.RowKit
set_option linter.unusedVariables false
set_option linter.unusedSimpArgs false

set_option maxHeartbeats 1000000 in
set_option maxRecDepth 100000 in
theorem rnew_bad (W H : Int) (hr : sizeB W H = false) (s : Nat) (w : World) :
    Calls Try.prog 12 #[.int .i64 W, .int .i64 H, .int .u32 (s : Int)] w (Fails w 50) := by
  obtain ⟨w1, hw1⟩ : ∃ w1, w.alloc (.cells #[.int .i64 0, .int .i64 0, .slice none 0 0] 25) = w1 := ⟨_, rfl⟩
  have Q1 : Hid (Q w w1) := by rw [← hw1]; exact ((Q.refl w).cells _ _)
  have S1 : w1.heap.size = w.heap.size + 1 := by rw [← hw1]; simp
  have z00 : w1.cell? ⟨w.heap.size, 0, none⟩ = some (.int .i64 0) := by rw [← hw1]; simp [go_sem]
  have z01 : w1.cell? ⟨w.heap.size, 1, none⟩ = some (.int .i64 0) := by rw [← hw1]; simp [go_sem]
  have z02 : w1.cell? ⟨w.heap.size, 2, none⟩ = some (.slice none 0 0) := by rw [← hw1]; simp [go_sem]
  have yf : ∀ j, w1.frozen? ⟨w.heap.size, j, none⟩ = false := fun j => by rw [← hw1]; simp [go_sem]
  have B := rsize_any W H w1
  rw [hr] at B
  clear hr
  go_enter Try.func12, Try.ntmps12
  go_wp2_with fail
  refine B.mono ?_
  rintro e w3 ⟨rfl, rfl⟩
  clear hw1
  go_wp2_with fail
  refine bodyPost_ret (v := .tuple #[noPl, .int .i64 50]) (by simp [results, Try.results12, go_sem, noPl, z00, z01, z02]) rfl ⟨rfl, ?_⟩
  exact ((Q1.out.put (by omega)).put (by omega)).put (by omega)
set_option maxHeartbeats 4000000 in
set_option maxRecDepth 100000 in
theorem rnew_good {a b : Nat} (hs : Size a b) (s : Nat) (w : World) :
    Calls Try.prog 12 #[.int .i64 (a : Int), .int .i64 (b : Int), .int .u32 (s : Int)] w (Mk w a b (tab a b fun _ _ => s)) := by
  obtain ⟨w1, hw1⟩ : ∃ w1, w.alloc (.cells #[.int .i64 0, .int .i64 0, .slice none 0 0] 25) = w1 := ⟨_, rfl⟩
  have Q1 : Hid (Q w w1) := by rw [← hw1]; exact ((Q.refl w).cells _ _)
  have S1 : w1.heap.size = w.heap.size + 1 := by rw [← hw1]; simp
  have z00 : w1.cell? ⟨w.heap.size, 0, none⟩ = some (.int .i64 0) := by rw [← hw1]; simp [go_sem]
  have z01 : w1.cell? ⟨w.heap.size, 1, none⟩ = some (.int .i64 0) := by rw [← hw1]; simp [go_sem]
  have z02 : w1.cell? ⟨w.heap.size, 2, none⟩ = some (.slice none 0 0) := by rw [← hw1]; simp [go_sem]
  have yf : ∀ j, w1.frozen? ⟨w.heap.size, j, none⟩ = false := fun j => by rw [← hw1]; simp [go_sem]
  have B := rsize_any (a : Int) (b : Int) w1
  rw [sizeB_true.2 hs.b] at B
  have HS : Hid (Size a b) := hs
  have a2 := hs.a2
  have b2 := hs.b2
  clear hs
  go_enter Try.func12, Try.ntmps12
  go_wp2_with fail
  refine B.mono ?_
  rintro e w2 ⟨rfl, hw2⟩
  rw [hw2]
  clear hw2 w2
  clear hw1
  go_wp2_with fail
  refine (blank_any a b HS.out w1).mono ?_
  rintro e w3 ⟨gq, nq, rfl, hnq, FL⟩
  have HNQ : Hid (nq = a * b) := hnq
  have nq2 : nq ≤ 65536 := by rw [hnq]; exact HS.out.ab
  have hcast : (a : Int) * (b : Int) = (nq : Int) := by rw [← Int.natCast_mul, hnq]
  clear hnq
  obtain ⟨w4, hw4⟩ : ∃ w4, w3.alloc (.cells #[.int .i64 (a : Int), .int .i64 (b : Int), .slice (some ⟨gq, 0, none⟩) nq nq] 25) = w4 := ⟨_, rfl⟩
  have q4 : Q w3 w4 := by rw [← hw4]; exact (Q.refl _).cells _ _
  have v0 : w4.cell? ⟨w3.heap.size, 0, none⟩ = some (.int .i64 (a : Int)) := by rw [← hw4]; simp [go_sem]
  have v1 : w4.cell? ⟨w3.heap.size, 1, none⟩ = some (.int .i64 (b : Int)) := by rw [← hw4]; simp [go_sem]
  have v2 : w4.cell? ⟨w3.heap.size, 2, none⟩ = some (.slice (some ⟨gq, 0, none⟩) nq nq) := by rw [← hw4]; simp [go_sem]
  have hgv : gq ≠ w3.heap.size := by
    obtain ⟨u, hu⟩ := FL.out.room 0 (by rw [HNQ.out]; exact HS.out.pos)
    have := World.block_lt_of_cell? _ _ hu
    have : gq < w3.heap.size := this
    omega
  have hg2 : w1.heap.size ≤ gq := FL.out.new
  have F0 : Hid (Fill w1 w4 gq nq (fun _ => s) 0) := by
    obtain ⟨p1, p2, p3, p4, p5⟩ := FL.out.next q4
    exact ⟨p1, p2, fun i hi => absurd hi (Nat.not_lt_zero _), p4, p5⟩
  obtain ⟨V, hV⟩ : ∃ V, w3.heap.size = V := ⟨_, rfl⟩
  rw [hV] at v0 v1 v2 hgv
  clear FL q4
  go_wp2_with fail
  clear hw4
  go_loopg [9] nq (fun m sx wr => ∃ i : Nat, sx = .int .i64 i ∧ i + m = nq ∧ Hid (Fill w1 wr gq nq (fun _ => s) i) ∧ Hid (PBox wr V a b (.slice (some ⟨gq, 0, none⟩) nq nq)))
  case atStart => exact ⟨0, rfl, by omega, F0, ⟨v0, v1, v2⟩⟩
  case round =>
    obtain ⟨i, rfl, hm, FI, BI⟩ := hrel
    obtain ⟨x0, x1, x2⟩ := id BI.out
    clear v0 v1 v2 F0
    by_cases hi : i < nq
    · have hi0 : (0 : Int) ≤ (i : Int) := by omega
      have hi1 : (i : Int) < (nq : Int) := by omega
      obtain ⟨u, hu⟩ := FI.out.room i hi
      have fz := FI.out.free i
      have FN : Hid (Fill w1 (wr.setCell ⟨gq, i, none⟩ (.int .u32 (s : Nat))) gq nq (fun _ => s) (i + 1)) := FI.out.step hi rfl
      have BN : Hid (PBox (wr.setCell ⟨gq, i, none⟩ (.int .u32 (s : Nat))) V a b (.slice (some ⟨gq, 0, none⟩) nq nq)) := by
        obtain ⟨m0, m1, m2⟩ := BI.out
        constructor <;> (rw [World.cell?_setCell_other _ _ _ _ (fun e => hgv (by injection e))]; assumption)
      go_wp2_with fail
      go_roundg (nq - (i + 1))
      case measure => go_light; omega
      case rel => go_light; exact ⟨i + 1, by go_num, by omega, FN, BN⟩
    · have hie : i = nq := by omega
      have FE : Hid (Fill w1 wr gq nq (fun _ => s) nq) := by rw [hie] at FI; exact FI
      have OW : Hid (Own w wr gq (tab a b fun _ _ => s)) := (Fill.own FE.out (by rw [tab_length]; exact HNQ.out.symm) (fun k hk => by rw [HNQ.out] at hk; exact tab_get hk)).base Q1.out
      have f00 := FI.out.q.cell z00
      have f01 := FI.out.q.cell z01
      have f02 := FI.out.q.cell z02
      have ff : ∀ j, wr.frozen? ⟨w.heap.size, j, none⟩ = false := fun j => by rw [FI.out.q.2]; exact yf j
      have hgr : gq ≠ w.heap.size := by omega
      clear FI FE
      go_wp2_with fail
      refine bodyPost_ret (v := .tuple #[.agg #[.int .i64 (a : Int), .int .i64 (b : Int), .slice (some ⟨gq, 0, none⟩) nq nq], .int .i64 0]) (by simp [results, Try.results12, go_sem, f00, f01, f02]) rfl ?_
      have OW2 := ((OW.out.set (c := w.heap.size) (j := 0) (v := .int .i64 (a : Int)) (by omega) (fun e => hgr e.symm)).set (c := w.heap.size) (j := 1) (v := .int .i64 (b : Int)) (by omega) (fun e => hgr e.symm)).set (c := w.heap.size) (j := 2) (v := .slice (some ⟨gq, 0, none⟩) nq nq) (by omega) (fun e => hgr e.symm)
      exact ⟨gq, nq, rfl, OW2.q, OW2.new, OW2.free, ⟨HS.out, tab_length _ _ _, by rw [tab_length]; exact HNQ.out, Nat.le_refl _, OW2.cells⟩⟩
set_option maxHeartbeats 1000000 in
set_option maxRecDepth 100000 in
theorem get_bad (W H : Int) (a : Option Addr) (n c : Nat) (hn : n ≤ 9223372036854775807) {r : Int} (hr : chk W H n = r) (h0 : r ≠ 0) (x y : Int) (w : World) :
    Calls Try.prog 13 #[.agg #[.int .i64 W, .int .i64 H, .slice a n c], .int .i64 x, .int .i64 y] w fun e w' => e = .returned (.tuple #[.int .u32 0, .int .i64 r]) ∧ Q w w' := by
  have hb : (r != 0) = true := by rw [bne_iff_ne]; exact h0
  obtain ⟨w1, hw1⟩ : ∃ w1, w.alloc (.cells #[.int .i64 W, .int .i64 H, .slice a n c] 25) = w1 := ⟨_, rfl⟩
  have Q1 : Hid (Q w w1) := by rw [← hw1]; exact ((Q.refl w).cells _ _)
  have S1 : w1.heap.size = w.heap.size + 1 := by rw [← hw1]; simp
  have z00 : w1.cell? ⟨w.heap.size, 0, none⟩ = some (.int .i64 W) := by rw [← hw1]; simp [go_sem]
  have z01 : w1.cell? ⟨w.heap.size, 1, none⟩ = some (.int .i64 H) := by rw [← hw1]; simp [go_sem]
  have z02 : w1.cell? ⟨w.heap.size, 2, none⟩ = some (.slice a n c) := by rw [← hw1]; simp [go_sem]
  have A := check_any W H a n c hn w1
  rw [hr] at A
  clear hr hn
  go_enter Try.func13, Try.ntmps13
  go_wp2_with fail
  clear hw1
  refine A.mono ?_
  rintro e w2 ⟨rfl, q2⟩
  go_wp2_with fail
  go_ret2
  exact ⟨rfl, Q1.out.trans q2⟩
set_option maxHeartbeats 1000000 in
set_option maxRecDepth 100000 in
theorem get_o1 {a b : Nat} (hs : Size a b) {S : List Nat} (hl : S.length = a * b) (g o cap : Nat) (X Y : Int) (h1 : X < 0) (w : World) :
    Calls Try.prog 13 #[.agg #[.int .i64 (a : Int), .int .i64 (b : Int), .slice (some ⟨g, o, none⟩) S.length cap], .int .i64 X, .int .i64 Y] w fun e w' => e = .returned (.tuple #[.int .u32 0, .int .i64 52]) ∧ Q w w' := by
  have hb : ((0 : Int) != 0) = false := by decide
  have hn : S.length ≤ 65536 := by rw [hl]; exact hs.ab
  obtain ⟨w1, hw1⟩ : ∃ w1, w.alloc (.cells #[.int .i64 (a : Int), .int .i64 (b : Int), .slice (some ⟨g, o, none⟩) S.length cap] 25) = w1 := ⟨_, rfl⟩
  have Q1 : Hid (Q w w1) := by rw [← hw1]; exact ((Q.refl w).cells _ _)
  have S1 : w1.heap.size = w.heap.size + 1 := by rw [← hw1]; simp
  have z00 : w1.cell? ⟨w.heap.size, 0, none⟩ = some (.int .i64 (a : Int)) := by rw [← hw1]; simp [go_sem]
  have z01 : w1.cell? ⟨w.heap.size, 1, none⟩ = some (.int .i64 (b : Int)) := by rw [← hw1]; simp [go_sem]
  have z02 : w1.cell? ⟨w.heap.size, 2, none⟩ = some (.slice (some ⟨g, o, none⟩) S.length cap) := by rw [← hw1]; simp [go_sem]
  have A := check_any (a : Int) (b : Int) (some ⟨g, o, none⟩) S.length cap (by omega) w1
  rw [show chk (a : Int) (b : Int) S.length = 0 by rw [hl]; exact chk_size hs] at A
  clear hs hl hn
  go_enter Try.func13, Try.ntmps13
  go_wp2_with fail
  clear hw1
  refine A.mono ?_
  rintro e w2 ⟨rfl, q2⟩
  replace z00 := q2.cell z00
  replace z01 := q2.cell z01
  replace z02 := q2.cell z02
  go_wp2_with fail
  go_ret2
  exact ⟨rfl, Q1.out.trans q2⟩
set_option maxHeartbeats 1000000 in
set_option maxRecDepth 100000 in
theorem get_o2 {a b : Nat} (hs : Size a b) {S : List Nat} (hl : S.length = a * b) (g o cap : Nat) (X Y : Int) (h1 : ¬ X < 0) (h2 : (a : Int) ≤ X) (w : World) :
    Calls Try.prog 13 #[.agg #[.int .i64 (a : Int), .int .i64 (b : Int), .slice (some ⟨g, o, none⟩) S.length cap], .int .i64 X, .int .i64 Y] w fun e w' => e = .returned (.tuple #[.int .u32 0, .int .i64 52]) ∧ Q w w' := by
  have hb : ((0 : Int) != 0) = false := by decide
  have hn : S.length ≤ 65536 := by rw [hl]; exact hs.ab
  obtain ⟨w1, hw1⟩ : ∃ w1, w.alloc (.cells #[.int .i64 (a : Int), .int .i64 (b : Int), .slice (some ⟨g, o, none⟩) S.length cap] 25) = w1 := ⟨_, rfl⟩
  have Q1 : Hid (Q w w1) := by rw [← hw1]; exact ((Q.refl w).cells _ _)
  have S1 : w1.heap.size = w.heap.size + 1 := by rw [← hw1]; simp
  have z00 : w1.cell? ⟨w.heap.size, 0, none⟩ = some (.int .i64 (a : Int)) := by rw [← hw1]; simp [go_sem]
  have z01 : w1.cell? ⟨w.heap.size, 1, none⟩ = some (.int .i64 (b : Int)) := by rw [← hw1]; simp [go_sem]
  have z02 : w1.cell? ⟨w.heap.size, 2, none⟩ = some (.slice (some ⟨g, o, none⟩) S.length cap) := by rw [← hw1]; simp [go_sem]
  have A := check_any (a : Int) (b : Int) (some ⟨g, o, none⟩) S.length cap (by omega) w1
  rw [show chk (a : Int) (b : Int) S.length = 0 by rw [hl]; exact chk_size hs] at A
  clear hs hl hn
  go_enter Try.func13, Try.ntmps13
  go_wp2_with fail
  clear hw1
  refine A.mono ?_
  rintro e w2 ⟨rfl, q2⟩
  replace z00 := q2.cell z00
  replace z01 := q2.cell z01
  replace z02 := q2.cell z02
  go_wp2_with fail
  go_ret2
  exact ⟨rfl, Q1.out.trans q2⟩
set_option maxHeartbeats 1000000 in
set_option maxRecDepth 100000 in
theorem get_o3 {a b : Nat} (hs : Size a b) {S : List Nat} (hl : S.length = a * b) (g o cap : Nat) (X Y : Int) (h1 : ¬ X < 0) (h2 : ¬ (a : Int) ≤ X) (h3 : Y < 0) (w : World) :
    Calls Try.prog 13 #[.agg #[.int .i64 (a : Int), .int .i64 (b : Int), .slice (some ⟨g, o, none⟩) S.length cap], .int .i64 X, .int .i64 Y] w fun e w' => e = .returned (.tuple #[.int .u32 0, .int .i64 52]) ∧ Q w w' := by
  have hb : ((0 : Int) != 0) = false := by decide
  have hn : S.length ≤ 65536 := by rw [hl]; exact hs.ab
  obtain ⟨w1, hw1⟩ : ∃ w1, w.alloc (.cells #[.int .i64 (a : Int), .int .i64 (b : Int), .slice (some ⟨g, o, none⟩) S.length cap] 25) = w1 := ⟨_, rfl⟩
  have Q1 : Hid (Q w w1) := by rw [← hw1]; exact ((Q.refl w).cells _ _)
  have S1 : w1.heap.size = w.heap.size + 1 := by rw [← hw1]; simp
  have z00 : w1.cell? ⟨w.heap.size, 0, none⟩ = some (.int .i64 (a : Int)) := by rw [← hw1]; simp [go_sem]
  have z01 : w1.cell? ⟨w.heap.size, 1, none⟩ = some (.int .i64 (b : Int)) := by rw [← hw1]; simp [go_sem]
  have z02 : w1.cell? ⟨w.heap.size, 2, none⟩ = some (.slice (some ⟨g, o, none⟩) S.length cap) := by rw [← hw1]; simp [go_sem]
  have A := check_any (a : Int) (b : Int) (some ⟨g, o, none⟩) S.length cap (by omega) w1
  rw [show chk (a : Int) (b : Int) S.length = 0 by rw [hl]; exact chk_size hs] at A
  clear hs hl hn
  go_enter Try.func13, Try.ntmps13
  go_wp2_with fail
  clear hw1
  refine A.mono ?_
  rintro e w2 ⟨rfl, q2⟩
  replace z00 := q2.cell z00
  replace z01 := q2.cell z01
  replace z02 := q2.cell z02
  go_wp2_with fail
  go_ret2
  exact ⟨rfl, Q1.out.trans q2⟩
set_option maxHeartbeats 1000000 in
set_option maxRecDepth 100000 in
theorem get_o4 {a b : Nat} (hs : Size a b) {S : List Nat} (hl : S.length = a * b) (g o cap : Nat) (X Y : Int) (h1 : ¬ X < 0) (h2 : ¬ (a : Int) ≤ X) (h3 : ¬ Y < 0) (h4 : (b : Int) ≤ Y) (w : World) :
    Calls Try.prog 13 #[.agg #[.int .i64 (a : Int), .int .i64 (b : Int), .slice (some ⟨g, o, none⟩) S.length cap], .int .i64 X, .int .i64 Y] w fun e w' => e = .returned (.tuple #[.int .u32 0, .int .i64 52]) ∧ Q w w' := by
  have hb : ((0 : Int) != 0) = false := by decide
  have hn : S.length ≤ 65536 := by rw [hl]; exact hs.ab
  obtain ⟨w1, hw1⟩ : ∃ w1, w.alloc (.cells #[.int .i64 (a : Int), .int .i64 (b : Int), .slice (some ⟨g, o, none⟩) S.length cap] 25) = w1 := ⟨_, rfl⟩
  have Q1 : Hid (Q w w1) := by rw [← hw1]; exact ((Q.refl w).cells _ _)
  have S1 : w1.heap.size = w.heap.size + 1 := by rw [← hw1]; simp
  have z00 : w1.cell? ⟨w.heap.size, 0, none⟩ = some (.int .i64 (a : Int)) := by rw [← hw1]; simp [go_sem]
  have z01 : w1.cell? ⟨w.heap.size, 1, none⟩ = some (.int .i64 (b : Int)) := by rw [← hw1]; simp [go_sem]
  have z02 : w1.cell? ⟨w.heap.size, 2, none⟩ = some (.slice (some ⟨g, o, none⟩) S.length cap) := by rw [← hw1]; simp [go_sem]
  have A := check_any (a : Int) (b : Int) (some ⟨g, o, none⟩) S.length cap (by omega) w1
  rw [show chk (a : Int) (b : Int) S.length = 0 by rw [hl]; exact chk_size hs] at A
  clear hs hl hn
  go_enter Try.func13, Try.ntmps13
  go_wp2_with fail
  clear hw1
  refine A.mono ?_
  rintro e w2 ⟨rfl, q2⟩
  replace z00 := q2.cell z00
  replace z01 := q2.cell z01
  replace z02 := q2.cell z02
  go_wp2_with fail
  go_ret2
  exact ⟨rfl, Q1.out.trans q2⟩
set_option maxHeartbeats 1000000 in
set_option maxRecDepth 100000 in
theorem get_in {a b : Nat} (hs : Size a b) {S : List Nat} (hl : S.length = a * b) (g o cap : Nat) (X Y : Int) (x y : Nat) (hX : X = x) (hY : Y = y) (hx : x < a) (hy : y < b) (w : World) (hu : UIs w g o S) :
    Calls Try.prog 13 #[.agg #[.int .i64 (a : Int), .int .i64 (b : Int), .slice (some ⟨g, o, none⟩) S.length cap], .int .i64 X, .int .i64 Y] w fun e w' => e = .returned (.tuple #[.int .u32 (smp S a x y : Nat), .int .i64 0]) ∧ Q w w' := by
  have hb : ((0 : Int) != 0) = false := by decide
  have hn : S.length ≤ 65536 := by rw [hl]; exact hs.ab
  obtain ⟨w1, hw1⟩ : ∃ w1, w.alloc (.cells #[.int .i64 (a : Int), .int .i64 (b : Int), .slice (some ⟨g, o, none⟩) S.length cap] 25) = w1 := ⟨_, rfl⟩
  have Q1 : Hid (Q w w1) := by rw [← hw1]; exact ((Q.refl w).cells _ _)
  have S1 : w1.heap.size = w.heap.size + 1 := by rw [← hw1]; simp
  have z00 : w1.cell? ⟨w.heap.size, 0, none⟩ = some (.int .i64 (a : Int)) := by rw [← hw1]; simp [go_sem]
  have z01 : w1.cell? ⟨w.heap.size, 1, none⟩ = some (.int .i64 (b : Int)) := by rw [← hw1]; simp [go_sem]
  have z02 : w1.cell? ⟨w.heap.size, 2, none⟩ = some (.slice (some ⟨g, o, none⟩) S.length cap) := by rw [← hw1]; simp [go_sem]
  have A := check_any (a : Int) (b : Int) (some ⟨g, o, none⟩) S.length cap (by omega) w1
  rw [show chk (a : Int) (b : Int) S.length = 0 by rw [hl]; exact chk_size hs] at A
  have HS : Hid (Size a b) := hs
  have HL : Hid (S.length = a * b) := hl
  have HU : Hid (UIs w g o S) := hu
  have h1 : ¬ X < 0 := by omega
  have h2 : ¬ (a : Int) ≤ X := by omega
  have h3 : ¬ Y < 0 := by omega
  have h4 : ¬ (b : Int) ≤ Y := by omega
  have HX : Hid (X = x ∧ Y = y) := ⟨hX, hY⟩
  clear hX hY hu
  clear hs hl hn
  go_enter Try.func13, Try.ntmps13
  go_wp2_with fail
  clear hw1
  refine A.mono ?_
  rintro e w2 ⟨rfl, q2⟩
  replace z00 := q2.cell z00
  replace z01 := q2.cell z01
  replace z02 := q2.cell z02
  go_wp2_with fail
  refine (sample_any HS.out HL.out _ _ HX.out.1 HX.out.2 hx hy (HU.out.next (Q1.out.trans q2))).mono ?_
  rintro e w3 ⟨rfl, q3⟩
  go_wp2_with fail
  go_ret2
  exact ⟨rfl, (Q1.out.trans q2).trans q3⟩
theorem get_out {a b : Nat} (hs : Size a b) {S : List Nat} (hl : S.length = a * b) (g o cap : Nat) (X Y : Int) (h : X < 0 ∨ (a : Int) ≤ X ∨ Y < 0 ∨ (b : Int) ≤ Y) (w : World) :
    Calls Try.prog 13 #[.agg #[.int .i64 (a : Int), .int .i64 (b : Int), .slice (some ⟨g, o, none⟩) S.length cap], .int .i64 X, .int .i64 Y] w fun e w' => e = .returned (.tuple #[.int .u32 0, .int .i64 52]) ∧ Q w w' := by
  by_cases h1 : X < 0
  · exact get_o1 hs hl g o cap X Y h1 w
  · by_cases h2 : (a : Int) ≤ X
    · exact get_o2 hs hl g o cap X Y h1 h2 w
    · by_cases h3 : Y < 0
      · exact get_o3 hs hl g o cap X Y h1 h2 h3 w
      · exact get_o4 hs hl g o cap X Y h1 h2 h3 (by omega) w
set_option maxHeartbeats 1000000 in
set_option maxRecDepth 100000 in
theorem rget_bad (W H : Int) (a : Option Addr) (n c : Nat) (hn : n ≤ 9223372036854775807) {r : Int} (hr : chk W H n = r) (h0 : r ≠ 0) (x y : Int) (w : World) :
    Calls Try.prog 14 #[.agg #[.int .i64 W, .int .i64 H, .slice a n c], .int .i64 x, .int .i64 y] w fun e w' => e = .returned (.tuple #[.int .u32 0, .int .i64 r]) ∧ Q w w' := by
  have hb : (r != 0) = true := by rw [bne_iff_ne]; exact h0
  obtain ⟨w1, hw1⟩ : ∃ w1, w.alloc (.cells #[.int .i64 W, .int .i64 H, .slice a n c] 25) = w1 := ⟨_, rfl⟩
  have Q1 : Hid (Q w w1) := by rw [← hw1]; exact ((Q.refl w).cells _ _)
  have S1 : w1.heap.size = w.heap.size + 1 := by rw [← hw1]; simp
  have z00 : w1.cell? ⟨w.heap.size, 0, none⟩ = some (.int .i64 W) := by rw [← hw1]; simp [go_sem]
  have z01 : w1.cell? ⟨w.heap.size, 1, none⟩ = some (.int .i64 H) := by rw [← hw1]; simp [go_sem]
  have z02 : w1.cell? ⟨w.heap.size, 2, none⟩ = some (.slice a n c) := by rw [← hw1]; simp [go_sem]
  have A := rcheck_any W H a n c hn w1
  rw [hr] at A
  clear hr hn
  go_enter Try.func14, Try.ntmps14
  go_wp2_with fail
  clear hw1
  refine A.mono ?_
  rintro e w2 ⟨rfl, q2⟩
  go_wp2_with fail
  go_ret2
  exact ⟨rfl, Q1.out.trans q2⟩
set_option maxHeartbeats 1000000 in
set_option maxRecDepth 100000 in
theorem rget_o1 {a b : Nat} (hs : Size a b) {S : List Nat} (hl : S.length = a * b) (g o cap : Nat) (X Y : Int) (h1 : X < 0) (w : World) :
    Calls Try.prog 14 #[.agg #[.int .i64 (a : Int), .int .i64 (b : Int), .slice (some ⟨g, o, none⟩) S.length cap], .int .i64 X, .int .i64 Y] w fun e w' => e = .returned (.tuple #[.int .u32 0, .int .i64 52]) ∧ Q w w' := by
  have hb : ((0 : Int) != 0) = false := by decide
  have hn : S.length ≤ 65536 := by rw [hl]; exact hs.ab
  obtain ⟨w1, hw1⟩ : ∃ w1, w.alloc (.cells #[.int .i64 (a : Int), .int .i64 (b : Int), .slice (some ⟨g, o, none⟩) S.length cap] 25) = w1 := ⟨_, rfl⟩
  have Q1 : Hid (Q w w1) := by rw [← hw1]; exact ((Q.refl w).cells _ _)
  have S1 : w1.heap.size = w.heap.size + 1 := by rw [← hw1]; simp
  have z00 : w1.cell? ⟨w.heap.size, 0, none⟩ = some (.int .i64 (a : Int)) := by rw [← hw1]; simp [go_sem]
  have z01 : w1.cell? ⟨w.heap.size, 1, none⟩ = some (.int .i64 (b : Int)) := by rw [← hw1]; simp [go_sem]
  have z02 : w1.cell? ⟨w.heap.size, 2, none⟩ = some (.slice (some ⟨g, o, none⟩) S.length cap) := by rw [← hw1]; simp [go_sem]
  have A := rcheck_any (a : Int) (b : Int) (some ⟨g, o, none⟩) S.length cap (by omega) w1
  rw [show chk (a : Int) (b : Int) S.length = 0 by rw [hl]; exact chk_size hs] at A
  clear hs hl hn
  go_enter Try.func14, Try.ntmps14
  go_wp2_with fail
  clear hw1
  refine A.mono ?_
  rintro e w2 ⟨rfl, q2⟩
  replace z00 := q2.cell z00
  replace z01 := q2.cell z01
  replace z02 := q2.cell z02
  go_wp2_with fail
  go_ret2
  exact ⟨rfl, Q1.out.trans q2⟩
set_option maxHeartbeats 1000000 in
set_option maxRecDepth 100000 in
theorem rget_o2 {a b : Nat} (hs : Size a b) {S : List Nat} (hl : S.length = a * b) (g o cap : Nat) (X Y : Int) (h1 : ¬ X < 0) (h2 : (a : Int) ≤ X) (w : World) :
    Calls Try.prog 14 #[.agg #[.int .i64 (a : Int), .int .i64 (b : Int), .slice (some ⟨g, o, none⟩) S.length cap], .int .i64 X, .int .i64 Y] w fun e w' => e = .returned (.tuple #[.int .u32 0, .int .i64 52]) ∧ Q w w' := by
  have hb : ((0 : Int) != 0) = false := by decide
  have hn : S.length ≤ 65536 := by rw [hl]; exact hs.ab
  obtain ⟨w1, hw1⟩ : ∃ w1, w.alloc (.cells #[.int .i64 (a : Int), .int .i64 (b : Int), .slice (some ⟨g, o, none⟩) S.length cap] 25) = w1 := ⟨_, rfl⟩
  have Q1 : Hid (Q w w1) := by rw [← hw1]; exact ((Q.refl w).cells _ _)
  have S1 : w1.heap.size = w.heap.size + 1 := by rw [← hw1]; simp
  have z00 : w1.cell? ⟨w.heap.size, 0, none⟩ = some (.int .i64 (a : Int)) := by rw [← hw1]; simp [go_sem]
  have z01 : w1.cell? ⟨w.heap.size, 1, none⟩ = some (.int .i64 (b : Int)) := by rw [← hw1]; simp [go_sem]
  have z02 : w1.cell? ⟨w.heap.size, 2, none⟩ = some (.slice (some ⟨g, o, none⟩) S.length cap) := by rw [← hw1]; simp [go_sem]
  have A := rcheck_any (a : Int) (b : Int) (some ⟨g, o, none⟩) S.length cap (by omega) w1
  rw [show chk (a : Int) (b : Int) S.length = 0 by rw [hl]; exact chk_size hs] at A
  clear hs hl hn
  go_enter Try.func14, Try.ntmps14
  go_wp2_with fail
  clear hw1
  refine A.mono ?_
  rintro e w2 ⟨rfl, q2⟩
  replace z00 := q2.cell z00
  replace z01 := q2.cell z01
  replace z02 := q2.cell z02
  go_wp2_with fail
  go_ret2
  exact ⟨rfl, Q1.out.trans q2⟩
set_option maxHeartbeats 1000000 in
set_option maxRecDepth 100000 in
theorem rget_o3 {a b : Nat} (hs : Size a b) {S : List Nat} (hl : S.length = a * b) (g o cap : Nat) (X Y : Int) (h1 : ¬ X < 0) (h2 : ¬ (a : Int) ≤ X) (h3 : Y < 0) (w : World) :
    Calls Try.prog 14 #[.agg #[.int .i64 (a : Int), .int .i64 (b : Int), .slice (some ⟨g, o, none⟩) S.length cap], .int .i64 X, .int .i64 Y] w fun e w' => e = .returned (.tuple #[.int .u32 0, .int .i64 52]) ∧ Q w w' := by
  have hb : ((0 : Int) != 0) = false := by decide
  have hn : S.length ≤ 65536 := by rw [hl]; exact hs.ab
  obtain ⟨w1, hw1⟩ : ∃ w1, w.alloc (.cells #[.int .i64 (a : Int), .int .i64 (b : Int), .slice (some ⟨g, o, none⟩) S.length cap] 25) = w1 := ⟨_, rfl⟩
  have Q1 : Hid (Q w w1) := by rw [← hw1]; exact ((Q.refl w).cells _ _)
  have S1 : w1.heap.size = w.heap.size + 1 := by rw [← hw1]; simp
  have z00 : w1.cell? ⟨w.heap.size, 0, none⟩ = some (.int .i64 (a : Int)) := by rw [← hw1]; simp [go_sem]
  have z01 : w1.cell? ⟨w.heap.size, 1, none⟩ = some (.int .i64 (b : Int)) := by rw [← hw1]; simp [go_sem]
  have z02 : w1.cell? ⟨w.heap.size, 2, none⟩ = some (.slice (some ⟨g, o, none⟩) S.length cap) := by rw [← hw1]; simp [go_sem]
  have A := rcheck_any (a : Int) (b : Int) (some ⟨g, o, none⟩) S.length cap (by omega) w1
  rw [show chk (a : Int) (b : Int) S.length = 0 by rw [hl]; exact chk_size hs] at A
  clear hs hl hn
  go_enter Try.func14, Try.ntmps14
  go_wp2_with fail
  clear hw1
  refine A.mono ?_
  rintro e w2 ⟨rfl, q2⟩
  replace z00 := q2.cell z00
  replace z01 := q2.cell z01
  replace z02 := q2.cell z02
  go_wp2_with fail
  go_ret2
  exact ⟨rfl, Q1.out.trans q2⟩
set_option maxHeartbeats 1000000 in
set_option maxRecDepth 100000 in
theorem rget_o4 {a b : Nat} (hs : Size a b) {S : List Nat} (hl : S.length = a * b) (g o cap : Nat) (X Y : Int) (h1 : ¬ X < 0) (h2 : ¬ (a : Int) ≤ X) (h3 : ¬ Y < 0) (h4 : (b : Int) ≤ Y) (w : World) :
    Calls Try.prog 14 #[.agg #[.int .i64 (a : Int), .int .i64 (b : Int), .slice (some ⟨g, o, none⟩) S.length cap], .int .i64 X, .int .i64 Y] w fun e w' => e = .returned (.tuple #[.int .u32 0, .int .i64 52]) ∧ Q w w' := by
  have hb : ((0 : Int) != 0) = false := by decide
  have hn : S.length ≤ 65536 := by rw [hl]; exact hs.ab
  obtain ⟨w1, hw1⟩ : ∃ w1, w.alloc (.cells #[.int .i64 (a : Int), .int .i64 (b : Int), .slice (some ⟨g, o, none⟩) S.length cap] 25) = w1 := ⟨_, rfl⟩
  have Q1 : Hid (Q w w1) := by rw [← hw1]; exact ((Q.refl w).cells _ _)
  have S1 : w1.heap.size = w.heap.size + 1 := by rw [← hw1]; simp
  have z00 : w1.cell? ⟨w.heap.size, 0, none⟩ = some (.int .i64 (a : Int)) := by rw [← hw1]; simp [go_sem]
  have z01 : w1.cell? ⟨w.heap.size, 1, none⟩ = some (.int .i64 (b : Int)) := by rw [← hw1]; simp [go_sem]
  have z02 : w1.cell? ⟨w.heap.size, 2, none⟩ = some (.slice (some ⟨g, o, none⟩) S.length cap) := by rw [← hw1]; simp [go_sem]
  have A := rcheck_any (a : Int) (b : Int) (some ⟨g, o, none⟩) S.length cap (by omega) w1
  rw [show chk (a : Int) (b : Int) S.length = 0 by rw [hl]; exact chk_size hs] at A
  clear hs hl hn
  go_enter Try.func14, Try.ntmps14
  go_wp2_with fail
  clear hw1
  refine A.mono ?_
  rintro e w2 ⟨rfl, q2⟩
  replace z00 := q2.cell z00
  replace z01 := q2.cell z01
  replace z02 := q2.cell z02
  go_wp2_with fail
  go_ret2
  exact ⟨rfl, Q1.out.trans q2⟩
set_option maxHeartbeats 1000000 in
set_option maxRecDepth 100000 in
theorem rget_in {a b : Nat} (hs : Size a b) {S : List Nat} (hl : S.length = a * b) (g o cap : Nat) (X Y : Int) (x y : Nat) (hX : X = x) (hY : Y = y) (hx : x < a) (hy : y < b) (w : World) (hu : UIs w g o S) :
    Calls Try.prog 14 #[.agg #[.int .i64 (a : Int), .int .i64 (b : Int), .slice (some ⟨g, o, none⟩) S.length cap], .int .i64 X, .int .i64 Y] w fun e w' => e = .returned (.tuple #[.int .u32 (smp S a x y : Nat), .int .i64 0]) ∧ Q w w' := by
  have hb : ((0 : Int) != 0) = false := by decide
  have hn : S.length ≤ 65536 := by rw [hl]; exact hs.ab
  obtain ⟨w1, hw1⟩ : ∃ w1, w.alloc (.cells #[.int .i64 (a : Int), .int .i64 (b : Int), .slice (some ⟨g, o, none⟩) S.length cap] 25) = w1 := ⟨_, rfl⟩
  have Q1 : Hid (Q w w1) := by rw [← hw1]; exact ((Q.refl w).cells _ _)
  have S1 : w1.heap.size = w.heap.size + 1 := by rw [← hw1]; simp
  have z00 : w1.cell? ⟨w.heap.size, 0, none⟩ = some (.int .i64 (a : Int)) := by rw [← hw1]; simp [go_sem]
  have z01 : w1.cell? ⟨w.heap.size, 1, none⟩ = some (.int .i64 (b : Int)) := by rw [← hw1]; simp [go_sem]
  have z02 : w1.cell? ⟨w.heap.size, 2, none⟩ = some (.slice (some ⟨g, o, none⟩) S.length cap) := by rw [← hw1]; simp [go_sem]
  have A := rcheck_any (a : Int) (b : Int) (some ⟨g, o, none⟩) S.length cap (by omega) w1
  rw [show chk (a : Int) (b : Int) S.length = 0 by rw [hl]; exact chk_size hs] at A
  have HS : Hid (Size a b) := hs
  have HL : Hid (S.length = a * b) := hl
  have HU : Hid (UIs w g o S) := hu
  have h1 : ¬ X < 0 := by omega
  have h2 : ¬ (a : Int) ≤ X := by omega
  have h3 : ¬ Y < 0 := by omega
  have h4 : ¬ (b : Int) ≤ Y := by omega
  have HX : Hid (X = x ∧ Y = y) := ⟨hX, hY⟩
  clear hX hY hu
  clear hs hl hn
  go_enter Try.func14, Try.ntmps14
  go_wp2_with fail
  clear hw1
  refine A.mono ?_
  rintro e w2 ⟨rfl, q2⟩
  replace z00 := q2.cell z00
  replace z01 := q2.cell z01
  replace z02 := q2.cell z02
  go_wp2_with fail
  refine (rat_any HS.out HL.out _ _ HX.out.1 HX.out.2 hx hy (HU.out.next (Q1.out.trans q2))).mono ?_
  rintro e w3 ⟨rfl, q3⟩
  go_wp2_with fail
  go_ret2
  exact ⟨rfl, (Q1.out.trans q2).trans q3⟩
theorem rget_out {a b : Nat} (hs : Size a b) {S : List Nat} (hl : S.length = a * b) (g o cap : Nat) (X Y : Int) (h : X < 0 ∨ (a : Int) ≤ X ∨ Y < 0 ∨ (b : Int) ≤ Y) (w : World) :
    Calls Try.prog 14 #[.agg #[.int .i64 (a : Int), .int .i64 (b : Int), .slice (some ⟨g, o, none⟩) S.length cap], .int .i64 X, .int .i64 Y] w fun e w' => e = .returned (.tuple #[.int .u32 0, .int .i64 52]) ∧ Q w w' := by
  by_cases h1 : X < 0
  · exact rget_o1 hs hl g o cap X Y h1 w
  · by_cases h2 : (a : Int) ≤ X
    · exact rget_o2 hs hl g o cap X Y h1 h2 w
    · by_cases h3 : Y < 0
      · exact rget_o3 hs hl g o cap X Y h1 h2 h3 w
      · exact rget_o4 hs hl g o cap X Y h1 h2 h3 (by omega) w
end Go.Proofs.Ytkgfohodahkmmaa

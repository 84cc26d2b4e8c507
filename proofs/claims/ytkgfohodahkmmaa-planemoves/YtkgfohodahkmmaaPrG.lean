/- The document's planes: what Extend refuses. -/
import Derived.Test.YtkgfohodahkmmaaPrF
namespace Go.Proofs.Ytkgfohodahkmmaa
open Go.RowKit
set_option linter.unusedVariables false
set_option linter.unusedSimpArgs false

set_option maxHeartbeats 2000000 in
set_option maxRecDepth 100000 in
theorem rext_kind {a b : Nat} (hs : Size a b) {S : List Nat} (hl : S.length = a * b) (g o cap : Nat) (k l t r1 bo : Int) (hk : ¬ (k = 1 ∨ k = 2 ∨ k = 3)) (w : World) :
    Calls Try.prog 34 #[.agg #[.int .i64 (a : Int), .int .i64 (b : Int), .slice (some ⟨g, o, none⟩) S.length cap], .int .i64 k, .int .i64 l, .int .i64 t, .int .i64 r1, .int .i64 bo] w (Fails w 53) := by
  have hb : ((0 : Int) != 0) = false := by decide
  have hb53 : ((53 : Int) != 0) = true := by decide
  have hn : S.length ≤ 65536 := by rw [hl]; exact hs.ab
  have a2 := hs.a2
  have b2 := hs.b2
  obtain ⟨w1, hw1⟩ : ∃ w1, (w.alloc (.cells #[.int .i64 (a : Int), .int .i64 (b : Int), .slice (some ⟨g, o, none⟩) S.length cap] 25)).alloc (.cells #[.int .i64 0, .int .i64 0, .slice none 0 0] 25) = w1 := ⟨_, rfl⟩
  have Q1 : Hid (Q w w1) := by rw [← hw1]; exact (((Q.refl w).cells _ _).cells _ _)
  have S1 : w1.heap.size = w.heap.size + 1 + 1 := by rw [← hw1]; simp
  have z00 : w1.cell? ⟨w.heap.size, 0, none⟩ = some (.int .i64 (a : Int)) := by rw [← hw1]; simp [go_sem]
  have z01 : w1.cell? ⟨w.heap.size, 1, none⟩ = some (.int .i64 (b : Int)) := by rw [← hw1]; simp [go_sem]
  have z02 : w1.cell? ⟨w.heap.size, 2, none⟩ = some (.slice (some ⟨g, o, none⟩) S.length cap) := by rw [← hw1]; simp [go_sem]
  have z10 : w1.cell? ⟨w.heap.size + 1, 0, none⟩ = some (.int .i64 0) := by rw [← hw1]; simp [go_sem]
  have z11 : w1.cell? ⟨w.heap.size + 1, 1, none⟩ = some (.int .i64 0) := by rw [← hw1]; simp [go_sem]
  have z12 : w1.cell? ⟨w.heap.size + 1, 2, none⟩ = some (.slice none 0 0) := by rw [← hw1]; simp [go_sem]
  have yf : ∀ j, w1.frozen? ⟨w.heap.size + 1, j, none⟩ = false := fun j => by rw [← hw1]; simp [go_sem]
  have CK := rcheck_any (a : Int) (b : Int) (some ⟨g, o, none⟩) S.length cap (by omega) w1
  rw [show chk (a : Int) (b : Int) S.length = 0 by rw [hl]; exact chk_size hs] at CK
  have BO : ∀ w : World, Calls Try.prog 33 #[.int .i64 k, .int .i64 1, .int .i64 0] w fun e w' => e = .returned (.tuple #[.int .i64 0, .int .i64 53]) ∧ w' = w := fun w => by
    have := rborder_any k 1 0 w
    unfold borA borE at this
    rw [if_neg hk, if_neg hk] at this
    exact this
  clear hk
  clear hs hl
  go_enter Try.func34, Try.ntmps34
  go_wp2_with fail
  clear hw1
  refine CK.mono ?_
  rintro e w2 ⟨rfl, q2⟩
  replace z00 := q2.cell z00
  replace z01 := q2.cell z01
  replace z02 := q2.cell z02
  replace z10 := q2.cell z10
  replace z11 := q2.cell z11
  replace z12 := q2.cell z12
  replace yf : ∀ j, w2.frozen? ⟨w.heap.size + 1, j, none⟩ = false := fun j => by rw [q2.2]; exact yf j
  have QT : Hid (Q w w2) := Q1.out.trans q2
  clear CK q2 Q1 S1
  go_wp2_with fail
  refine (BO _).mono ?_
  rintro e wz ⟨rfl, hz⟩
  rw [hz]
  clear hz wz
  go_wp2_with fail
  refine bodyPost_ret (v := .tuple #[noPl, .int .i64 53]) (by simp [results, Try.results34, go_sem, noPl, z10, z11, z12]) rfl ⟨rfl, ?_⟩
  exact ((QT.out.put (by omega)).put (by omega)).put (by omega)
set_option maxHeartbeats 2000000 in
set_option maxRecDepth 100000 in
theorem rext_neg0 {a b : Nat} (hs : Size a b) {S : List Nat} (hl : S.length = a * b) (g o cap : Nat) (k l t r1 bo : Int) (hk : k = 1 ∨ k = 2 ∨ k = 3)  (h0 : l < 0) (w : World) :
    Calls Try.prog 34 #[.agg #[.int .i64 (a : Int), .int .i64 (b : Int), .slice (some ⟨g, o, none⟩) S.length cap], .int .i64 k, .int .i64 l, .int .i64 t, .int .i64 r1, .int .i64 bo] w (Fails w 52) := by
  have hb : ((0 : Int) != 0) = false := by decide
  have hb53 : ((53 : Int) != 0) = true := by decide
  have hn : S.length ≤ 65536 := by rw [hl]; exact hs.ab
  have a2 := hs.a2
  have b2 := hs.b2
  obtain ⟨w1, hw1⟩ : ∃ w1, (w.alloc (.cells #[.int .i64 (a : Int), .int .i64 (b : Int), .slice (some ⟨g, o, none⟩) S.length cap] 25)).alloc (.cells #[.int .i64 0, .int .i64 0, .slice none 0 0] 25) = w1 := ⟨_, rfl⟩
  have Q1 : Hid (Q w w1) := by rw [← hw1]; exact (((Q.refl w).cells _ _).cells _ _)
  have S1 : w1.heap.size = w.heap.size + 1 + 1 := by rw [← hw1]; simp
  have z00 : w1.cell? ⟨w.heap.size, 0, none⟩ = some (.int .i64 (a : Int)) := by rw [← hw1]; simp [go_sem]
  have z01 : w1.cell? ⟨w.heap.size, 1, none⟩ = some (.int .i64 (b : Int)) := by rw [← hw1]; simp [go_sem]
  have z02 : w1.cell? ⟨w.heap.size, 2, none⟩ = some (.slice (some ⟨g, o, none⟩) S.length cap) := by rw [← hw1]; simp [go_sem]
  have z10 : w1.cell? ⟨w.heap.size + 1, 0, none⟩ = some (.int .i64 0) := by rw [← hw1]; simp [go_sem]
  have z11 : w1.cell? ⟨w.heap.size + 1, 1, none⟩ = some (.int .i64 0) := by rw [← hw1]; simp [go_sem]
  have z12 : w1.cell? ⟨w.heap.size + 1, 2, none⟩ = some (.slice none 0 0) := by rw [← hw1]; simp [go_sem]
  have yf : ∀ j, w1.frozen? ⟨w.heap.size + 1, j, none⟩ = false := fun j => by rw [← hw1]; simp [go_sem]
  have CK := rcheck_any (a : Int) (b : Int) (some ⟨g, o, none⟩) S.length cap (by omega) w1
  rw [show chk (a : Int) (b : Int) S.length = 0 by rw [hl]; exact chk_size hs] at CK
  have BO : ∀ w : World, Calls Try.prog 33 #[.int .i64 k, .int .i64 1, .int .i64 0] w fun e w' => e = .returned (.tuple #[.int .i64 (borV k 1 0), .int .i64 0]) ∧ w' = w := fun w => by
    have := rborder_any k 1 0 w
    rw [(borA_ok 0 hk ⟨by decide, by decide⟩).1, (borA_ok 0 hk ⟨by decide, by decide⟩).2] at this
    exact this
  clear hk
  clear hs hl
  go_enter Try.func34, Try.ntmps34
  go_wp2_with fail
  clear hw1
  refine CK.mono ?_
  rintro e w2 ⟨rfl, q2⟩
  replace z00 := q2.cell z00
  replace z01 := q2.cell z01
  replace z02 := q2.cell z02
  replace z10 := q2.cell z10
  replace z11 := q2.cell z11
  replace z12 := q2.cell z12
  replace yf : ∀ j, w2.frozen? ⟨w.heap.size + 1, j, none⟩ = false := fun j => by rw [q2.2]; exact yf j
  have QT : Hid (Q w w2) := Q1.out.trans q2
  clear CK q2 Q1 S1
  go_wp2_with fail
  refine (BO _).mono ?_
  rintro e wz ⟨rfl, hz⟩
  rw [hz]
  clear hz wz
  go_wp2_with fail
  refine bodyPost_ret (v := .tuple #[noPl, .int .i64 52]) (by simp [results, Try.results34, go_sem, noPl, z10, z11, z12]) rfl ⟨rfl, ?_⟩
  exact ((QT.out.put (by omega)).put (by omega)).put (by omega)
set_option maxHeartbeats 2000000 in
set_option maxRecDepth 100000 in
theorem rext_neg1 {a b : Nat} (hs : Size a b) {S : List Nat} (hl : S.length = a * b) (g o cap : Nat) (k l t r1 bo : Int) (hk : k = 1 ∨ k = 2 ∨ k = 3) (h0 : ¬ l < 0) (h1 : t < 0) (w : World) :
    Calls Try.prog 34 #[.agg #[.int .i64 (a : Int), .int .i64 (b : Int), .slice (some ⟨g, o, none⟩) S.length cap], .int .i64 k, .int .i64 l, .int .i64 t, .int .i64 r1, .int .i64 bo] w (Fails w 52) := by
  have hb : ((0 : Int) != 0) = false := by decide
  have hb53 : ((53 : Int) != 0) = true := by decide
  have hn : S.length ≤ 65536 := by rw [hl]; exact hs.ab
  have a2 := hs.a2
  have b2 := hs.b2
  obtain ⟨w1, hw1⟩ : ∃ w1, (w.alloc (.cells #[.int .i64 (a : Int), .int .i64 (b : Int), .slice (some ⟨g, o, none⟩) S.length cap] 25)).alloc (.cells #[.int .i64 0, .int .i64 0, .slice none 0 0] 25) = w1 := ⟨_, rfl⟩
  have Q1 : Hid (Q w w1) := by rw [← hw1]; exact (((Q.refl w).cells _ _).cells _ _)
  have S1 : w1.heap.size = w.heap.size + 1 + 1 := by rw [← hw1]; simp
  have z00 : w1.cell? ⟨w.heap.size, 0, none⟩ = some (.int .i64 (a : Int)) := by rw [← hw1]; simp [go_sem]
  have z01 : w1.cell? ⟨w.heap.size, 1, none⟩ = some (.int .i64 (b : Int)) := by rw [← hw1]; simp [go_sem]
  have z02 : w1.cell? ⟨w.heap.size, 2, none⟩ = some (.slice (some ⟨g, o, none⟩) S.length cap) := by rw [← hw1]; simp [go_sem]
  have z10 : w1.cell? ⟨w.heap.size + 1, 0, none⟩ = some (.int .i64 0) := by rw [← hw1]; simp [go_sem]
  have z11 : w1.cell? ⟨w.heap.size + 1, 1, none⟩ = some (.int .i64 0) := by rw [← hw1]; simp [go_sem]
  have z12 : w1.cell? ⟨w.heap.size + 1, 2, none⟩ = some (.slice none 0 0) := by rw [← hw1]; simp [go_sem]
  have yf : ∀ j, w1.frozen? ⟨w.heap.size + 1, j, none⟩ = false := fun j => by rw [← hw1]; simp [go_sem]
  have CK := rcheck_any (a : Int) (b : Int) (some ⟨g, o, none⟩) S.length cap (by omega) w1
  rw [show chk (a : Int) (b : Int) S.length = 0 by rw [hl]; exact chk_size hs] at CK
  have BO : ∀ w : World, Calls Try.prog 33 #[.int .i64 k, .int .i64 1, .int .i64 0] w fun e w' => e = .returned (.tuple #[.int .i64 (borV k 1 0), .int .i64 0]) ∧ w' = w := fun w => by
    have := rborder_any k 1 0 w
    rw [(borA_ok 0 hk ⟨by decide, by decide⟩).1, (borA_ok 0 hk ⟨by decide, by decide⟩).2] at this
    exact this
  clear hk
  clear hs hl
  go_enter Try.func34, Try.ntmps34
  go_wp2_with fail
  clear hw1
  refine CK.mono ?_
  rintro e w2 ⟨rfl, q2⟩
  replace z00 := q2.cell z00
  replace z01 := q2.cell z01
  replace z02 := q2.cell z02
  replace z10 := q2.cell z10
  replace z11 := q2.cell z11
  replace z12 := q2.cell z12
  replace yf : ∀ j, w2.frozen? ⟨w.heap.size + 1, j, none⟩ = false := fun j => by rw [q2.2]; exact yf j
  have QT : Hid (Q w w2) := Q1.out.trans q2
  clear CK q2 Q1 S1
  go_wp2_with fail
  refine (BO _).mono ?_
  rintro e wz ⟨rfl, hz⟩
  rw [hz]
  clear hz wz
  go_wp2_with fail
  refine bodyPost_ret (v := .tuple #[noPl, .int .i64 52]) (by simp [results, Try.results34, go_sem, noPl, z10, z11, z12]) rfl ⟨rfl, ?_⟩
  exact ((QT.out.put (by omega)).put (by omega)).put (by omega)
set_option maxHeartbeats 2000000 in
set_option maxRecDepth 100000 in
theorem rext_neg2 {a b : Nat} (hs : Size a b) {S : List Nat} (hl : S.length = a * b) (g o cap : Nat) (k l t r1 bo : Int) (hk : k = 1 ∨ k = 2 ∨ k = 3) (h0 : ¬ l < 0) (h1 : ¬ t < 0) (h2 : r1 < 0) (w : World) :
    Calls Try.prog 34 #[.agg #[.int .i64 (a : Int), .int .i64 (b : Int), .slice (some ⟨g, o, none⟩) S.length cap], .int .i64 k, .int .i64 l, .int .i64 t, .int .i64 r1, .int .i64 bo] w (Fails w 52) := by
  have hb : ((0 : Int) != 0) = false := by decide
  have hb53 : ((53 : Int) != 0) = true := by decide
  have hn : S.length ≤ 65536 := by rw [hl]; exact hs.ab
  have a2 := hs.a2
  have b2 := hs.b2
  obtain ⟨w1, hw1⟩ : ∃ w1, (w.alloc (.cells #[.int .i64 (a : Int), .int .i64 (b : Int), .slice (some ⟨g, o, none⟩) S.length cap] 25)).alloc (.cells #[.int .i64 0, .int .i64 0, .slice none 0 0] 25) = w1 := ⟨_, rfl⟩
  have Q1 : Hid (Q w w1) := by rw [← hw1]; exact (((Q.refl w).cells _ _).cells _ _)
  have S1 : w1.heap.size = w.heap.size + 1 + 1 := by rw [← hw1]; simp
  have z00 : w1.cell? ⟨w.heap.size, 0, none⟩ = some (.int .i64 (a : Int)) := by rw [← hw1]; simp [go_sem]
  have z01 : w1.cell? ⟨w.heap.size, 1, none⟩ = some (.int .i64 (b : Int)) := by rw [← hw1]; simp [go_sem]
  have z02 : w1.cell? ⟨w.heap.size, 2, none⟩ = some (.slice (some ⟨g, o, none⟩) S.length cap) := by rw [← hw1]; simp [go_sem]
  have z10 : w1.cell? ⟨w.heap.size + 1, 0, none⟩ = some (.int .i64 0) := by rw [← hw1]; simp [go_sem]
  have z11 : w1.cell? ⟨w.heap.size + 1, 1, none⟩ = some (.int .i64 0) := by rw [← hw1]; simp [go_sem]
  have z12 : w1.cell? ⟨w.heap.size + 1, 2, none⟩ = some (.slice none 0 0) := by rw [← hw1]; simp [go_sem]
  have yf : ∀ j, w1.frozen? ⟨w.heap.size + 1, j, none⟩ = false := fun j => by rw [← hw1]; simp [go_sem]
  have CK := rcheck_any (a : Int) (b : Int) (some ⟨g, o, none⟩) S.length cap (by omega) w1
  rw [show chk (a : Int) (b : Int) S.length = 0 by rw [hl]; exact chk_size hs] at CK
  have BO : ∀ w : World, Calls Try.prog 33 #[.int .i64 k, .int .i64 1, .int .i64 0] w fun e w' => e = .returned (.tuple #[.int .i64 (borV k 1 0), .int .i64 0]) ∧ w' = w := fun w => by
    have := rborder_any k 1 0 w
    rw [(borA_ok 0 hk ⟨by decide, by decide⟩).1, (borA_ok 0 hk ⟨by decide, by decide⟩).2] at this
    exact this
  clear hk
  clear hs hl
  go_enter Try.func34, Try.ntmps34
  go_wp2_with fail
  clear hw1
  refine CK.mono ?_
  rintro e w2 ⟨rfl, q2⟩
  replace z00 := q2.cell z00
  replace z01 := q2.cell z01
  replace z02 := q2.cell z02
  replace z10 := q2.cell z10
  replace z11 := q2.cell z11
  replace z12 := q2.cell z12
  replace yf : ∀ j, w2.frozen? ⟨w.heap.size + 1, j, none⟩ = false := fun j => by rw [q2.2]; exact yf j
  have QT : Hid (Q w w2) := Q1.out.trans q2
  clear CK q2 Q1 S1
  go_wp2_with fail
  refine (BO _).mono ?_
  rintro e wz ⟨rfl, hz⟩
  rw [hz]
  clear hz wz
  go_wp2_with fail
  refine bodyPost_ret (v := .tuple #[noPl, .int .i64 52]) (by simp [results, Try.results34, go_sem, noPl, z10, z11, z12]) rfl ⟨rfl, ?_⟩
  exact ((QT.out.put (by omega)).put (by omega)).put (by omega)
set_option maxHeartbeats 2000000 in
set_option maxRecDepth 100000 in
theorem rext_neg3 {a b : Nat} (hs : Size a b) {S : List Nat} (hl : S.length = a * b) (g o cap : Nat) (k l t r1 bo : Int) (hk : k = 1 ∨ k = 2 ∨ k = 3) (h0 : ¬ l < 0) (h1 : ¬ t < 0) (h2 : ¬ r1 < 0) (h3 : bo < 0) (w : World) :
    Calls Try.prog 34 #[.agg #[.int .i64 (a : Int), .int .i64 (b : Int), .slice (some ⟨g, o, none⟩) S.length cap], .int .i64 k, .int .i64 l, .int .i64 t, .int .i64 r1, .int .i64 bo] w (Fails w 52) := by
  have hb : ((0 : Int) != 0) = false := by decide
  have hb53 : ((53 : Int) != 0) = true := by decide
  have hn : S.length ≤ 65536 := by rw [hl]; exact hs.ab
  have a2 := hs.a2
  have b2 := hs.b2
  obtain ⟨w1, hw1⟩ : ∃ w1, (w.alloc (.cells #[.int .i64 (a : Int), .int .i64 (b : Int), .slice (some ⟨g, o, none⟩) S.length cap] 25)).alloc (.cells #[.int .i64 0, .int .i64 0, .slice none 0 0] 25) = w1 := ⟨_, rfl⟩
  have Q1 : Hid (Q w w1) := by rw [← hw1]; exact (((Q.refl w).cells _ _).cells _ _)
  have S1 : w1.heap.size = w.heap.size + 1 + 1 := by rw [← hw1]; simp
  have z00 : w1.cell? ⟨w.heap.size, 0, none⟩ = some (.int .i64 (a : Int)) := by rw [← hw1]; simp [go_sem]
  have z01 : w1.cell? ⟨w.heap.size, 1, none⟩ = some (.int .i64 (b : Int)) := by rw [← hw1]; simp [go_sem]
  have z02 : w1.cell? ⟨w.heap.size, 2, none⟩ = some (.slice (some ⟨g, o, none⟩) S.length cap) := by rw [← hw1]; simp [go_sem]
  have z10 : w1.cell? ⟨w.heap.size + 1, 0, none⟩ = some (.int .i64 0) := by rw [← hw1]; simp [go_sem]
  have z11 : w1.cell? ⟨w.heap.size + 1, 1, none⟩ = some (.int .i64 0) := by rw [← hw1]; simp [go_sem]
  have z12 : w1.cell? ⟨w.heap.size + 1, 2, none⟩ = some (.slice none 0 0) := by rw [← hw1]; simp [go_sem]
  have yf : ∀ j, w1.frozen? ⟨w.heap.size + 1, j, none⟩ = false := fun j => by rw [← hw1]; simp [go_sem]
  have CK := rcheck_any (a : Int) (b : Int) (some ⟨g, o, none⟩) S.length cap (by omega) w1
  rw [show chk (a : Int) (b : Int) S.length = 0 by rw [hl]; exact chk_size hs] at CK
  have BO : ∀ w : World, Calls Try.prog 33 #[.int .i64 k, .int .i64 1, .int .i64 0] w fun e w' => e = .returned (.tuple #[.int .i64 (borV k 1 0), .int .i64 0]) ∧ w' = w := fun w => by
    have := rborder_any k 1 0 w
    rw [(borA_ok 0 hk ⟨by decide, by decide⟩).1, (borA_ok 0 hk ⟨by decide, by decide⟩).2] at this
    exact this
  clear hk
  clear hs hl
  go_enter Try.func34, Try.ntmps34
  go_wp2_with fail
  clear hw1
  refine CK.mono ?_
  rintro e w2 ⟨rfl, q2⟩
  replace z00 := q2.cell z00
  replace z01 := q2.cell z01
  replace z02 := q2.cell z02
  replace z10 := q2.cell z10
  replace z11 := q2.cell z11
  replace z12 := q2.cell z12
  replace yf : ∀ j, w2.frozen? ⟨w.heap.size + 1, j, none⟩ = false := fun j => by rw [q2.2]; exact yf j
  have QT : Hid (Q w w2) := Q1.out.trans q2
  clear CK q2 Q1 S1
  go_wp2_with fail
  refine (BO _).mono ?_
  rintro e wz ⟨rfl, hz⟩
  rw [hz]
  clear hz wz
  go_wp2_with fail
  refine bodyPost_ret (v := .tuple #[noPl, .int .i64 52]) (by simp [results, Try.results34, go_sem, noPl, z10, z11, z12]) rfl ⟨rfl, ?_⟩
  exact ((QT.out.put (by omega)).put (by omega)).put (by omega)
set_option maxHeartbeats 2000000 in
set_option maxRecDepth 100000 in
theorem rext_far0 {a b : Nat} (hs : Size a b) {S : List Nat} (hl : S.length = a * b) (g o cap : Nat) (k l t r1 bo : Int) (hk : k = 1 ∨ k = 2 ∨ k = 3) (h0 : ¬ l < 0) (h1 : ¬ t < 0) (h2 : ¬ r1 < 0) (h3 : ¬ bo < 0)  (g0 : 1024 < l) (w : World) :
    Calls Try.prog 34 #[.agg #[.int .i64 (a : Int), .int .i64 (b : Int), .slice (some ⟨g, o, none⟩) S.length cap], .int .i64 k, .int .i64 l, .int .i64 t, .int .i64 r1, .int .i64 bo] w (Fails w 50) := by
  have hb : ((0 : Int) != 0) = false := by decide
  have hb53 : ((53 : Int) != 0) = true := by decide
  have hn : S.length ≤ 65536 := by rw [hl]; exact hs.ab
  have a2 := hs.a2
  have b2 := hs.b2
  obtain ⟨w1, hw1⟩ : ∃ w1, (w.alloc (.cells #[.int .i64 (a : Int), .int .i64 (b : Int), .slice (some ⟨g, o, none⟩) S.length cap] 25)).alloc (.cells #[.int .i64 0, .int .i64 0, .slice none 0 0] 25) = w1 := ⟨_, rfl⟩
  have Q1 : Hid (Q w w1) := by rw [← hw1]; exact (((Q.refl w).cells _ _).cells _ _)
  have S1 : w1.heap.size = w.heap.size + 1 + 1 := by rw [← hw1]; simp
  have z00 : w1.cell? ⟨w.heap.size, 0, none⟩ = some (.int .i64 (a : Int)) := by rw [← hw1]; simp [go_sem]
  have z01 : w1.cell? ⟨w.heap.size, 1, none⟩ = some (.int .i64 (b : Int)) := by rw [← hw1]; simp [go_sem]
  have z02 : w1.cell? ⟨w.heap.size, 2, none⟩ = some (.slice (some ⟨g, o, none⟩) S.length cap) := by rw [← hw1]; simp [go_sem]
  have z10 : w1.cell? ⟨w.heap.size + 1, 0, none⟩ = some (.int .i64 0) := by rw [← hw1]; simp [go_sem]
  have z11 : w1.cell? ⟨w.heap.size + 1, 1, none⟩ = some (.int .i64 0) := by rw [← hw1]; simp [go_sem]
  have z12 : w1.cell? ⟨w.heap.size + 1, 2, none⟩ = some (.slice none 0 0) := by rw [← hw1]; simp [go_sem]
  have yf : ∀ j, w1.frozen? ⟨w.heap.size + 1, j, none⟩ = false := fun j => by rw [← hw1]; simp [go_sem]
  have CK := rcheck_any (a : Int) (b : Int) (some ⟨g, o, none⟩) S.length cap (by omega) w1
  rw [show chk (a : Int) (b : Int) S.length = 0 by rw [hl]; exact chk_size hs] at CK
  have BO : ∀ w : World, Calls Try.prog 33 #[.int .i64 k, .int .i64 1, .int .i64 0] w fun e w' => e = .returned (.tuple #[.int .i64 (borV k 1 0), .int .i64 0]) ∧ w' = w := fun w => by
    have := rborder_any k 1 0 w
    rw [(borA_ok 0 hk ⟨by decide, by decide⟩).1, (borA_ok 0 hk ⟨by decide, by decide⟩).2] at this
    exact this
  clear hk
  clear hs hl
  go_enter Try.func34, Try.ntmps34
  go_wp2_with fail
  clear hw1
  refine CK.mono ?_
  rintro e w2 ⟨rfl, q2⟩
  replace z00 := q2.cell z00
  replace z01 := q2.cell z01
  replace z02 := q2.cell z02
  replace z10 := q2.cell z10
  replace z11 := q2.cell z11
  replace z12 := q2.cell z12
  replace yf : ∀ j, w2.frozen? ⟨w.heap.size + 1, j, none⟩ = false := fun j => by rw [q2.2]; exact yf j
  have QT : Hid (Q w w2) := Q1.out.trans q2
  clear CK q2 Q1 S1
  go_wp2_with fail
  refine (BO _).mono ?_
  rintro e wz ⟨rfl, hz⟩
  rw [hz]
  clear hz wz
  go_wp2_with fail
  refine bodyPost_ret (v := .tuple #[noPl, .int .i64 50]) (by simp [results, Try.results34, go_sem, noPl, z10, z11, z12]) rfl ⟨rfl, ?_⟩
  exact ((QT.out.put (by omega)).put (by omega)).put (by omega)
set_option maxHeartbeats 2000000 in
set_option maxRecDepth 100000 in
theorem rext_far1 {a b : Nat} (hs : Size a b) {S : List Nat} (hl : S.length = a * b) (g o cap : Nat) (k l t r1 bo : Int) (hk : k = 1 ∨ k = 2 ∨ k = 3) (h0 : ¬ l < 0) (h1 : ¬ t < 0) (h2 : ¬ r1 < 0) (h3 : ¬ bo < 0) (g0 : ¬ 1024 < l) (g1 : 1024 < t) (w : World) :
    Calls Try.prog 34 #[.agg #[.int .i64 (a : Int), .int .i64 (b : Int), .slice (some ⟨g, o, none⟩) S.length cap], .int .i64 k, .int .i64 l, .int .i64 t, .int .i64 r1, .int .i64 bo] w (Fails w 50) := by
  have hb : ((0 : Int) != 0) = false := by decide
  have hb53 : ((53 : Int) != 0) = true := by decide
  have hn : S.length ≤ 65536 := by rw [hl]; exact hs.ab
  have a2 := hs.a2
  have b2 := hs.b2
  obtain ⟨w1, hw1⟩ : ∃ w1, (w.alloc (.cells #[.int .i64 (a : Int), .int .i64 (b : Int), .slice (some ⟨g, o, none⟩) S.length cap] 25)).alloc (.cells #[.int .i64 0, .int .i64 0, .slice none 0 0] 25) = w1 := ⟨_, rfl⟩
  have Q1 : Hid (Q w w1) := by rw [← hw1]; exact (((Q.refl w).cells _ _).cells _ _)
  have S1 : w1.heap.size = w.heap.size + 1 + 1 := by rw [← hw1]; simp
  have z00 : w1.cell? ⟨w.heap.size, 0, none⟩ = some (.int .i64 (a : Int)) := by rw [← hw1]; simp [go_sem]
  have z01 : w1.cell? ⟨w.heap.size, 1, none⟩ = some (.int .i64 (b : Int)) := by rw [← hw1]; simp [go_sem]
  have z02 : w1.cell? ⟨w.heap.size, 2, none⟩ = some (.slice (some ⟨g, o, none⟩) S.length cap) := by rw [← hw1]; simp [go_sem]
  have z10 : w1.cell? ⟨w.heap.size + 1, 0, none⟩ = some (.int .i64 0) := by rw [← hw1]; simp [go_sem]
  have z11 : w1.cell? ⟨w.heap.size + 1, 1, none⟩ = some (.int .i64 0) := by rw [← hw1]; simp [go_sem]
  have z12 : w1.cell? ⟨w.heap.size + 1, 2, none⟩ = some (.slice none 0 0) := by rw [← hw1]; simp [go_sem]
  have yf : ∀ j, w1.frozen? ⟨w.heap.size + 1, j, none⟩ = false := fun j => by rw [← hw1]; simp [go_sem]
  have CK := rcheck_any (a : Int) (b : Int) (some ⟨g, o, none⟩) S.length cap (by omega) w1
  rw [show chk (a : Int) (b : Int) S.length = 0 by rw [hl]; exact chk_size hs] at CK
  have BO : ∀ w : World, Calls Try.prog 33 #[.int .i64 k, .int .i64 1, .int .i64 0] w fun e w' => e = .returned (.tuple #[.int .i64 (borV k 1 0), .int .i64 0]) ∧ w' = w := fun w => by
    have := rborder_any k 1 0 w
    rw [(borA_ok 0 hk ⟨by decide, by decide⟩).1, (borA_ok 0 hk ⟨by decide, by decide⟩).2] at this
    exact this
  clear hk
  clear hs hl
  go_enter Try.func34, Try.ntmps34
  go_wp2_with fail
  clear hw1
  refine CK.mono ?_
  rintro e w2 ⟨rfl, q2⟩
  replace z00 := q2.cell z00
  replace z01 := q2.cell z01
  replace z02 := q2.cell z02
  replace z10 := q2.cell z10
  replace z11 := q2.cell z11
  replace z12 := q2.cell z12
  replace yf : ∀ j, w2.frozen? ⟨w.heap.size + 1, j, none⟩ = false := fun j => by rw [q2.2]; exact yf j
  have QT : Hid (Q w w2) := Q1.out.trans q2
  clear CK q2 Q1 S1
  go_wp2_with fail
  refine (BO _).mono ?_
  rintro e wz ⟨rfl, hz⟩
  rw [hz]
  clear hz wz
  go_wp2_with fail
  refine bodyPost_ret (v := .tuple #[noPl, .int .i64 50]) (by simp [results, Try.results34, go_sem, noPl, z10, z11, z12]) rfl ⟨rfl, ?_⟩
  exact ((QT.out.put (by omega)).put (by omega)).put (by omega)
set_option maxHeartbeats 2000000 in
set_option maxRecDepth 100000 in
theorem rext_far2 {a b : Nat} (hs : Size a b) {S : List Nat} (hl : S.length = a * b) (g o cap : Nat) (k l t r1 bo : Int) (hk : k = 1 ∨ k = 2 ∨ k = 3) (h0 : ¬ l < 0) (h1 : ¬ t < 0) (h2 : ¬ r1 < 0) (h3 : ¬ bo < 0) (g0 : ¬ 1024 < l) (g1 : ¬ 1024 < t) (g2 : 1024 < r1) (w : World) :
    Calls Try.prog 34 #[.agg #[.int .i64 (a : Int), .int .i64 (b : Int), .slice (some ⟨g, o, none⟩) S.length cap], .int .i64 k, .int .i64 l, .int .i64 t, .int .i64 r1, .int .i64 bo] w (Fails w 50) := by
  have hb : ((0 : Int) != 0) = false := by decide
  have hb53 : ((53 : Int) != 0) = true := by decide
  have hn : S.length ≤ 65536 := by rw [hl]; exact hs.ab
  have a2 := hs.a2
  have b2 := hs.b2
  obtain ⟨w1, hw1⟩ : ∃ w1, (w.alloc (.cells #[.int .i64 (a : Int), .int .i64 (b : Int), .slice (some ⟨g, o, none⟩) S.length cap] 25)).alloc (.cells #[.int .i64 0, .int .i64 0, .slice none 0 0] 25) = w1 := ⟨_, rfl⟩
  have Q1 : Hid (Q w w1) := by rw [← hw1]; exact (((Q.refl w).cells _ _).cells _ _)
  have S1 : w1.heap.size = w.heap.size + 1 + 1 := by rw [← hw1]; simp
  have z00 : w1.cell? ⟨w.heap.size, 0, none⟩ = some (.int .i64 (a : Int)) := by rw [← hw1]; simp [go_sem]
  have z01 : w1.cell? ⟨w.heap.size, 1, none⟩ = some (.int .i64 (b : Int)) := by rw [← hw1]; simp [go_sem]
  have z02 : w1.cell? ⟨w.heap.size, 2, none⟩ = some (.slice (some ⟨g, o, none⟩) S.length cap) := by rw [← hw1]; simp [go_sem]
  have z10 : w1.cell? ⟨w.heap.size + 1, 0, none⟩ = some (.int .i64 0) := by rw [← hw1]; simp [go_sem]
  have z11 : w1.cell? ⟨w.heap.size + 1, 1, none⟩ = some (.int .i64 0) := by rw [← hw1]; simp [go_sem]
  have z12 : w1.cell? ⟨w.heap.size + 1, 2, none⟩ = some (.slice none 0 0) := by rw [← hw1]; simp [go_sem]
  have yf : ∀ j, w1.frozen? ⟨w.heap.size + 1, j, none⟩ = false := fun j => by rw [← hw1]; simp [go_sem]
  have CK := rcheck_any (a : Int) (b : Int) (some ⟨g, o, none⟩) S.length cap (by omega) w1
  rw [show chk (a : Int) (b : Int) S.length = 0 by rw [hl]; exact chk_size hs] at CK
  have BO : ∀ w : World, Calls Try.prog 33 #[.int .i64 k, .int .i64 1, .int .i64 0] w fun e w' => e = .returned (.tuple #[.int .i64 (borV k 1 0), .int .i64 0]) ∧ w' = w := fun w => by
    have := rborder_any k 1 0 w
    rw [(borA_ok 0 hk ⟨by decide, by decide⟩).1, (borA_ok 0 hk ⟨by decide, by decide⟩).2] at this
    exact this
  clear hk
  clear hs hl
  go_enter Try.func34, Try.ntmps34
  go_wp2_with fail
  clear hw1
  refine CK.mono ?_
  rintro e w2 ⟨rfl, q2⟩
  replace z00 := q2.cell z00
  replace z01 := q2.cell z01
  replace z02 := q2.cell z02
  replace z10 := q2.cell z10
  replace z11 := q2.cell z11
  replace z12 := q2.cell z12
  replace yf : ∀ j, w2.frozen? ⟨w.heap.size + 1, j, none⟩ = false := fun j => by rw [q2.2]; exact yf j
  have QT : Hid (Q w w2) := Q1.out.trans q2
  clear CK q2 Q1 S1
  go_wp2_with fail
  refine (BO _).mono ?_
  rintro e wz ⟨rfl, hz⟩
  rw [hz]
  clear hz wz
  go_wp2_with fail
  refine bodyPost_ret (v := .tuple #[noPl, .int .i64 50]) (by simp [results, Try.results34, go_sem, noPl, z10, z11, z12]) rfl ⟨rfl, ?_⟩
  exact ((QT.out.put (by omega)).put (by omega)).put (by omega)
set_option maxHeartbeats 2000000 in
set_option maxRecDepth 100000 in
theorem rext_far3 {a b : Nat} (hs : Size a b) {S : List Nat} (hl : S.length = a * b) (g o cap : Nat) (k l t r1 bo : Int) (hk : k = 1 ∨ k = 2 ∨ k = 3) (h0 : ¬ l < 0) (h1 : ¬ t < 0) (h2 : ¬ r1 < 0) (h3 : ¬ bo < 0) (g0 : ¬ 1024 < l) (g1 : ¬ 1024 < t) (g2 : ¬ 1024 < r1) (g3 : 1024 < bo) (w : World) :
    Calls Try.prog 34 #[.agg #[.int .i64 (a : Int), .int .i64 (b : Int), .slice (some ⟨g, o, none⟩) S.length cap], .int .i64 k, .int .i64 l, .int .i64 t, .int .i64 r1, .int .i64 bo] w (Fails w 50) := by
  have hb : ((0 : Int) != 0) = false := by decide
  have hb53 : ((53 : Int) != 0) = true := by decide
  have hn : S.length ≤ 65536 := by rw [hl]; exact hs.ab
  have a2 := hs.a2
  have b2 := hs.b2
  obtain ⟨w1, hw1⟩ : ∃ w1, (w.alloc (.cells #[.int .i64 (a : Int), .int .i64 (b : Int), .slice (some ⟨g, o, none⟩) S.length cap] 25)).alloc (.cells #[.int .i64 0, .int .i64 0, .slice none 0 0] 25) = w1 := ⟨_, rfl⟩
  have Q1 : Hid (Q w w1) := by rw [← hw1]; exact (((Q.refl w).cells _ _).cells _ _)
  have S1 : w1.heap.size = w.heap.size + 1 + 1 := by rw [← hw1]; simp
  have z00 : w1.cell? ⟨w.heap.size, 0, none⟩ = some (.int .i64 (a : Int)) := by rw [← hw1]; simp [go_sem]
  have z01 : w1.cell? ⟨w.heap.size, 1, none⟩ = some (.int .i64 (b : Int)) := by rw [← hw1]; simp [go_sem]
  have z02 : w1.cell? ⟨w.heap.size, 2, none⟩ = some (.slice (some ⟨g, o, none⟩) S.length cap) := by rw [← hw1]; simp [go_sem]
  have z10 : w1.cell? ⟨w.heap.size + 1, 0, none⟩ = some (.int .i64 0) := by rw [← hw1]; simp [go_sem]
  have z11 : w1.cell? ⟨w.heap.size + 1, 1, none⟩ = some (.int .i64 0) := by rw [← hw1]; simp [go_sem]
  have z12 : w1.cell? ⟨w.heap.size + 1, 2, none⟩ = some (.slice none 0 0) := by rw [← hw1]; simp [go_sem]
  have yf : ∀ j, w1.frozen? ⟨w.heap.size + 1, j, none⟩ = false := fun j => by rw [← hw1]; simp [go_sem]
  have CK := rcheck_any (a : Int) (b : Int) (some ⟨g, o, none⟩) S.length cap (by omega) w1
  rw [show chk (a : Int) (b : Int) S.length = 0 by rw [hl]; exact chk_size hs] at CK
  have BO : ∀ w : World, Calls Try.prog 33 #[.int .i64 k, .int .i64 1, .int .i64 0] w fun e w' => e = .returned (.tuple #[.int .i64 (borV k 1 0), .int .i64 0]) ∧ w' = w := fun w => by
    have := rborder_any k 1 0 w
    rw [(borA_ok 0 hk ⟨by decide, by decide⟩).1, (borA_ok 0 hk ⟨by decide, by decide⟩).2] at this
    exact this
  clear hk
  clear hs hl
  go_enter Try.func34, Try.ntmps34
  go_wp2_with fail
  clear hw1
  refine CK.mono ?_
  rintro e w2 ⟨rfl, q2⟩
  replace z00 := q2.cell z00
  replace z01 := q2.cell z01
  replace z02 := q2.cell z02
  replace z10 := q2.cell z10
  replace z11 := q2.cell z11
  replace z12 := q2.cell z12
  replace yf : ∀ j, w2.frozen? ⟨w.heap.size + 1, j, none⟩ = false := fun j => by rw [q2.2]; exact yf j
  have QT : Hid (Q w w2) := Q1.out.trans q2
  clear CK q2 Q1 S1
  go_wp2_with fail
  refine (BO _).mono ?_
  rintro e wz ⟨rfl, hz⟩
  rw [hz]
  clear hz wz
  go_wp2_with fail
  refine bodyPost_ret (v := .tuple #[noPl, .int .i64 50]) (by simp [results, Try.results34, go_sem, noPl, z10, z11, z12]) rfl ⟨rfl, ?_⟩
  exact ((QT.out.put (by omega)).put (by omega)).put (by omega)
set_option maxHeartbeats 2000000 in
set_option maxRecDepth 100000 in
theorem rext_size {a b : Nat} (hs : Size a b) {S : List Nat} (hl : S.length = a * b) (g o cap : Nat) (k l t r1 bo : Int) (hk : k = 1 ∨ k = 2 ∨ k = 3) (h0 : ¬ l < 0) (h1 : ¬ t < 0) (h2 : ¬ r1 < 0) (h3 : ¬ bo < 0) (g0 : ¬ 1024 < l) (g1 : ¬ 1024 < t) (g2 : ¬ 1024 < r1) (g3 : ¬ 1024 < bo) (hz : sizeB (l + a + r1) (t + b + bo) = false) (w : World) :
    Calls Try.prog 34 #[.agg #[.int .i64 (a : Int), .int .i64 (b : Int), .slice (some ⟨g, o, none⟩) S.length cap], .int .i64 k, .int .i64 l, .int .i64 t, .int .i64 r1, .int .i64 bo] w (Fails w 50) := by
  have hb : ((0 : Int) != 0) = false := by decide
  have hb53 : ((53 : Int) != 0) = true := by decide
  have hn : S.length ≤ 65536 := by rw [hl]; exact hs.ab
  have a2 := hs.a2
  have b2 := hs.b2
  obtain ⟨w1, hw1⟩ : ∃ w1, (w.alloc (.cells #[.int .i64 (a : Int), .int .i64 (b : Int), .slice (some ⟨g, o, none⟩) S.length cap] 25)).alloc (.cells #[.int .i64 0, .int .i64 0, .slice none 0 0] 25) = w1 := ⟨_, rfl⟩
  have Q1 : Hid (Q w w1) := by rw [← hw1]; exact (((Q.refl w).cells _ _).cells _ _)
  have S1 : w1.heap.size = w.heap.size + 1 + 1 := by rw [← hw1]; simp
  have z00 : w1.cell? ⟨w.heap.size, 0, none⟩ = some (.int .i64 (a : Int)) := by rw [← hw1]; simp [go_sem]
  have z01 : w1.cell? ⟨w.heap.size, 1, none⟩ = some (.int .i64 (b : Int)) := by rw [← hw1]; simp [go_sem]
  have z02 : w1.cell? ⟨w.heap.size, 2, none⟩ = some (.slice (some ⟨g, o, none⟩) S.length cap) := by rw [← hw1]; simp [go_sem]
  have z10 : w1.cell? ⟨w.heap.size + 1, 0, none⟩ = some (.int .i64 0) := by rw [← hw1]; simp [go_sem]
  have z11 : w1.cell? ⟨w.heap.size + 1, 1, none⟩ = some (.int .i64 0) := by rw [← hw1]; simp [go_sem]
  have z12 : w1.cell? ⟨w.heap.size + 1, 2, none⟩ = some (.slice none 0 0) := by rw [← hw1]; simp [go_sem]
  have yf : ∀ j, w1.frozen? ⟨w.heap.size + 1, j, none⟩ = false := fun j => by rw [← hw1]; simp [go_sem]
  have CK := rcheck_any (a : Int) (b : Int) (some ⟨g, o, none⟩) S.length cap (by omega) w1
  rw [show chk (a : Int) (b : Int) S.length = 0 by rw [hl]; exact chk_size hs] at CK
  have BO : ∀ w : World, Calls Try.prog 33 #[.int .i64 k, .int .i64 1, .int .i64 0] w fun e w' => e = .returned (.tuple #[.int .i64 (borV k 1 0), .int .i64 0]) ∧ w' = w := fun w => by
    have := rborder_any k 1 0 w
    rw [(borA_ok 0 hk ⟨by decide, by decide⟩).1, (borA_ok 0 hk ⟨by decide, by decide⟩).2] at this
    exact this
  clear hk
  have SZ : ∀ w : World, Calls Try.prog 45 #[.int .i64 (l + a + r1), .int .i64 (t + b + bo)] w fun e w' => e = .returned (.bool false) ∧ w' = w := fun w => hz ▸ rsize_any (l + a + r1) (t + b + bo) w
  have v1 : IntKind.i64.wrap (l + a) = l + a := by rw [IntKind.wrap_i64]; omega
  have v2 : IntKind.i64.wrap (l + a + r1) = l + a + r1 := by rw [IntKind.wrap_i64]; omega
  have v3 : IntKind.i64.wrap (t + b) = t + b := by rw [IntKind.wrap_i64]; omega
  have v4 : IntKind.i64.wrap (t + b + bo) = t + b + bo := by rw [IntKind.wrap_i64]; omega
  clear hz
  clear hs hl
  go_enter Try.func34, Try.ntmps34
  go_wp2_with fail
  clear hw1
  refine CK.mono ?_
  rintro e w2 ⟨rfl, q2⟩
  replace z00 := q2.cell z00
  replace z01 := q2.cell z01
  replace z02 := q2.cell z02
  replace z10 := q2.cell z10
  replace z11 := q2.cell z11
  replace z12 := q2.cell z12
  replace yf : ∀ j, w2.frozen? ⟨w.heap.size + 1, j, none⟩ = false := fun j => by rw [q2.2]; exact yf j
  have QT : Hid (Q w w2) := Q1.out.trans q2
  clear CK q2 Q1 S1
  go_wp2_with fail
  refine (BO _).mono ?_
  rintro e wz ⟨rfl, hz⟩
  rw [hz]
  clear hz wz
  go_wp2_with fail
  refine (SZ _).mono ?_
  rintro e wz ⟨rfl, hz⟩
  rw [hz]
  clear hz wz
  go_wp2_with fail
  refine bodyPost_ret (v := .tuple #[noPl, .int .i64 50]) (by simp [results, Try.results34, go_sem, noPl, z10, z11, z12]) rfl ⟨rfl, ?_⟩
  exact ((QT.out.put (by omega)).put (by omega)).put (by omega)
theorem rext_fail {w : World} {g o n cap a b : Nat} {S : List Nat} (h : Pl w g o n cap a b S) (k l t r1 bo : Int) {r : Int} (hr : extE k l t r1 bo a b = r) (h0 : r ≠ 0) :
    Calls Try.prog 34 #[.agg #[.int .i64 (a : Int), .int .i64 (b : Int), .slice (some ⟨g, o, none⟩) n cap], .int .i64 k, .int .i64 l, .int .i64 t, .int .i64 r1, .int .i64 bo] w (Fails w r) := by
  have e := h.eq
  subst e
  unfold extE at hr
  by_cases hk : k = 1 ∨ k = 2 ∨ k = 3
  · rw [if_pos hk] at hr
    by_cases h1 : l < 0 ∨ t < 0 ∨ r1 < 0 ∨ bo < 0
    · rw [if_pos h1] at hr
      subst hr
      by_cases n0 : l < 0
      · exact rext_neg0 h.size h.len g o cap k l t r1 bo hk n0 w
      · by_cases n1 : t < 0
        · exact rext_neg1 h.size h.len g o cap k l t r1 bo hk n0 n1 w
        · by_cases n2 : r1 < 0
          · exact rext_neg2 h.size h.len g o cap k l t r1 bo hk n0 n1 n2 w
          · exact rext_neg3 h.size h.len g o cap k l t r1 bo hk n0 n1 n2 (by omega) w
    · rw [if_neg h1] at hr
      have n0 : ¬ l < 0 := by omega
      have n1 : ¬ t < 0 := by omega
      have n2 : ¬ r1 < 0 := by omega
      have n3 : ¬ bo < 0 := by omega
      by_cases h2 : 1024 < l ∨ 1024 < t ∨ 1024 < r1 ∨ 1024 < bo
      · rw [if_pos h2] at hr
        subst hr
        by_cases m0 : 1024 < l
        · exact rext_far0 h.size h.len g o cap k l t r1 bo hk n0 n1 n2 n3 m0 w
        · by_cases m1 : 1024 < t
          · exact rext_far1 h.size h.len g o cap k l t r1 bo hk n0 n1 n2 n3 m0 m1 w
          · by_cases m2 : 1024 < r1
            · exact rext_far2 h.size h.len g o cap k l t r1 bo hk n0 n1 n2 n3 m0 m1 m2 w
            · exact rext_far3 h.size h.len g o cap k l t r1 bo hk n0 n1 n2 n3 m0 m1 m2 (by omega) w
      · rw [if_neg h2] at hr
        by_cases h3 : sizeB (l + a + r1) (t + b + bo) = true
        · rw [if_pos h3] at hr; exact absurd hr.symm h0
        · rw [if_neg h3] at hr
          subst hr
          exact rext_size h.size h.len g o cap k l t r1 bo hk n0 n1 n2 n3 (by omega) (by omega) (by omega) (by omega) (by cases g : sizeB (l + a + r1) (t + b + bo); rfl; exact absurd g h3) w
  · rw [if_neg hk] at hr
    subst hr
    exact rext_kind h.size h.len g o cap k l t r1 bo hk w
end Go.Proofs.Ytkgfohodahkmmaa

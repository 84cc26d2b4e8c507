/- A plane that is made of where its samples come from. -/
import Derived.Test.YtikhmlcmmabapaaG2dec15e7
import Derived.Laws.EntriesVeiled
namespace Go.Proofs.Ytikhmlcmmabapaa
open Go.RowKit
set_option linter.unusedVariables false
set_option linter.unusedSimpArgs false

theorem Own.set {w wr : World} {b : Nat} {S : List Nat} (h : Own w wr b S) {c j : Nat} (hc : w.heap.size ≤ c) (hb : c ≠ b) {v : Value} : Own w (wr.setCell ⟨c, j, none⟩ v) b S := by
  refine ⟨h.q.set hc v, h.new, fun i hi => ?_, fun i => ?_⟩
  · rw [World.cell?_setCell_other _ _ _ _ (fun e => hb (by injection e))]; exact h.cells i hi
  · rw [World.frozen?_setCell]; exact h.free i
end Go.Proofs.Ytikhmlcmmabapaa
/- Where samples come from: the function values of the program. -/
namespace Go.Proofs.Ytikhmlcmmabapaa
open Go.RowKit
set_option linter.unusedVariables false
set_option linter.unusedSimpArgs false

set_option maxHeartbeats 1000000 in
set_option maxRecDepth 100000 in
theorem psample_any {a b : Nat} (hs : Size a b) {S : List Nat} (hl : S.length = a * b) {g o cap : Nat} (X Y : Int) {x y : Nat} (hX : X = x) (hY : Y = y) (hx : x < a) (hy : y < b) {w : World} (hu : UIs w g o S) :
    Calls Try.prog 36 #[.agg #[.int .i64 (a : Int), .int .i64 (b : Int), .slice (some ⟨g, o, none⟩) S.length cap], .int .i64 X, .int .i64 Y] w fun e w' => e = .returned (.int .u32 (smp S a x y : Nat)) ∧ Q w w' := by
  have hp := place_lt hx hy
  have hab := hs.ab
  rw [← hl] at hp hab
  have hc := hu _ hp
  have hS : S.getD (y * a + x) 0 = smp S a x y := rfl
  rw [hS] at hc
  generalize smp S a x y = V at *
  subst hX hY
  obtain ⟨ya, hya⟩ : ∃ ya, y * a = ya := ⟨_, rfl⟩
  rw [hya] at hp hc
  have hyc : (y : Int) * (a : Int) = (ya : Int) := by rw [← Int.natCast_mul, hya]
  have h1 : (0 : Int) ≤ (ya : Int) + (x : Int) := by omega
  have h2 : (ya : Int) + (x : Int) < (S.length : Int) := by omega
  have hw : IntKind.i64.wrap ((ya : Int) + (x : Int)) = (ya : Int) + (x : Int) := by rw [IntKind.wrap_i64]; omega
  have ht : ((ya : Int) + (x : Int)).toNat = ya + x := by omega
  have Q0 : Hid (∀ c t, Q w (w.alloc (.cells c t))) := fun c t => (Q.refl w).cells c t
  have hc' : ∀ c t, (w.alloc (.cells c t)).cell? ⟨g, o + (ya + x), none⟩ = some (.int .u32 (V : Nat)) := fun c t => (Q0.out c t).cell hc
  clear hu hs hl hya hS hx hy
  go_enter Try.func36, Try.ntmps36
  go_wp2_with fail
  go_ret
  exact ⟨rfl, Q0.out _ _⟩
/-- A plane in a variable. -/
structure PlBox (w : World) (B a b : Nat) (v : Value) : Prop where
  c0 : w.cell? ⟨B, 0, none⟩ = some (.int .i64 (a : Int))
  c1 : w.cell? ⟨B, 1, none⟩ = some (.int .i64 (b : Int))
  c2 : w.cell? ⟨B, 2, none⟩ = some v
theorem PlBox.next {w w' : World} {B a b : Nat} {v : Value} (h : PlBox w B a b v) (q : Q w w') : PlBox w' B a b v := ⟨q.cell h.c0, q.cell h.c1, q.cell h.c2⟩
end Go.Proofs.Ytikhmlcmmabapaa
/- plane.Get. -/
namespace Go.Proofs.Ytikhmlcmmabapaa
open Go.RowKit
set_option linter.unusedVariables false
set_option linter.unusedSimpArgs false

set_option maxHeartbeats 1000000 in
set_option maxRecDepth 100000 in
theorem get_bad (W H : Int) (a : Option Addr) (n c : Nat) (hn : n ≤ 9223372036854775807) {r : Int} (hr : chk W H n = r) (h0 : r ≠ 0) (x y : Int) (w : World) :
    Calls Try.prog 25 #[.agg #[.int .i64 W, .int .i64 H, .slice a n c], .int .i64 x, .int .i64 y] w fun e w' => e = .returned (.tuple #[.int .u32 0, .int .i64 r]) ∧ Q w w' := by
  have hb : (r != 0) = true := by rw [bne_iff_ne]; exact h0
  obtain ⟨w1, hw1⟩ : ∃ w1, w.alloc (.cells #[.int .i64 W, .int .i64 H, .slice a n c] 24) = w1 := ⟨_, rfl⟩
  have Q1 : Hid (Q w w1) := by rw [← hw1]; exact ((Q.refl w).cells _ _)
  have S1 : w1.heap.size = w.heap.size + 1 := by rw [← hw1]; simp
  have z00 : w1.cell? ⟨w.heap.size, 0, none⟩ = some (.int .i64 W) := by rw [← hw1]; simp [go_sem]
  have z01 : w1.cell? ⟨w.heap.size, 1, none⟩ = some (.int .i64 H) := by rw [← hw1]; simp [go_sem]
  have z02 : w1.cell? ⟨w.heap.size, 2, none⟩ = some (.slice a n c) := by rw [← hw1]; simp [go_sem]
  have A := check_any W H a n c hn w1
  rw [hr] at A
  clear hr hn
  go_enter Try.func25, Try.ntmps25
  go_wp2_with fail
  clear hw1
  refine A.mono ?_
  rintro e w2 ⟨rfl, q2⟩
  go_wp2_with fail
  go_ret2
  exact ⟨rfl, Q1.out.trans q2⟩
set_option maxHeartbeats 1000000 in
set_option maxRecDepth 100000 in
theorem get_o1 {a b : Nat} (hs : Size a b) {S : List Nat} (hl : S.length = a * b) (g o cap : Nat) (X Y : Int) (h1 : X < 0) (w : World) :
    Calls Try.prog 25 #[.agg #[.int .i64 (a : Int), .int .i64 (b : Int), .slice (some ⟨g, o, none⟩) S.length cap], .int .i64 X, .int .i64 Y] w fun e w' => e = .returned (.tuple #[.int .u32 0, .int .i64 52]) ∧ Q w w' := by
  have hb : ((0 : Int) != 0) = false := by decide
  have hn : S.length ≤ 65536 := by rw [hl]; exact hs.ab
  obtain ⟨w1, hw1⟩ : ∃ w1, w.alloc (.cells #[.int .i64 (a : Int), .int .i64 (b : Int), .slice (some ⟨g, o, none⟩) S.length cap] 24) = w1 := ⟨_, rfl⟩
  have Q1 : Hid (Q w w1) := by rw [← hw1]; exact ((Q.refl w).cells _ _)
  have S1 : w1.heap.size = w.heap.size + 1 := by rw [← hw1]; simp
  have z00 : w1.cell? ⟨w.heap.size, 0, none⟩ = some (.int .i64 (a : Int)) := by rw [← hw1]; simp [go_sem]
  have z01 : w1.cell? ⟨w.heap.size, 1, none⟩ = some (.int .i64 (b : Int)) := by rw [← hw1]; simp [go_sem]
  have z02 : w1.cell? ⟨w.heap.size, 2, none⟩ = some (.slice (some ⟨g, o, none⟩) S.length cap) := by rw [← hw1]; simp [go_sem]
  have A := check_any (a : Int) (b : Int) (some ⟨g, o, none⟩) S.length cap (by omega) w1
  rw [show chk (a : Int) (b : Int) S.length = 0 by rw [hl]; exact chk_size hs] at A
  clear hs hl hn
  go_enter Try.func25, Try.ntmps25
  go_wp2_with fail
  clear hw1
  refine A.mono ?_
  rintro e w2 ⟨rfl, q2⟩
  replace z00 := q2.cell z00
  replace z01 := q2.cell z01
  replace z02 := q2.cell z02
  go_wp2_with fail
  go_ret2
  exact ⟨rfl, Q1.out.trans q2⟩
set_option maxHeartbeats 1000000 in
set_option maxRecDepth 100000 in
theorem get_o2 {a b : Nat} (hs : Size a b) {S : List Nat} (hl : S.length = a * b) (g o cap : Nat) (X Y : Int) (h1 : ¬ X < 0) (h2 : (a : Int) ≤ X) (w : World) :
    Calls Try.prog 25 #[.agg #[.int .i64 (a : Int), .int .i64 (b : Int), .slice (some ⟨g, o, none⟩) S.length cap], .int .i64 X, .int .i64 Y] w fun e w' => e = .returned (.tuple #[.int .u32 0, .int .i64 52]) ∧ Q w w' := by
  have hb : ((0 : Int) != 0) = false := by decide
  have hn : S.length ≤ 65536 := by rw [hl]; exact hs.ab
  obtain ⟨w1, hw1⟩ : ∃ w1, w.alloc (.cells #[.int .i64 (a : Int), .int .i64 (b : Int), .slice (some ⟨g, o, none⟩) S.length cap] 24) = w1 := ⟨_, rfl⟩
  have Q1 : Hid (Q w w1) := by rw [← hw1]; exact ((Q.refl w).cells _ _)
  have S1 : w1.heap.size = w.heap.size + 1 := by rw [← hw1]; simp
  have z00 : w1.cell? ⟨w.heap.size, 0, none⟩ = some (.int .i64 (a : Int)) := by rw [← hw1]; simp [go_sem]
  have z01 : w1.cell? ⟨w.heap.size, 1, none⟩ = some (.int .i64 (b : Int)) := by rw [← hw1]; simp [go_sem]
  have z02 : w1.cell? ⟨w.heap.size, 2, none⟩ = some (.slice (some ⟨g, o, none⟩) S.length cap) := by rw [← hw1]; simp [go_sem]
  have A := check_any (a : Int) (b : Int) (some ⟨g, o, none⟩) S.length cap (by omega) w1
  rw [show chk (a : Int) (b : Int) S.length = 0 by rw [hl]; exact chk_size hs] at A
  clear hs hl hn
  go_enter Try.func25, Try.ntmps25
  go_wp2_with fail
  clear hw1
  refine A.mono ?_
  rintro e w2 ⟨rfl, q2⟩
  replace z00 := q2.cell z00
  replace z01 := q2.cell z01
  replace z02 := q2.cell z02
  go_wp2_with fail
  go_ret2
  exact ⟨rfl, Q1.out.trans q2⟩
set_option maxHeartbeats 1000000 in
set_option maxRecDepth 100000 in
theorem get_o3 {a b : Nat} (hs : Size a b) {S : List Nat} (hl : S.length = a * b) (g o cap : Nat) (X Y : Int) (h1 : ¬ X < 0) (h2 : ¬ (a : Int) ≤ X) (h3 : Y < 0) (w : World) :
    Calls Try.prog 25 #[.agg #[.int .i64 (a : Int), .int .i64 (b : Int), .slice (some ⟨g, o, none⟩) S.length cap], .int .i64 X, .int .i64 Y] w fun e w' => e = .returned (.tuple #[.int .u32 0, .int .i64 52]) ∧ Q w w' := by
  have hb : ((0 : Int) != 0) = false := by decide
  have hn : S.length ≤ 65536 := by rw [hl]; exact hs.ab
  obtain ⟨w1, hw1⟩ : ∃ w1, w.alloc (.cells #[.int .i64 (a : Int), .int .i64 (b : Int), .slice (some ⟨g, o, none⟩) S.length cap] 24) = w1 := ⟨_, rfl⟩
  have Q1 : Hid (Q w w1) := by rw [← hw1]; exact ((Q.refl w).cells _ _)
  have S1 : w1.heap.size = w.heap.size + 1 := by rw [← hw1]; simp
  have z00 : w1.cell? ⟨w.heap.size, 0, none⟩ = some (.int .i64 (a : Int)) := by rw [← hw1]; simp [go_sem]
  have z01 : w1.cell? ⟨w.heap.size, 1, none⟩ = some (.int .i64 (b : Int)) := by rw [← hw1]; simp [go_sem]
  have z02 : w1.cell? ⟨w.heap.size, 2, none⟩ = some (.slice (some ⟨g, o, none⟩) S.length cap) := by rw [← hw1]; simp [go_sem]
  have A := check_any (a : Int) (b : Int) (some ⟨g, o, none⟩) S.length cap (by omega) w1
  rw [show chk (a : Int) (b : Int) S.length = 0 by rw [hl]; exact chk_size hs] at A
  clear hs hl hn
  go_enter Try.func25, Try.ntmps25
  go_wp2_with fail
  clear hw1
  refine A.mono ?_
  rintro e w2 ⟨rfl, q2⟩
  replace z00 := q2.cell z00
  replace z01 := q2.cell z01
  replace z02 := q2.cell z02
  go_wp2_with fail
  go_ret2
  exact ⟨rfl, Q1.out.trans q2⟩
set_option maxHeartbeats 1000000 in
set_option maxRecDepth 100000 in
theorem get_o4 {a b : Nat} (hs : Size a b) {S : List Nat} (hl : S.length = a * b) (g o cap : Nat) (X Y : Int) (h1 : ¬ X < 0) (h2 : ¬ (a : Int) ≤ X) (h3 : ¬ Y < 0) (h4 : (b : Int) ≤ Y) (w : World) :
    Calls Try.prog 25 #[.agg #[.int .i64 (a : Int), .int .i64 (b : Int), .slice (some ⟨g, o, none⟩) S.length cap], .int .i64 X, .int .i64 Y] w fun e w' => e = .returned (.tuple #[.int .u32 0, .int .i64 52]) ∧ Q w w' := by
  have hb : ((0 : Int) != 0) = false := by decide
  have hn : S.length ≤ 65536 := by rw [hl]; exact hs.ab
  obtain ⟨w1, hw1⟩ : ∃ w1, w.alloc (.cells #[.int .i64 (a : Int), .int .i64 (b : Int), .slice (some ⟨g, o, none⟩) S.length cap] 24) = w1 := ⟨_, rfl⟩
  have Q1 : Hid (Q w w1) := by rw [← hw1]; exact ((Q.refl w).cells _ _)
  have S1 : w1.heap.size = w.heap.size + 1 := by rw [← hw1]; simp
  have z00 : w1.cell? ⟨w.heap.size, 0, none⟩ = some (.int .i64 (a : Int)) := by rw [← hw1]; simp [go_sem]
  have z01 : w1.cell? ⟨w.heap.size, 1, none⟩ = some (.int .i64 (b : Int)) := by rw [← hw1]; simp [go_sem]
  have z02 : w1.cell? ⟨w.heap.size, 2, none⟩ = some (.slice (some ⟨g, o, none⟩) S.length cap) := by rw [← hw1]; simp [go_sem]
  have A := check_any (a : Int) (b : Int) (some ⟨g, o, none⟩) S.length cap (by omega) w1
  rw [show chk (a : Int) (b : Int) S.length = 0 by rw [hl]; exact chk_size hs] at A
  clear hs hl hn
  go_enter Try.func25, Try.ntmps25
  go_wp2_with fail
  clear hw1
  refine A.mono ?_
  rintro e w2 ⟨rfl, q2⟩
  replace z00 := q2.cell z00
  replace z01 := q2.cell z01
  replace z02 := q2.cell z02
  go_wp2_with fail
  go_ret2
  exact ⟨rfl, Q1.out.trans q2⟩
set_option maxHeartbeats 1000000 in
set_option maxRecDepth 100000 in
theorem get_in {a b : Nat} (hs : Size a b) {S : List Nat} (hl : S.length = a * b) (g o cap : Nat) (X Y : Int) (x y : Nat) (hX : X = x) (hY : Y = y) (hx : x < a) (hy : y < b) (w : World) (hu : UIs w g o S) :
    Calls Try.prog 25 #[.agg #[.int .i64 (a : Int), .int .i64 (b : Int), .slice (some ⟨g, o, none⟩) S.length cap], .int .i64 X, .int .i64 Y] w fun e w' => e = .returned (.tuple #[.int .u32 (smp S a x y : Nat), .int .i64 0]) ∧ Q w w' := by
  have hb : ((0 : Int) != 0) = false := by decide
  have hn : S.length ≤ 65536 := by rw [hl]; exact hs.ab
  obtain ⟨w1, hw1⟩ : ∃ w1, w.alloc (.cells #[.int .i64 (a : Int), .int .i64 (b : Int), .slice (some ⟨g, o, none⟩) S.length cap] 24) = w1 := ⟨_, rfl⟩
  have Q1 : Hid (Q w w1) := by rw [← hw1]; exact ((Q.refl w).cells _ _)
  have S1 : w1.heap.size = w.heap.size + 1 := by rw [← hw1]; simp
  have z00 : w1.cell? ⟨w.heap.size, 0, none⟩ = some (.int .i64 (a : Int)) := by rw [← hw1]; simp [go_sem]
  have z01 : w1.cell? ⟨w.heap.size, 1, none⟩ = some (.int .i64 (b : Int)) := by rw [← hw1]; simp [go_sem]
  have z02 : w1.cell? ⟨w.heap.size, 2, none⟩ = some (.slice (some ⟨g, o, none⟩) S.length cap) := by rw [← hw1]; simp [go_sem]
  have A := check_any (a : Int) (b : Int) (some ⟨g, o, none⟩) S.length cap (by omega) w1
  rw [show chk (a : Int) (b : Int) S.length = 0 by rw [hl]; exact chk_size hs] at A
  have HS : Hid (Size a b) := hs
  have HL : Hid (S.length = a * b) := hl
  have HU : Hid (UIs w g o S) := hu
  have h1 : ¬ X < 0 := by omega
  have h2 : ¬ (a : Int) ≤ X := by omega
  have h3 : ¬ Y < 0 := by omega
  have h4 : ¬ (b : Int) ≤ Y := by omega
  have HX : Hid (X = x ∧ Y = y) := ⟨hX, hY⟩
  clear hX hY hu
  clear hs hl hn
  go_enter Try.func25, Try.ntmps25
  go_wp2_with fail
  clear hw1
  refine A.mono ?_
  rintro e w2 ⟨rfl, q2⟩
  replace z00 := q2.cell z00
  replace z01 := q2.cell z01
  replace z02 := q2.cell z02
  go_wp2_with fail
  refine (psample_any HS.out HL.out _ _ HX.out.1 HX.out.2 hx hy (HU.out.next (Q1.out.trans q2))).mono ?_
  rintro e w3 ⟨rfl, q3⟩
  go_wp2_with fail
  go_ret2
  exact ⟨rfl, (Q1.out.trans q2).trans q3⟩
theorem get_out {a b : Nat} (hs : Size a b) {S : List Nat} (hl : S.length = a * b) (g o cap : Nat) (X Y : Int) (h : X < 0 ∨ (a : Int) ≤ X ∨ Y < 0 ∨ (b : Int) ≤ Y) (w : World) :
    Calls Try.prog 25 #[.agg #[.int .i64 (a : Int), .int .i64 (b : Int), .slice (some ⟨g, o, none⟩) S.length cap], .int .i64 X, .int .i64 Y] w fun e w' => e = .returned (.tuple #[.int .u32 0, .int .i64 52]) ∧ Q w w' := by
  by_cases h1 : X < 0
  · exact get_o1 hs hl g o cap X Y h1 w
  · by_cases h2 : (a : Int) ≤ X
    · exact get_o2 hs hl g o cap X Y h1 h2 w
    · by_cases h3 : Y < 0
      · exact get_o3 hs hl g o cap X Y h1 h2 h3 w
      · exact get_o4 hs hl g o cap X Y h1 h2 h3 (by omega) w
end Go.Proofs.Ytikhmlcmmabapaa

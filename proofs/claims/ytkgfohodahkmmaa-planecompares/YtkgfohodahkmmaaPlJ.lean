/- Planes moved: the program's Paste, Turn; Get. -/
import Derived.Test.YtkgfohodahkmmaaPlI
namespace Go.Proofs.Ytkgfohodahkmmaa
open Go.RowKit
set_option linter.unusedVariables false
set_option linter.unusedSimpArgs false

set_option maxHeartbeats 1000000 in
set_option maxRecDepth 100000 in
theorem paste_bad (W H : Int) (a : Option Addr) (n c : Nat) (hn : n ≤ 9223372036854775807) {r : Int} (hr : chk W H n = r) (h0 : r ≠ 0) (W2 H2 : Int) (a2 : Option Addr) (n2 c2 : Nat) (X Y : Int) (w : World) :
    Calls Try.prog 24 #[.agg #[.int .i64 W, .int .i64 H, .slice a n c], .agg #[.int .i64 W2, .int .i64 H2, .slice a2 n2 c2], .int .i64 X, .int .i64 Y] w (Fails w r) := by
  have hb : (r != 0) = true := by rw [bne_iff_ne]; exact h0
  obtain ⟨w1, hw1⟩ : ∃ w1, ((((w.alloc (.cells #[.int .i64 W, .int .i64 H, .slice a n c] 25)).alloc (.cells #[.int .i64 W2, .int .i64 H2, .slice a2 n2 c2] 25)).alloc (.cells #[.int .i64 X] 3)).alloc (.cells #[.int .i64 Y] 3)).alloc (.cells #[.int .i64 0, .int .i64 0, .slice none 0 0] 25) = w1 := ⟨_, rfl⟩
  have Q1 : Hid (Q w w1) := by rw [← hw1]; exact ((((((Q.refl w).cells _ _).cells _ _).cells _ _).cells _ _).cells _ _)
  have S1 : w1.heap.size = w.heap.size + 1 + 1 + 1 + 1 + 1 := by rw [← hw1]; simp
  have z00 : w1.cell? ⟨w.heap.size, 0, none⟩ = some (.int .i64 W) := by rw [← hw1]; simp [go_sem]
  have z01 : w1.cell? ⟨w.heap.size, 1, none⟩ = some (.int .i64 H) := by rw [← hw1]; simp [go_sem]
  have z02 : w1.cell? ⟨w.heap.size, 2, none⟩ = some (.slice a n c) := by rw [← hw1]; simp [go_sem]
  have z10 : w1.cell? ⟨w.heap.size + 1, 0, none⟩ = some (.int .i64 W2) := by rw [← hw1]; simp [go_sem]
  have z11 : w1.cell? ⟨w.heap.size + 1, 1, none⟩ = some (.int .i64 H2) := by rw [← hw1]; simp [go_sem]
  have z12 : w1.cell? ⟨w.heap.size + 1, 2, none⟩ = some (.slice a2 n2 c2) := by rw [← hw1]; simp [go_sem]
  have z20 : w1.cell? ⟨w.heap.size + 1 + 1, 0, none⟩ = some (.int .i64 X) := by rw [← hw1]; simp [go_sem]
  have z30 : w1.cell? ⟨w.heap.size + 1 + 1 + 1, 0, none⟩ = some (.int .i64 Y) := by rw [← hw1]; simp [go_sem]
  have z40 : w1.cell? ⟨w.heap.size + 1 + 1 + 1 + 1, 0, none⟩ = some (.int .i64 0) := by rw [← hw1]; simp [go_sem]
  have z41 : w1.cell? ⟨w.heap.size + 1 + 1 + 1 + 1, 1, none⟩ = some (.int .i64 0) := by rw [← hw1]; simp [go_sem]
  have z42 : w1.cell? ⟨w.heap.size + 1 + 1 + 1 + 1, 2, none⟩ = some (.slice none 0 0) := by rw [← hw1]; simp [go_sem]
  have yf : ∀ j, w1.frozen? ⟨w.heap.size + 1 + 1 + 1 + 1, j, none⟩ = false := fun j => by rw [← hw1]; simp [go_sem]
  have A := check_any W H a n c hn w1
  rw [hr] at A
  clear hr hn
  go_enter Try.func24, Try.ntmps24
  go_wp2_with fail
  refine A.mono ?_
  rintro e w2 ⟨rfl, q2⟩
  replace z00 := q2.cell z00
  replace z01 := q2.cell z01
  replace z02 := q2.cell z02
  replace z10 := q2.cell z10
  replace z11 := q2.cell z11
  replace z12 := q2.cell z12
  replace z20 := q2.cell z20
  replace z30 := q2.cell z30
  replace z40 := q2.cell z40
  replace z41 := q2.cell z41
  replace z42 := q2.cell z42
  have yg : ∀ j, w2.frozen? ⟨w.heap.size + 1 + 1 + 1 + 1, j, none⟩ = false := fun j => by rw [q2.2]; exact yf j
  clear hw1 A yf
  go_wp2_with fail
  refine bodyPost_ret (v := .tuple #[noPl, .int .i64 r]) (by simp [results, Try.results24, go_sem, noPl, z40, z41, z42]) rfl ⟨rfl, ?_⟩
  exact (((Q1.out.trans q2).put (by omega)).put (by omega)).put (by omega)
set_option maxHeartbeats 1000000 in
set_option maxRecDepth 100000 in
theorem paste_bad2 (W H : Int) (a : Option Addr) (n c : Nat) (hn : n ≤ 9223372036854775807) (hok : chk W H n = 0) (W2 H2 : Int) (a2 : Option Addr) (n2 c2 : Nat) (hn2 : n2 ≤ 9223372036854775807) {r : Int} (hr : chk W2 H2 n2 = r) (h0 : r ≠ 0) (X Y : Int) (w : World) :
    Calls Try.prog 24 #[.agg #[.int .i64 W, .int .i64 H, .slice a n c], .agg #[.int .i64 W2, .int .i64 H2, .slice a2 n2 c2], .int .i64 X, .int .i64 Y] w (Fails w r) := by
  have hb : (r != 0) = true := by rw [bne_iff_ne]; exact h0
  have hb0 : ((0 : Int) != 0) = false := by decide
  obtain ⟨w1, hw1⟩ : ∃ w1, ((((w.alloc (.cells #[.int .i64 W, .int .i64 H, .slice a n c] 25)).alloc (.cells #[.int .i64 W2, .int .i64 H2, .slice a2 n2 c2] 25)).alloc (.cells #[.int .i64 X] 3)).alloc (.cells #[.int .i64 Y] 3)).alloc (.cells #[.int .i64 0, .int .i64 0, .slice none 0 0] 25) = w1 := ⟨_, rfl⟩
  have Q1 : Hid (Q w w1) := by rw [← hw1]; exact ((((((Q.refl w).cells _ _).cells _ _).cells _ _).cells _ _).cells _ _)
  have S1 : w1.heap.size = w.heap.size + 1 + 1 + 1 + 1 + 1 := by rw [← hw1]; simp
  have z00 : w1.cell? ⟨w.heap.size, 0, none⟩ = some (.int .i64 W) := by rw [← hw1]; simp [go_sem]
  have z01 : w1.cell? ⟨w.heap.size, 1, none⟩ = some (.int .i64 H) := by rw [← hw1]; simp [go_sem]
  have z02 : w1.cell? ⟨w.heap.size, 2, none⟩ = some (.slice a n c) := by rw [← hw1]; simp [go_sem]
  have z10 : w1.cell? ⟨w.heap.size + 1, 0, none⟩ = some (.int .i64 W2) := by rw [← hw1]; simp [go_sem]
  have z11 : w1.cell? ⟨w.heap.size + 1, 1, none⟩ = some (.int .i64 H2) := by rw [← hw1]; simp [go_sem]
  have z12 : w1.cell? ⟨w.heap.size + 1, 2, none⟩ = some (.slice a2 n2 c2) := by rw [← hw1]; simp [go_sem]
  have z20 : w1.cell? ⟨w.heap.size + 1 + 1, 0, none⟩ = some (.int .i64 X) := by rw [← hw1]; simp [go_sem]
  have z30 : w1.cell? ⟨w.heap.size + 1 + 1 + 1, 0, none⟩ = some (.int .i64 Y) := by rw [← hw1]; simp [go_sem]
  have z40 : w1.cell? ⟨w.heap.size + 1 + 1 + 1 + 1, 0, none⟩ = some (.int .i64 0) := by rw [← hw1]; simp [go_sem]
  have z41 : w1.cell? ⟨w.heap.size + 1 + 1 + 1 + 1, 1, none⟩ = some (.int .i64 0) := by rw [← hw1]; simp [go_sem]
  have z42 : w1.cell? ⟨w.heap.size + 1 + 1 + 1 + 1, 2, none⟩ = some (.slice none 0 0) := by rw [← hw1]; simp [go_sem]
  have yf : ∀ j, w1.frozen? ⟨w.heap.size + 1 + 1 + 1 + 1, j, none⟩ = false := fun j => by rw [← hw1]; simp [go_sem]
  have A := check_any W H a n c hn w1
  rw [hok] at A
  have B : ∀ w : World, Calls Try.prog 17 #[.agg #[.int .i64 W2, .int .i64 H2, .slice a2 n2 c2]] w fun e w' => e = .returned (.int .i64 r) ∧ Q w w' := fun w => hr ▸ check_any W2 H2 a2 n2 c2 hn2 w
  clear hr hn hn2 hok
  go_enter Try.func24, Try.ntmps24
  go_wp2_with fail
  refine A.mono ?_
  rintro e w2 ⟨rfl, q2⟩
  replace z00 := q2.cell z00
  replace z01 := q2.cell z01
  replace z02 := q2.cell z02
  replace z10 := q2.cell z10
  replace z11 := q2.cell z11
  replace z12 := q2.cell z12
  replace z20 := q2.cell z20
  replace z30 := q2.cell z30
  replace z40 := q2.cell z40
  replace z41 := q2.cell z41
  replace z42 := q2.cell z42
  have yg : ∀ j, w2.frozen? ⟨w.heap.size + 1 + 1 + 1 + 1, j, none⟩ = false := fun j => by rw [q2.2]; exact yf j
  clear hw1 A yf
  go_wp2_with fail
  refine (B _).mono ?_
  rintro e w3 ⟨rfl, q3⟩
  replace z00 := q3.cell z00
  replace z01 := q3.cell z01
  replace z02 := q3.cell z02
  replace z10 := q3.cell z10
  replace z11 := q3.cell z11
  replace z12 := q3.cell z12
  replace z20 := q3.cell z20
  replace z30 := q3.cell z30
  replace z40 := q3.cell z40
  replace z41 := q3.cell z41
  replace z42 := q3.cell z42
  have yk : ∀ j, w3.frozen? ⟨w.heap.size + 1 + 1 + 1 + 1, j, none⟩ = false := fun j => by rw [q3.2]; exact yg j
  clear B yg
  go_wp2_with fail
  refine bodyPost_ret (v := .tuple #[noPl, .int .i64 r]) (by simp [results, Try.results24, go_sem, noPl, z40, z41, z42]) rfl ⟨rfl, ?_⟩
  exact ((((Q1.out.trans q2).trans q3).put (by omega)).put (by omega)).put (by omega)
set_option maxHeartbeats 2000000 in
set_option maxRecDepth 100000 in
theorem paste_good {a b : Nat} (hs : Size a b) {S : List Nat} (hl : S.length = a * b) (g o cap : Nat) {c d : Nat} (hs' : Size c d) {T : List Nat} (hl' : T.length = c * d) (g' o' cap' : Nat) (X Y : Int) (w : World) (hu : UIs w g o S) (hu' : UIs w g' o' T) :
    Calls Try.prog 24 #[.agg #[.int .i64 (a : Int), .int .i64 (b : Int), .slice (some ⟨g, o, none⟩) S.length cap], .agg #[.int .i64 (c : Int), .int .i64 (d : Int), .slice (some ⟨g', o', none⟩) T.length cap'], .int .i64 X, .int .i64 Y] w (Made w a b (tab a b (pasV S a T c d X Y))) := by
  have hb : ((0 : Int) != 0) = false := by decide
  have hn : S.length ≤ 9223372036854775807 := by have := hs.ab; omega
  have hn' : T.length ≤ 9223372036854775807 := by have := hs'.ab; omega
  obtain ⟨w1, hw1⟩ : ∃ w1, ((((w.alloc (.cells #[.int .i64 (a : Int), .int .i64 (b : Int), .slice (some ⟨g, o, none⟩) S.length cap] 25)).alloc (.cells #[.int .i64 (c : Int), .int .i64 (d : Int), .slice (some ⟨g', o', none⟩) T.length cap'] 25)).alloc (.cells #[.int .i64 X] 3)).alloc (.cells #[.int .i64 Y] 3)).alloc (.cells #[.int .i64 0, .int .i64 0, .slice none 0 0] 25) = w1 := ⟨_, rfl⟩
  have Q1 : Hid (Q w w1) := by rw [← hw1]; exact ((((((Q.refl w).cells _ _).cells _ _).cells _ _).cells _ _).cells _ _)
  have S1 : w1.heap.size = w.heap.size + 1 + 1 + 1 + 1 + 1 := by rw [← hw1]; simp
  have z00 : w1.cell? ⟨w.heap.size, 0, none⟩ = some (.int .i64 (a : Int)) := by rw [← hw1]; simp [go_sem]
  have z01 : w1.cell? ⟨w.heap.size, 1, none⟩ = some (.int .i64 (b : Int)) := by rw [← hw1]; simp [go_sem]
  have z02 : w1.cell? ⟨w.heap.size, 2, none⟩ = some (.slice (some ⟨g, o, none⟩) S.length cap) := by rw [← hw1]; simp [go_sem]
  have z10 : w1.cell? ⟨w.heap.size + 1, 0, none⟩ = some (.int .i64 (c : Int)) := by rw [← hw1]; simp [go_sem]
  have z11 : w1.cell? ⟨w.heap.size + 1, 1, none⟩ = some (.int .i64 (d : Int)) := by rw [← hw1]; simp [go_sem]
  have z12 : w1.cell? ⟨w.heap.size + 1, 2, none⟩ = some (.slice (some ⟨g', o', none⟩) T.length cap') := by rw [← hw1]; simp [go_sem]
  have z20 : w1.cell? ⟨w.heap.size + 1 + 1, 0, none⟩ = some (.int .i64 X) := by rw [← hw1]; simp [go_sem]
  have z30 : w1.cell? ⟨w.heap.size + 1 + 1 + 1, 0, none⟩ = some (.int .i64 Y) := by rw [← hw1]; simp [go_sem]
  have z40 : w1.cell? ⟨w.heap.size + 1 + 1 + 1 + 1, 0, none⟩ = some (.int .i64 0) := by rw [← hw1]; simp [go_sem]
  have z41 : w1.cell? ⟨w.heap.size + 1 + 1 + 1 + 1, 1, none⟩ = some (.int .i64 0) := by rw [← hw1]; simp [go_sem]
  have z42 : w1.cell? ⟨w.heap.size + 1 + 1 + 1 + 1, 2, none⟩ = some (.slice none 0 0) := by rw [← hw1]; simp [go_sem]
  have yf : ∀ j, w1.frozen? ⟨w.heap.size + 1 + 1 + 1 + 1, j, none⟩ = false := fun j => by rw [← hw1]; simp [go_sem]
  have A := check_any (a : Int) (b : Int) (some ⟨g, o, none⟩) S.length cap hn w1
  rw [show chk (a : Int) (b : Int) S.length = 0 by rw [hl]; exact chk_size hs] at A
  have hz : chk (c : Int) (d : Int) T.length = 0 := by rw [hl']; exact chk_size hs'
  have B : ∀ w : World, Calls Try.prog 17 #[.agg #[.int .i64 (c : Int), .int .i64 (d : Int), .slice (some ⟨g', o', none⟩) T.length cap']] w fun e w' => e = .returned (.int .i64 0) ∧ Q w w' := fun w => hz ▸ check_any (c : Int) (d : Int) (some ⟨g', o', none⟩) T.length cap' hn' w
  have HS : Hid (Size a b) := hs
  have HL : Hid (S.length = a * b) := hl
  have HU : Hid (UIs w g o S) := hu
  have HS' : Hid (Size c d) := hs'
  have HL' : Hid (T.length = c * d) := hl'
  have HU' : Hid (UIs w g' o' T) := hu'
  clear hs hl hu hn hs' hl' hu' hn' hz
  go_enter Try.func24, Try.ntmps24
  go_wp2_with fail
  refine A.mono ?_
  rintro e w2 ⟨rfl, q2⟩
  replace z00 := q2.cell z00
  replace z01 := q2.cell z01
  replace z02 := q2.cell z02
  replace z10 := q2.cell z10
  replace z11 := q2.cell z11
  replace z12 := q2.cell z12
  replace z20 := q2.cell z20
  replace z30 := q2.cell z30
  replace z40 := q2.cell z40
  replace z41 := q2.cell z41
  replace z42 := q2.cell z42
  have yg : ∀ j, w2.frozen? ⟨w.heap.size + 1 + 1 + 1 + 1, j, none⟩ = false := fun j => by rw [q2.2]; exact yf j
  clear hw1 A yf
  go_wp2_with fail
  refine (B _).mono ?_
  rintro e w3 ⟨rfl, q3⟩
  replace z00 := q3.cell z00
  replace z01 := q3.cell z01
  replace z02 := q3.cell z02
  replace z10 := q3.cell z10
  replace z11 := q3.cell z11
  replace z12 := q3.cell z12
  replace z20 := q3.cell z20
  replace z30 := q3.cell z30
  replace z40 := q3.cell z40
  replace z41 := q3.cell z41
  replace z42 := q3.cell z42
  have yk : ∀ j, w3.frozen? ⟨w.heap.size + 1 + 1 + 1 + 1, j, none⟩ = false := fun j => by rw [q3.2]; exact yg j
  have q23 := (Q1.out.trans q2).trans q3
  clear B yg
  go_wp2_with fail
  refine (lay_any a b HS.out 53 #[.pointer (some ⟨w.heap.size + 1 + 1, 0, none⟩), .pointer (some ⟨w.heap.size + 1, 0, none⟩), .pointer (some ⟨w.heap.size + 1 + 1 + 1, 0, none⟩), .pointer (some ⟨w.heap.size, 0, none⟩)] (enters_of Try.func53 (by kernel_rfl) rfl) (pasV S a T c d X Y) w3 ?_).mono ?_
  · intro x y w' hx hy hq
    exact paste1_any HS.out HL.out HS'.out HL'.out hx hy (PBox.next ⟨z00, z01, z02⟩ hq) (HU.out.next (q23.trans hq)) (PBox.next ⟨z10, z11, z12⟩ hq) (HU'.out.next (q23.trans hq)) (hq.cell z20) (hq.cell z30)
  rintro e w4 ⟨g3, rfl, O3⟩
  have q4 := O3.q
  replace z40 := q4.cell z40
  replace z41 := q4.cell z41
  replace z42 := q4.cell z42
  have yh : ∀ j, w4.frozen? ⟨w.heap.size + 1 + 1 + 1 + 1, j, none⟩ = false := fun j => by rw [q4.2]; exact yk j
  have hg : g3 ≠ w.heap.size + 1 + 1 + 1 + 1 := by
    have h1 := O3.new
    have h2 := q2.1.size
    have h3 := q3.1.size
    omega
  have HO : Hid (Own w w4 g3 (tab a b (pasV S a T c d X Y))) := O3.base q23
  clear O3 q4 yk
  go_wp2_with fail
  refine bodyPost_ret (v := .tuple #[.agg #[.int .i64 (a : Int), .int .i64 (b : Int), .slice (some ⟨g3, 0, none⟩) (a * b) (a * b)], .int .i64 0]) (by simp [results, Try.results24, go_sem, z40, z41, z42]) rfl ⟨g3, rfl, ?_⟩
  exact ((HO.out.set (by omega) (fun e => hg e.symm)).set (by omega) (fun e => hg e.symm)).set (by omega) (fun e => hg e.symm)

/-- Turned by quarters: its size, and where its samples come from. -/
def tuA (q : Nat) (a b : Nat) : Nat := if q = 1 ∨ q = 3 then b else a
def tuB (q : Nat) (a b : Nat) : Nat := if q = 1 ∨ q = 3 then a else b
def tuV (q : Nat) (S : List Nat) (a b : Nat) (x y : Nat) : Nat := if q = 1 then smp S a y (b - 1 - x) else if q = 2 then smp S a (a - 1 - x) (b - 1 - y) else if q = 3 then smp S a (a - 1 - y) x else smp S a x y
def tuF (q : Nat) : Nat := if q = 1 then 68 else if q = 2 then 69 else if q = 3 then 70 else 71
theorem tu_size {q a b : Nat} (h : Size a b) : Size (tuA q a b) (tuB q a b) := by
  unfold tuA tuB
  split
  · exact h.swap
  · exact h
theorem tuF_enters (q : Nat) : ∀ (args : Array Value) (w : World), (callFunc (tuF q) args).run Try.prog w = .ok (.enter (tuF q) args) w := by
  unfold tuF
  split
  · exact enters_of Try.func68 (by kernel_rfl) rfl
  · split
    · exact enters_of Try.func69 (by kernel_rfl) rfl
    · split
      · exact enters_of Try.func70 (by kernel_rfl) rfl
      · exact enters_of Try.func71 (by kernel_rfl) rfl
theorem tuF_any {q : Nat} {a b : Nat} (hs : Size a b) {S : List Nat} (hl : S.length = a * b) {g o cap B : Nat} {x y : Nat} (hx : x < tuA q a b) (hy : y < tuB q a b) {w : World} (hB : PBox w B a b (.slice (some ⟨g, o, none⟩) S.length cap)) (hu : UIs w g o S) :
    Calls Try.prog (tuF q) #[.int .i64 (x : Int), .int .i64 (y : Int), .pointer (some ⟨B, 0, none⟩)] w fun e w' => e = .returned (.int .u32 (tuV q S a b x y : Nat)) ∧ Q w w' := by
  unfold tuA at hx
  unfold tuB at hy
  unfold tuF tuV
  by_cases h1 : q = 1
  · rw [if_pos (Or.inl h1)] at hx hy
    rw [if_pos h1, if_pos h1]
    exact turn1_any hs hl hx hy hB hu
  · rw [if_neg h1, if_neg h1]
    by_cases h2 : q = 2
    · rw [if_neg (by omega)] at hx hy
      rw [if_pos h2, if_pos h2]
      exact turn2_any hs hl hx hy hB hu
    · rw [if_neg h2, if_neg h2]
      by_cases h3 : q = 3
      · rw [if_pos (Or.inr h3)] at hx hy
        rw [if_pos h3, if_pos h3]
        exact turn3_any hs hl hx hy hB hu
      · rw [if_neg (by omega)] at hx hy
        rw [if_neg h3, if_neg h3]
        exact turn4_any hs hl hx hy hB hu
set_option maxHeartbeats 2000000 in
set_option maxRecDepth 100000 in
theorem turned_any (q : Nat) (hq : q < 4) (a b : Nat) (g o cap : Nat) (S : List Nat) (w : World) :
    Calls Try.prog 60 #[.agg #[.int .i64 (a : Int), .int .i64 (b : Int), .slice (some ⟨g, o, none⟩) S.length cap], .int .i64 (q : Int)] w fun e w' => e = .returned (.agg #[.int .i64 ((tuA q a b : Nat) : Int), .int .i64 ((tuB q a b : Nat) : Int), .func (.func (tuF q)) #[] #[.pointer (some ⟨w.heap.size, 0, none⟩)]]) ∧ Q w w' ∧ PBox w' w.heap.size a b (.slice (some ⟨g, o, none⟩) S.length cap) := by
  obtain ⟨w1, hw1⟩ : ∃ w1, (w.alloc (.cells #[.int .i64 (a : Int), .int .i64 (b : Int), .slice (some ⟨g, o, none⟩) S.length cap] 25)).alloc (.cells #[.int .i64 0, .int .i64 0, .nilFunc] 85) = w1 := ⟨_, rfl⟩
  have Q1 : Hid (Q w w1) := by rw [← hw1]; exact (((Q.refl w).cells _ _).cells _ _)
  have S1 : w1.heap.size = w.heap.size + 1 + 1 := by rw [← hw1]; simp
  have z00 : w1.cell? ⟨w.heap.size, 0, none⟩ = some (.int .i64 (a : Int)) := by rw [← hw1]; simp [go_sem]
  have z01 : w1.cell? ⟨w.heap.size, 1, none⟩ = some (.int .i64 (b : Int)) := by rw [← hw1]; simp [go_sem]
  have z02 : w1.cell? ⟨w.heap.size, 2, none⟩ = some (.slice (some ⟨g, o, none⟩) S.length cap) := by rw [← hw1]; simp [go_sem]
  have z10 : w1.cell? ⟨w.heap.size + 1, 0, none⟩ = some (.int .i64 0) := by rw [← hw1]; simp [go_sem]
  have z11 : w1.cell? ⟨w.heap.size + 1, 1, none⟩ = some (.int .i64 0) := by rw [← hw1]; simp [go_sem]
  have z12 : w1.cell? ⟨w.heap.size + 1, 2, none⟩ = some (.nilFunc) := by rw [← hw1]; simp [go_sem]
  have yf : ∀ j, w1.frozen? ⟨w.heap.size + 1, j, none⟩ = false := fun j => by rw [← hw1]; simp [go_sem]
  obtain rfl | rfl | rfl | rfl : q = 0 ∨ q = 1 ∨ q = 2 ∨ q = 3 := by omega
  · go_enter Try.func60, Try.ntmps60
    go_wp2_with fail
    refine bodyPost_ret (v := .agg #[.int .i64 ((tuA 0 a b : Nat) : Int), .int .i64 ((tuB 0 a b : Nat) : Int), .func (.func (tuF 0)) #[] #[.pointer (some ⟨w.heap.size, 0, none⟩)]]) (by simp [results, Try.results60, go_sem, tuA, tuB, tuF, z10, z11, z12]) rfl ⟨rfl, ?_, ⟨?_, ?_, ?_⟩⟩
    · exact ((Q1.out.put (by omega)).put (by omega)).put (by omega)
    all_goals (rw [World.cell?_setCell_other _ _ _ _ (by simp), World.cell?_setCell_other _ _ _ _ (by simp), World.cell?_setCell_other _ _ _ _ (by simp)]; assumption)
  · go_enter Try.func60, Try.ntmps60
    go_wp2_with fail
    refine bodyPost_ret (v := .agg #[.int .i64 ((tuA 1 a b : Nat) : Int), .int .i64 ((tuB 1 a b : Nat) : Int), .func (.func (tuF 1)) #[] #[.pointer (some ⟨w.heap.size, 0, none⟩)]]) (by simp [results, Try.results60, go_sem, tuA, tuB, tuF, z10, z11, z12]) rfl ⟨rfl, ?_, ⟨?_, ?_, ?_⟩⟩
    · exact ((Q1.out.put (by omega)).put (by omega)).put (by omega)
    all_goals (rw [World.cell?_setCell_other _ _ _ _ (by simp), World.cell?_setCell_other _ _ _ _ (by simp), World.cell?_setCell_other _ _ _ _ (by simp)]; assumption)
  · go_enter Try.func60, Try.ntmps60
    go_wp2_with fail
    refine bodyPost_ret (v := .agg #[.int .i64 ((tuA 2 a b : Nat) : Int), .int .i64 ((tuB 2 a b : Nat) : Int), .func (.func (tuF 2)) #[] #[.pointer (some ⟨w.heap.size, 0, none⟩)]]) (by simp [results, Try.results60, go_sem, tuA, tuB, tuF, z10, z11, z12]) rfl ⟨rfl, ?_, ⟨?_, ?_, ?_⟩⟩
    · exact ((Q1.out.put (by omega)).put (by omega)).put (by omega)
    all_goals (rw [World.cell?_setCell_other _ _ _ _ (by simp), World.cell?_setCell_other _ _ _ _ (by simp), World.cell?_setCell_other _ _ _ _ (by simp)]; assumption)
  · go_enter Try.func60, Try.ntmps60
    go_wp2_with fail
    refine bodyPost_ret (v := .agg #[.int .i64 ((tuA 3 a b : Nat) : Int), .int .i64 ((tuB 3 a b : Nat) : Int), .func (.func (tuF 3)) #[] #[.pointer (some ⟨w.heap.size, 0, none⟩)]]) (by simp [results, Try.results60, go_sem, tuA, tuB, tuF, z10, z11, z12]) rfl ⟨rfl, ?_, ⟨?_, ?_, ?_⟩⟩
    · exact ((Q1.out.put (by omega)).put (by omega)).put (by omega)
    all_goals (rw [World.cell?_setCell_other _ _ _ _ (by simp), World.cell?_setCell_other _ _ _ _ (by simp), World.cell?_setCell_other _ _ _ _ (by simp)]; assumption)
end Go.Proofs.Ytkgfohodahkmmaa

/- Planes made and moved: the program's New, Get, Crop, Paste. -/
import Derived.Test.YtlelgifdnhnphaaGb26ba224
namespace Go.Proofs.Ytlelgifdnhnphaa
open Go.RowKit
set_option linter.unusedVariables false
set_option linter.unusedSimpArgs false

/-- A rectangle within a plane. -/
structure Rct (a b x0 y0 c d : Nat) : Prop where
  c1 : 1 ≤ c
  c2 : x0 + c ≤ a
  d1 : 1 ≤ d
  d2 : y0 + d ≤ b
theorem Rct.size {a b x0 y0 c d : Nat} (h : Rct a b x0 y0 c d) (hs : Size a b) : Size c d := by
  have := h.c1; have := h.c2; have := h.d1; have := h.d2; have := hs.a2; have := hs.b2
  refine ⟨by omega, by omega, by omega, by omega, Nat.le_trans (Nat.mul_le_mul (by omega) (by omega)) hs.ab⟩
def wiB (x0 y0 x1 y1 a b : Int) : Bool := decide (0 ≤ x0) && (decide (x0 < x1) && (decide (x1 ≤ a) && (decide (0 ≤ y0) && (decide (y0 < y1) && decide (y1 ≤ b)))))
theorem wiB_true {x0 y0 x1 y1 : Int} {a b : Nat} : wiB x0 y0 x1 y1 a b = true ↔ ∃ X Y c d : Nat, x0 = X ∧ y0 = Y ∧ x1 = (X + c : Nat) ∧ y1 = (Y + d : Nat) ∧ Rct a b X Y c d := by
  unfold wiB
  simp only [Bool.and_eq_true, decide_eq_true_eq]
  constructor
  · rintro ⟨h1, h2, h3, h4, h5, h6⟩
    exact ⟨x0.toNat, y0.toNat, (x1 - x0).toNat, (y1 - y0).toNat, by omega, by omega, by omega, by omega, by omega, by omega, by omega, by omega⟩
  · rintro ⟨X, Y, c, d, rfl, rfl, rfl, rfl, h1, h2, h3, h4⟩
    omega
set_option maxHeartbeats 2000000 in
set_option maxRecDepth 100000 in
theorem isWithin_any (x0 y0 x1 y1 a b : Int) (w : World) : Calls Try.prog 70 #[.agg #[.int .i64 x0, .int .i64 y0, .int .i64 x1, .int .i64 y1], .int .i64 a, .int .i64 b] w fun e w' => e = .returned (.bool (wiB x0 y0 x1 y1 a b)) ∧ Q w w' := by
  have Q0 : Hid (∀ c t, Q w (w.alloc (.cells c t))) := fun c t => (Q.refl w).cells c t
  unfold wiB
  by_cases h1 : 0 ≤ x0
  · by_cases h2 : x0 < x1
    · by_cases h3 : x1 ≤ a
      · by_cases h4 : 0 ≤ y0
        · by_cases h5 : y0 < y1
          · have e : (decide (0 ≤ x0) && (decide (x0 < x1) && (decide (x1 ≤ a) && (decide (0 ≤ y0) && (decide (y0 < y1) && decide (y1 ≤ b)))))) = decide (y1 ≤ b) := by simp [h1, h2, h3, h4, h5]
            rw [e]
            clear e
            by_cases h6 : y1 ≤ b
            · rw [decide_eq_true h6]
              go_enter Try.func70, Try.ntmps70
              go_wp2_with fail
              go_ret
              exact ⟨rfl, Q0.out _ _⟩
            · rw [decide_eq_false h6]
              have h7 : decide (y1 ≤ b) = false := decide_eq_false h6
              go_enter Try.func70, Try.ntmps70
              go_wp2_with fail
              go_ret
              exact ⟨rfl, Q0.out _ _⟩
          · have e : (decide (0 ≤ x0) && (decide (x0 < x1) && (decide (x1 ≤ a) && (decide (0 ≤ y0) && (decide (y0 < y1) && decide (y1 ≤ b)))))) = false := by simp [h5]
            rw [e]
            clear e
            have h7 : decide (y0 < y1) = false := decide_eq_false h5
            go_enter Try.func70, Try.ntmps70
            go_wp2_with fail
            go_ret
            exact ⟨rfl, Q0.out _ _⟩
        · have e : (decide (0 ≤ x0) && (decide (x0 < x1) && (decide (x1 ≤ a) && (decide (0 ≤ y0) && (decide (y0 < y1) && decide (y1 ≤ b)))))) = false := by simp [h4]
          rw [e]
          clear e
          have h7 : decide (0 ≤ y0) = false := decide_eq_false h4
          go_enter Try.func70, Try.ntmps70
          go_wp2_with fail
          go_ret
          exact ⟨rfl, Q0.out _ _⟩
      · have e : (decide (0 ≤ x0) && (decide (x0 < x1) && (decide (x1 ≤ a) && (decide (0 ≤ y0) && (decide (y0 < y1) && decide (y1 ≤ b)))))) = false := by simp [h3]
        rw [e]
        clear e
        have h7 : decide (x1 ≤ a) = false := decide_eq_false h3
        go_enter Try.func70, Try.ntmps70
        go_wp2_with fail
        go_ret
        exact ⟨rfl, Q0.out _ _⟩
    · have e : (decide (0 ≤ x0) && (decide (x0 < x1) && (decide (x1 ≤ a) && (decide (0 ≤ y0) && (decide (y0 < y1) && decide (y1 ≤ b)))))) = false := by simp [h2]
      rw [e]
      clear e
      have h7 : decide (x0 < x1) = false := decide_eq_false h2
      go_enter Try.func70, Try.ntmps70
      go_wp2_with fail
      go_ret
      exact ⟨rfl, Q0.out _ _⟩
  · have e : (decide (0 ≤ x0) && (decide (x0 < x1) && (decide (x1 ≤ a) && (decide (0 ≤ y0) && (decide (y0 < y1) && decide (y1 ≤ b)))))) = false := by simp [h1]
    rw [e]
    clear e
    have h7 : decide (0 ≤ x0) = false := decide_eq_false h1
    go_enter Try.func70, Try.ntmps70
    go_wp2_with fail
    go_ret
    exact ⟨rfl, Q0.out _ _⟩

set_option maxHeartbeats 2000000 in
set_option maxRecDepth 100000 in
theorem crop_good {a b : Nat} (hs : Size a b) {S : List Nat} (hl : S.length = a * b) (g o cap : Nat) {x0 y0 c d : Nat} (hr : Rct a b x0 y0 c d) (XX YY : Int) (hXX : XX = (x0 + c : Nat)) (hYY : YY = (y0 + d : Nat)) (w : World) (hu : UIs w g o S) :
    Calls Try.prog 51 #[.agg #[.int .i64 (a : Int), .int .i64 (b : Int), .slice (some ⟨g, o, none⟩) S.length cap], .agg #[.int .i64 (x0 : Int), .int .i64 (y0 : Int), .int .i64 XX, .int .i64 YY]] w (Made w c d (tab c d (fun x y => smp S a (x0 + x) (y0 + y)))) := by
  have hb : ((0 : Int) != 0) = false := by decide
  have hn : S.length ≤ 9223372036854775807 := by have := hs.ab; omega
  obtain ⟨w1, hw1⟩ : ∃ w1, ((w.alloc (.cells #[.int .i64 (a : Int), .int .i64 (b : Int), .slice (some ⟨g, o, none⟩) S.length cap] 27)).alloc (.cells #[.int .i64 (x0 : Int), .int .i64 (y0 : Int), .int .i64 XX, .int .i64 YY] 64)).alloc (.cells #[.int .i64 0, .int .i64 0, .slice none 0 0] 27) = w1 := ⟨_, rfl⟩
  have Q1 : Hid (Q w w1) := by rw [← hw1]; exact ((((Q.refl w).cells _ _).cells _ _).cells _ _)
  have S1 : w1.heap.size = w.heap.size + 1 + 1 + 1 := by rw [← hw1]; simp
  have z00 : w1.cell? ⟨w.heap.size, 0, none⟩ = some (.int .i64 (a : Int)) := by rw [← hw1]; simp [go_sem]
  have z01 : w1.cell? ⟨w.heap.size, 1, none⟩ = some (.int .i64 (b : Int)) := by rw [← hw1]; simp [go_sem]
  have z02 : w1.cell? ⟨w.heap.size, 2, none⟩ = some (.slice (some ⟨g, o, none⟩) S.length cap) := by rw [← hw1]; simp [go_sem]
  have z10 : w1.cell? ⟨w.heap.size + 1, 0, none⟩ = some (.int .i64 (x0 : Int)) := by rw [← hw1]; simp [go_sem]
  have z11 : w1.cell? ⟨w.heap.size + 1, 1, none⟩ = some (.int .i64 (y0 : Int)) := by rw [← hw1]; simp [go_sem]
  have z12 : w1.cell? ⟨w.heap.size + 1, 2, none⟩ = some (.int .i64 XX) := by rw [← hw1]; simp [go_sem]
  have z13 : w1.cell? ⟨w.heap.size + 1, 3, none⟩ = some (.int .i64 YY) := by rw [← hw1]; simp [go_sem]
  have z20 : w1.cell? ⟨w.heap.size + 1 + 1, 0, none⟩ = some (.int .i64 0) := by rw [← hw1]; simp [go_sem]
  have z21 : w1.cell? ⟨w.heap.size + 1 + 1, 1, none⟩ = some (.int .i64 0) := by rw [← hw1]; simp [go_sem]
  have z22 : w1.cell? ⟨w.heap.size + 1 + 1, 2, none⟩ = some (.slice none 0 0) := by rw [← hw1]; simp [go_sem]
  have yf : ∀ j, w1.frozen? ⟨w.heap.size + 1 + 1, j, none⟩ = false := fun j => by rw [← hw1]; simp [go_sem]
  have A := check_any (a : Int) (b : Int) (some ⟨g, o, none⟩) S.length cap hn w1
  rw [show chk (a : Int) (b : Int) S.length = 0 by rw [hl]; exact chk_size hs] at A
  have HS : Hid (Size a b) := hs
  have HL : Hid (S.length = a * b) := hl
  have HU : Hid (UIs w g o S) := hu
  clear hs hl hu hn
  have B : ∀ w : World, Calls Try.prog 70 #[.agg #[.int .i64 (x0 : Int), .int .i64 (y0 : Int), .int .i64 XX, .int .i64 YY], .int .i64 (a : Int), .int .i64 (b : Int)] w fun e w' => e = .returned (.bool true) ∧ Q w w' := fun w => by
    have := isWithin_any (x0 : Int) (y0 : Int) XX YY (a : Int) (b : Int) w
    rw [wiB_true.2 ⟨x0, y0, c, d, rfl, rfl, hXX, hYY, hr⟩] at this
    exact this
  have HR : Hid (Rct a b x0 y0 c d) := hr
  have a2 := HS.out.a2
  have b2 := HS.out.b2
  have r2 := hr.c2
  have r4 := hr.d2
  have e1 : XX - (x0 : Int) = (c : Int) := by omega
  have e2 : YY - (y0 : Int) = (d : Int) := by omega
  clear hr hXX hYY
  go_enter Try.func51, Try.ntmps51
  go_wp2_with fail
  refine A.mono ?_
  rintro e w2 ⟨rfl, q2⟩
  replace z00 := q2.cell z00
  replace z01 := q2.cell z01
  replace z02 := q2.cell z02
  replace z10 := q2.cell z10
  replace z11 := q2.cell z11
  replace z12 := q2.cell z12
  replace z13 := q2.cell z13
  replace z20 := q2.cell z20
  replace z21 := q2.cell z21
  replace z22 := q2.cell z22
  have yg : ∀ j, w2.frozen? ⟨w.heap.size + 1 + 1, j, none⟩ = false := fun j => by rw [q2.2]; exact yf j
  clear hw1 A yf
  go_wp2_with fail
  refine (B _).mono ?_
  rintro e w3 ⟨rfl, q3⟩
  have t00 := q3.cell z00
  have t01 := q3.cell z01
  have t02 := q3.cell z02
  have t10 := q3.cell z10
  have t11 := q3.cell z11
  have t12 := q3.cell z12
  have t13 := q3.cell z13
  have t20 := q3.cell z20
  have t21 := q3.cell z21
  have t22 := q3.cell z22
  have yk : ∀ j, w3.frozen? ⟨w.heap.size + 1 + 1, j, none⟩ = false := fun j => by rw [q3.2]; exact yg j
  go_wp2_with fail
  refine (lay_any c d (HR.out.size HS.out) 71 #[.pointer (some ⟨w.heap.size, 0, none⟩), .pointer (some ⟨w.heap.size + 1, 0, none⟩)] (enters_of Try.func71 (by kernel_rfl) rfl) (fun x y => smp S a (x0 + x) (y0 + y)) w3 ?_).mono ?_
  · intro x y w' hx hy hq
    exact crop1_any HS.out HL.out (by have := HR.out.c2; omega) (by have := HR.out.d2; omega) (PlBox.next ⟨z00, z01, z02⟩ (q3.trans hq)) (HU.out.next (((Q1.out.trans q2).trans q3).trans hq)) ((q3.trans hq).cell z10) ((q3.trans hq).cell z11)
  rintro e w4 ⟨g3, rfl, O3⟩
  have q4 := O3.q
  replace z20 := q4.cell t20
  replace z21 := q4.cell t21
  replace z22 := q4.cell t22
  have yh : ∀ j, w4.frozen? ⟨w.heap.size + 1 + 1, j, none⟩ = false := fun j => by rw [q4.2]; exact yk j
  have hg : g3 ≠ w.heap.size + 1 + 1 := by
    have h1 := O3.new
    have h2 := q2.1.size
    have h3 := q3.1.size
    omega
  have HO : Hid (Own w w4 g3 (tab c d (fun x y => smp S a (x0 + x) (y0 + y)))) := O3.base ((Q1.out.trans q2).trans q3)
  clear O3 q4 yg yk t00 t01 t02 t10 t11 t12 t13 t20 t21 t22
  go_wp2_with fail
  refine bodyPost_ret (v := .tuple #[.agg #[.int .i64 ((c : Nat) : Int), .int .i64 ((d : Nat) : Int), .slice (some ⟨g3, 0, none⟩) (c * d) (c * d)], .int .i64 0]) (by simp [results, Try.results51, go_sem, z20, z21, z22]) rfl ⟨g3, rfl, ?_⟩
  exact ((HO.out.set (by omega) (fun e => hg e.symm)).set (by omega) (fun e => hg e.symm)).set (by omega) (fun e => hg e.symm)
set_option maxHeartbeats 1000000 in
set_option maxRecDepth 100000 in
theorem crop_out {a b : Nat} (hs : Size a b) {S : List Nat} (hl : S.length = a * b) (g o cap : Nat) (x0 y0 x1 y1 : Int) (hr : wiB x0 y0 x1 y1 a b = false) (w : World) :
    Calls Try.prog 51 #[.agg #[.int .i64 (a : Int), .int .i64 (b : Int), .slice (some ⟨g, o, none⟩) S.length cap], .agg #[.int .i64 x0, .int .i64 y0, .int .i64 x1, .int .i64 y1]] w (Fails w 52) := by
  have hb : ((0 : Int) != 0) = false := by decide
  have hn : S.length ≤ 9223372036854775807 := by have := hs.ab; omega
  obtain ⟨w1, hw1⟩ : ∃ w1, ((w.alloc (.cells #[.int .i64 (a : Int), .int .i64 (b : Int), .slice (some ⟨g, o, none⟩) S.length cap] 27)).alloc (.cells #[.int .i64 x0, .int .i64 y0, .int .i64 x1, .int .i64 y1] 64)).alloc (.cells #[.int .i64 0, .int .i64 0, .slice none 0 0] 27) = w1 := ⟨_, rfl⟩
  have Q1 : Hid (Q w w1) := by rw [← hw1]; exact ((((Q.refl w).cells _ _).cells _ _).cells _ _)
  have S1 : w1.heap.size = w.heap.size + 1 + 1 + 1 := by rw [← hw1]; simp
  have z00 : w1.cell? ⟨w.heap.size, 0, none⟩ = some (.int .i64 (a : Int)) := by rw [← hw1]; simp [go_sem]
  have z01 : w1.cell? ⟨w.heap.size, 1, none⟩ = some (.int .i64 (b : Int)) := by rw [← hw1]; simp [go_sem]
  have z02 : w1.cell? ⟨w.heap.size, 2, none⟩ = some (.slice (some ⟨g, o, none⟩) S.length cap) := by rw [← hw1]; simp [go_sem]
  have z10 : w1.cell? ⟨w.heap.size + 1, 0, none⟩ = some (.int .i64 x0) := by rw [← hw1]; simp [go_sem]
  have z11 : w1.cell? ⟨w.heap.size + 1, 1, none⟩ = some (.int .i64 y0) := by rw [← hw1]; simp [go_sem]
  have z12 : w1.cell? ⟨w.heap.size + 1, 2, none⟩ = some (.int .i64 x1) := by rw [← hw1]; simp [go_sem]
  have z13 : w1.cell? ⟨w.heap.size + 1, 3, none⟩ = some (.int .i64 y1) := by rw [← hw1]; simp [go_sem]
  have z20 : w1.cell? ⟨w.heap.size + 1 + 1, 0, none⟩ = some (.int .i64 0) := by rw [← hw1]; simp [go_sem]
  have z21 : w1.cell? ⟨w.heap.size + 1 + 1, 1, none⟩ = some (.int .i64 0) := by rw [← hw1]; simp [go_sem]
  have z22 : w1.cell? ⟨w.heap.size + 1 + 1, 2, none⟩ = some (.slice none 0 0) := by rw [← hw1]; simp [go_sem]
  have yf : ∀ j, w1.frozen? ⟨w.heap.size + 1 + 1, j, none⟩ = false := fun j => by rw [← hw1]; simp [go_sem]
  have A := check_any (a : Int) (b : Int) (some ⟨g, o, none⟩) S.length cap hn w1
  rw [show chk (a : Int) (b : Int) S.length = 0 by rw [hl]; exact chk_size hs] at A
  have B : ∀ w : World, Calls Try.prog 70 #[.agg #[.int .i64 x0, .int .i64 y0, .int .i64 x1, .int .i64 y1], .int .i64 (a : Int), .int .i64 (b : Int)] w fun e w' => e = .returned (.bool false) ∧ Q w w' := fun w => by
    have := isWithin_any x0 y0 x1 y1 (a : Int) (b : Int) w
    rw [hr] at this
    exact this
  clear hs hl hn hr
  go_enter Try.func51, Try.ntmps51
  go_wp2_with fail
  refine A.mono ?_
  rintro e w2 ⟨rfl, q2⟩
  replace z00 := q2.cell z00
  replace z01 := q2.cell z01
  replace z02 := q2.cell z02
  replace z10 := q2.cell z10
  replace z11 := q2.cell z11
  replace z12 := q2.cell z12
  replace z13 := q2.cell z13
  replace z20 := q2.cell z20
  replace z21 := q2.cell z21
  replace z22 := q2.cell z22
  have yg : ∀ j, w2.frozen? ⟨w.heap.size + 1 + 1, j, none⟩ = false := fun j => by rw [q2.2]; exact yf j
  clear hw1 A yf
  go_wp2_with fail
  refine (B _).mono ?_
  rintro e w3 ⟨rfl, q3⟩
  replace z00 := q3.cell z00
  replace z01 := q3.cell z01
  replace z02 := q3.cell z02
  replace z10 := q3.cell z10
  replace z11 := q3.cell z11
  replace z12 := q3.cell z12
  replace z13 := q3.cell z13
  replace z20 := q3.cell z20
  replace z21 := q3.cell z21
  replace z22 := q3.cell z22
  have yk : ∀ j, w3.frozen? ⟨w.heap.size + 1 + 1, j, none⟩ = false := fun j => by rw [q3.2]; exact yg j
  clear B yg
  go_wp2_with fail
  refine bodyPost_ret (v := .tuple #[noPl, .int .i64 52]) (by simp [results, Try.results51, go_sem, noPl, z20, z21, z22]) rfl ⟨rfl, ?_⟩
  exact ((((Q1.out.trans q2).trans q3).put (by omega)).put (by omega)).put (by omega)
set_option maxHeartbeats 1000000 in
set_option maxRecDepth 100000 in
theorem new_bad (W H : Int) (hr : sizeB W H = false) (s : Nat) (w : World) :
    Calls Try.prog 35 #[.int .i64 W, .int .i64 H, .int .u32 (s : Int)] w (Fails w 50) := by
  obtain ⟨w1, hw1⟩ : ∃ w1, (w.alloc (.cells #[.int .u32 (s : Int)] 28)).alloc (.cells #[.int .i64 0, .int .i64 0, .slice none 0 0] 27) = w1 := ⟨_, rfl⟩
  have Q1 : Hid (Q w w1) := by rw [← hw1]; exact (((Q.refl w).cells _ _).cells _ _)
  have S1 : w1.heap.size = w.heap.size + 1 + 1 := by rw [← hw1]; simp
  have z00 : w1.cell? ⟨w.heap.size, 0, none⟩ = some (.int .u32 (s : Int)) := by rw [← hw1]; simp [go_sem]
  have z10 : w1.cell? ⟨w.heap.size + 1, 0, none⟩ = some (.int .i64 0) := by rw [← hw1]; simp [go_sem]
  have z11 : w1.cell? ⟨w.heap.size + 1, 1, none⟩ = some (.int .i64 0) := by rw [← hw1]; simp [go_sem]
  have z12 : w1.cell? ⟨w.heap.size + 1, 2, none⟩ = some (.slice none 0 0) := by rw [← hw1]; simp [go_sem]
  have yf : ∀ j, w1.frozen? ⟨w.heap.size + 1, j, none⟩ = false := fun j => by rw [← hw1]; simp [go_sem]
  have B := isSize_any W H w1
  rw [hr] at B
  clear hr
  go_enter Try.func35, Try.ntmps35
  go_wp2_with fail
  refine B.mono ?_
  rintro e w3 ⟨rfl, rfl⟩
  clear hw1
  go_wp2_with fail
  refine bodyPost_ret (v := .tuple #[noPl, .int .i64 50]) (by simp [results, Try.results35, go_sem, noPl, z10, z11, z12]) rfl ⟨rfl, ?_⟩
  exact ((Q1.out.put (by omega)).put (by omega)).put (by omega)
set_option maxHeartbeats 1000000 in
set_option maxRecDepth 100000 in
theorem new_good {a b : Nat} (hs : Size a b) (s : Nat) (w : World) :
    Calls Try.prog 35 #[.int .i64 (a : Int), .int .i64 (b : Int), .int .u32 (s : Int)] w (Made w a b (tab a b fun _ _ => s)) := by
  obtain ⟨w1, hw1⟩ : ∃ w1, (w.alloc (.cells #[.int .u32 (s : Int)] 28)).alloc (.cells #[.int .i64 0, .int .i64 0, .slice none 0 0] 27) = w1 := ⟨_, rfl⟩
  have Q1 : Hid (Q w w1) := by rw [← hw1]; exact (((Q.refl w).cells _ _).cells _ _)
  have S1 : w1.heap.size = w.heap.size + 1 + 1 := by rw [← hw1]; simp
  have z00 : w1.cell? ⟨w.heap.size, 0, none⟩ = some (.int .u32 (s : Int)) := by rw [← hw1]; simp [go_sem]
  have z10 : w1.cell? ⟨w.heap.size + 1, 0, none⟩ = some (.int .i64 0) := by rw [← hw1]; simp [go_sem]
  have z11 : w1.cell? ⟨w.heap.size + 1, 1, none⟩ = some (.int .i64 0) := by rw [← hw1]; simp [go_sem]
  have z12 : w1.cell? ⟨w.heap.size + 1, 2, none⟩ = some (.slice none 0 0) := by rw [← hw1]; simp [go_sem]
  have yf : ∀ j, w1.frozen? ⟨w.heap.size + 1, j, none⟩ = false := fun j => by rw [← hw1]; simp [go_sem]
  have B := isSize_any (a : Int) (b : Int) w1
  rw [sizeB_true.2 hs.b] at B
  have HS : Hid (Size a b) := hs
  clear hs
  go_enter Try.func35, Try.ntmps35
  go_wp2_with fail
  refine B.mono ?_
  rintro e w3 ⟨rfl, rfl⟩
  clear hw1
  go_wp2_with fail
  refine (lay_any a b HS.out 65 #[.pointer (some ⟨w.heap.size, 0, none⟩)] (enters_of Try.func65 (by kernel_rfl) rfl) (fun _ _ => s) w3 ?_).mono ?_
  · intro x y w' hx hy hq
    exact new1_any (hq.cell z00)
  rintro e w4 ⟨g3, rfl, O3⟩
  have q3 := O3.q
  replace z10 := q3.cell z10
  replace z11 := q3.cell z11
  replace z12 := q3.cell z12
  have yh : ∀ j, w4.frozen? ⟨w.heap.size + 1, j, none⟩ = false := fun j => by rw [q3.2]; exact yf j
  have hg : g3 ≠ w.heap.size + 1 := by
    have h1 := O3.new
    omega
  have HO : Hid (Own w w4 g3 (tab a b fun _ _ => s)) := O3.base Q1.out
  clear O3 q3 yf
  go_wp2_with fail
  refine bodyPost_ret (v := .tuple #[.agg #[.int .i64 (a : Int), .int .i64 (b : Int), .slice (some ⟨g3, 0, none⟩) (a * b) (a * b)], .int .i64 0]) (by simp [results, Try.results35, go_sem, z10, z11, z12]) rfl ⟨g3, rfl, ?_⟩
  exact ((HO.out.set (by omega) (fun e => hg e.symm)).set (by omega) (fun e => hg e.symm)).set (by omega) (fun e => hg e.symm)
end Go.Proofs.Ytlelgifdnhnphaa

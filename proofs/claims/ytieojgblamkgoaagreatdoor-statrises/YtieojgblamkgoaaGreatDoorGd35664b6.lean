/- A plane that is made of where its samples come from. -/
import Derived.Test.YtieojgblamkgoaaGreatDoorG4d3d0d9b
import Derived.Laws.EntriesVeiled
namespace Go.Proofs.YtieojgblamkgoaaGreatDoor
open Go.RowKit
set_option linter.unusedVariables false
set_option linter.unusedSimpArgs false

theorem Own.set {w wr : World} {b : Nat} {S : List Nat} (h : Own w wr b S) {c j : Nat} (hc : w.heap.size ≤ c) (hb : c ≠ b) {v : Value} : Own w (wr.setCell ⟨c, j, none⟩ v) b S := by
  refine ⟨h.q.set hc v, h.new, fun i hi => ?_, fun i => ?_⟩
  · rw [World.cell?_setCell_other _ _ _ _ (fun e => hb (by injection e))]; exact h.cells i hi
  · rw [World.frozen?_setCell]; exact h.free i
set_option maxHeartbeats 4000000 in
set_option maxRecDepth 100000 in
theorem lay_any (a b : Nat) (hs : Size a b) (f : Nat) (cap : Array Value) (E : ∀ (args : Array Value) (w : World), (callFunc f args).run Tryz.prog w = .ok (.enter f args) w) (G : Nat → Nat → Nat) (w : World)
    (hf : ∀ (x y : Nat) (w' : World), x < a → y < b → Q w w' → Calls Tryz.prog f (#[.int .i64 (x : Int), .int .i64 (y : Int)] ++ cap) w' fun e w'' => e = .returned (.int .u32 (G x y : Nat)) ∧ Q w' w'') :
    Calls Tryz.prog 90 #[.agg #[.int .i64 (a : Int), .int .i64 (b : Int), .func (.func f) #[] cap]] w fun e w' => ∃ g, e = .returned (.agg #[.int .i64 (a : Int), .int .i64 (b : Int), .slice (some ⟨g, 0, none⟩) (a * b) (a * b)]) ∧ Own w w' g (tab a b G) := by
  obtain ⟨n, hn⟩ : ∃ n, a * b = n := ⟨_, rfl⟩
  have HN : Hid (a * b = n) := hn
  have n2 : n ≤ 65536 := by rw [← hn]; exact hs.ab
  obtain ⟨M, hmk, hfill⟩ := make_u32 n (by omega)
  have HF : Hid (∀ (x y : Nat) (w' : World), x < a → y < b → Q w w' → Calls Tryz.prog f (#[.int .i64 (x : Int), .int .i64 (y : Int)] ++ cap) w' fun e w'' => e = .returned (.int .u32 (G x y : Nat)) ∧ Q w' w'') := hf
  have HFl : Hid (∀ w : World, Fill w (w.alloc (.cells M 43)) w.heap.size n (fun _ => 0) n) := hfill
  obtain ⟨a1, a2, b1, b2, ab⟩ := hs
  have hcast : (a : Int) * (b : Int) = (n : Int) := by rw [← Int.natCast_mul, hn]
  rw [hn]
  obtain ⟨w1, hw1⟩ : ∃ w1, (w.alloc (.cells #[.int .i64 (a : Int), .int .i64 (b : Int), .func (.func f) #[] cap] 132)).alloc (.cells #[.int .i64 0, .int .i64 0, .slice none 0 0] 26) = w1 := ⟨_, rfl⟩
  have Q1 : Hid (Q w w1) := by rw [← hw1]; exact ((Q.refl w).cells _ _).cells _ _
  have S1 : w1.heap.size = w.heap.size + 1 + 1 := by rw [← hw1]; simp
  have z1 : w1.cell? ⟨w.heap.size, 0, none⟩ = some (.int .i64 (a : Int)) := by rw [← hw1]; simp [go_sem]
  have z2 : w1.cell? ⟨w.heap.size, 1, none⟩ = some (.int .i64 (b : Int)) := by rw [← hw1]; simp [go_sem]
  have z3 : w1.cell? ⟨w.heap.size, 2, none⟩ = some (.func (.func f) #[] cap) := by rw [← hw1]; simp [go_sem]
  have y1 : w1.cell? ⟨w.heap.size + 1, 0, none⟩ = some (.int .i64 0) := by rw [← hw1]; simp [go_sem]
  have y2 : w1.cell? ⟨w.heap.size + 1, 1, none⟩ = some (.int .i64 0) := by rw [← hw1]; simp [go_sem]
  have y3 : w1.cell? ⟨w.heap.size + 1, 2, none⟩ = some (.slice none 0 0) := by rw [← hw1]; simp [go_sem]
  have yf : ∀ j, w1.frozen? ⟨w.heap.size + 1, j, none⟩ = false := fun j => by rw [← hw1]; simp [go_sem]
  clear hf hfill ab hn
  go_enter Tryz.func90, Tryz.ntmps90
  go_wp2_with fail
  clear hw1
  have F0 : Hid (Fill w1 (w1.alloc (.cells M 43)) w1.heap.size n (fun i => G (i % a) (i / a)) 0) := by
    obtain ⟨p1, p2, p3, p4, p5⟩ := HFl.out w1
    exact ⟨p1, p2, fun i hi => absurd hi (Nat.not_lt_zero _), p4, p5⟩
  generalize w1.alloc _ = w2 at F0 ⊢
  rw [S1] at F0
  obtain ⟨g, hg⟩ : ∃ g, w.heap.size + 1 + 1 = g := ⟨_, rfl⟩
  rw [hg] at F0 ⊢
  go_loopg [15] b (fun m s15 wr => ∃ y : Nat, s15 = .int .i64 y ∧ y + m = b ∧ Hid (Fill w1 wr g n (fun i => G (i % a) (i / a)) (y * a)))
  case atStart => exact ⟨0, rfl, by omega, by rw [Nat.zero_mul]; exact F0⟩
  case round =>
    obtain ⟨y, rfl, hm, FY⟩ := hrel
    by_cases hyb : y < b
    · have c1 := FY.out.q.cell z1
      have hy0 : (0 : Int) ≤ (y : Int) := by omega
      have hy1 : (y : Int) < (b : Int) := by omega
      obtain ⟨ya, hya⟩ : ∃ ya, y * a = ya := ⟨_, rfl⟩
      have hya2 : ya + a ≤ n := by rw [← hya, ← HN.out, Nat.mul_comm a b, ← Nat.succ_mul]; exact Nat.mul_le_mul_right _ (by omega)
      have hya3 : ¬ n = ya := by omega
      have hya4 : ya ≤ n := by omega
      have hyc : (y : Int) * (a : Int) = (ya : Int) := by rw [← Int.natCast_mul, hya]
      have HY : Hid (y * a = ya) := hya
      rw [hya] at FY
      clear hya
      go_wp2_with fail
      go_loopg [26] a (fun m s26 wx => ∃ x : Nat, s26 = .int .i64 x ∧ x + m = a ∧ Hid (Fill w1 wx g n (fun i => G (i % a) (i / a)) (ya + x)))
      case atStart => exact ⟨0, rfl, by omega, FY⟩
      case round =>
        obtain ⟨x, rfl, hmx, FX⟩ := hrel
        by_cases hxa : x < a
        · have c3 := FX.out.q.cell z3
          obtain ⟨u, hu⟩ := FX.out.room (ya + x) (by omega)
          have fz := FX.out.free (ya + x)
          have hx0 : (0 : Int) ≤ (x : Int) := by omega
          have hx1 : (x : Int) < ((n - ya : Nat) : Int) := by omega
          have hx2 : (x : Int) < (a : Int) := by omega
          have C := HF.out x y wr hxa hyb (Q1.out.trans FX.out.q)
          have HG : Hid (G x y = G ((ya + x) % a) ((ya + x) / a)) := by
            show G x y = _
            rw [← HY.out, place_mod y hxa, place_div y hxa]
          go_wp2_with fail
          refine C.mono ?_
          rintro e wx ⟨rfl, qx⟩
          replace hu := qx.cell hu
          have fz' : wx.frozen? ⟨g, ya + x, none⟩ = false := by rw [qx.2]; exact fz
          have FX2 : Hid (Fill w1 (wx.setCell ⟨g, ya + x, none⟩ (.int .u32 (G x y : Nat))) g n (fun i => G (i % a) (i / a)) (ya + x + 1)) := (FX.out.next qx).step (by omega) HG.out
          generalize G x y = V at FX2 ⊢
          clear C HG FX fz
          go_wp2_with fail
          go_roundg (a - (x + 1))
          case measure => go_light; omega
          case rel => go_light; exact ⟨x + 1, by go_num, by omega, FX2⟩
        · have hxe : x = a := by omega
          go_wp2_with fail
          go_roundg (b - (y + 1))
          case measure => go_light; omega
          case rel =>
            go_light
            refine ⟨y + 1, by go_num, by omega, ?_⟩
            rw [Nat.succ_mul, HY.out]
            rw [hxe] at FX
            exact FX
    · have hye : y = b := by omega
      have FE : Hid (Own w wr g (tab a b G)) := by
        have f := FY.out
        rw [hye, Nat.mul_comm b a, HN.out] at f
        obtain ⟨h1, h2, h3, h4⟩ := Fill.own (S := tab a b G) f (by rw [tab_length]; exact HN.out) (fun i hi => by rw [← HN.out] at hi; exact tab_get hi)
        exact ⟨Q1.out.trans h1, by omega, h3, h4⟩
      have c1 := FY.out.q.cell z1
      have c2 := FY.out.q.cell z2
      have d1 := FY.out.q.cell y1
      have d2 := FY.out.q.cell y2
      have d3 := FY.out.q.cell y3
      have df : ∀ j, wr.frozen? ⟨w.heap.size + 1, j, none⟩ = false := fun j => by rw [FY.out.q.2]; exact yf j
      have hne : g ≠ w.heap.size + 1 := by omega
      clear FY z1 z2 z3 y1 y2 y3 yf
      go_wp2_with fail
      refine bodyPost_ret (v := .agg #[.int .i64 (a : Int), .int .i64 (b : Int), .slice (some ⟨g, 0, none⟩) n n]) (by simp [results, Tryz.results90, go_sem, d1, d2, d3]) rfl ⟨g, rfl, ?_⟩
      exact FE.out.set (by omega) (fun e => hne e.symm) |>.set (by omega) (fun e => hne e.symm) |>.set (by omega) (fun e => hne e.symm)
end Go.Proofs.YtieojgblamkgoaaGreatDoor
/- Where samples come from: the function values of the program. -/
namespace Go.Proofs.YtieojgblamkgoaaGreatDoor
open Go.RowKit
set_option linter.unusedVariables false
set_option linter.unusedSimpArgs false

set_option maxHeartbeats 1000000 in
set_option maxRecDepth 100000 in
theorem psample_any {a b : Nat} (hs : Size a b) {S : List Nat} (hl : S.length = a * b) {g o cap : Nat} (X Y : Int) {x y : Nat} (hX : X = x) (hY : Y = y) (hx : x < a) (hy : y < b) {w : World} (hu : UIs w g o S) :
    Calls Tryz.prog 89 #[.agg #[.int .i64 (a : Int), .int .i64 (b : Int), .slice (some ⟨g, o, none⟩) S.length cap], .int .i64 X, .int .i64 Y] w fun e w' => e = .returned (.int .u32 (smp S a x y : Nat)) ∧ Q w w' := by
  have hp := place_lt hx hy
  have hab := hs.ab
  rw [← hl] at hp hab
  have hc := hu _ hp
  have hS : S.getD (y * a + x) 0 = smp S a x y := rfl
  rw [hS] at hc
  generalize smp S a x y = V at *
  subst hX hY
  obtain ⟨ya, hya⟩ : ∃ ya, y * a = ya := ⟨_, rfl⟩
  rw [hya] at hp hc
  have hyc : (y : Int) * (a : Int) = (ya : Int) := by rw [← Int.natCast_mul, hya]
  have h1 : (0 : Int) ≤ (ya : Int) + (x : Int) := by omega
  have h2 : (ya : Int) + (x : Int) < (S.length : Int) := by omega
  have hw : IntKind.i64.wrap ((ya : Int) + (x : Int)) = (ya : Int) + (x : Int) := by rw [IntKind.wrap_i64]; omega
  have ht : ((ya : Int) + (x : Int)).toNat = ya + x := by omega
  have Q0 : Hid (∀ c t, Q w (w.alloc (.cells c t))) := fun c t => (Q.refl w).cells c t
  have hc' : ∀ c t, (w.alloc (.cells c t)).cell? ⟨g, o + (ya + x), none⟩ = some (.int .u32 (V : Nat)) := fun c t => (Q0.out c t).cell hc
  clear hu hs hl hya hS hx hy
  go_enter Tryz.func89, Tryz.ntmps89
  go_wp2_with fail
  go_ret
  exact ⟨rfl, Q0.out _ _⟩
/-- A plane in a variable. -/
structure PlBox (w : World) (B a b : Nat) (v : Value) : Prop where
  c0 : w.cell? ⟨B, 0, none⟩ = some (.int .i64 (a : Int))
  c1 : w.cell? ⟨B, 1, none⟩ = some (.int .i64 (b : Int))
  c2 : w.cell? ⟨B, 2, none⟩ = some v
theorem PlBox.next {w w' : World} {B a b : Nat} {v : Value} (h : PlBox w B a b v) (q : Q w w') : PlBox w' B a b v := ⟨q.cell h.c0, q.cell h.c1, q.cell h.c2⟩
set_option maxHeartbeats 1000000 in
set_option maxRecDepth 100000 in
theorem crop1_any {a b : Nat} (hs : Size a b) {S : List Nat} (hl : S.length = a * b) {g o cap B : Nat} {R x0 y0 : Nat} {x y : Nat} (hx : x0 + x < a) (hy : y0 + y < b) {w : World} (hB : PlBox w B a b (.slice (some ⟨g, o, none⟩) S.length cap)) (hu : UIs w g o S) (r0 : w.cell? ⟨R, 0, none⟩ = some (.int .i64 (x0 : Int))) (r1 : w.cell? ⟨R, 1, none⟩ = some (.int .i64 (y0 : Int))) :
    Calls Tryz.prog 88 #[.int .i64 (x : Int), .int .i64 (y : Int), .pointer (some ⟨B, 0, none⟩), .pointer (some ⟨R, 0, none⟩)] w fun e w' => e = .returned (.int .u32 (smp S a (x0 + x) (y0 + y) : Nat)) ∧ Q w w' := by
  obtain ⟨c0, c1, c2⟩ := hB
  have a2 := hs.a2
  have b2 := hs.b2
  have HS : Hid (Size a b) := hs
  have HL : Hid (S.length = a * b) := hl
  have HU : Hid (UIs w g o S) := hu
  clear hs hl hu
  go_enter Tryz.func88, Tryz.ntmps88
  go_wp2_with fail
  refine (psample_any HS.out HL.out _ _ (x := (x0 + x)) (y := (y0 + y)) (by omega) (by omega) (by omega) (by omega) HU.out).mono ?_
  rintro e w1 ⟨rfl, q1⟩
  go_wp2_with fail
  go_ret
  exact ⟨rfl, q1⟩
end Go.Proofs.YtieojgblamkgoaaGreatDoor
/- Pasting and extending: where samples come from. -/
namespace Go.Proofs.YtieojgblamkgoaaGreatDoor
open Go.RowKit
set_option linter.unusedVariables false
set_option linter.unusedSimpArgs false

end Go.Proofs.YtieojgblamkgoaaGreatDoor
/- Planes made and moved: the program's New, Get, Crop, Paste, Flip, Transpose. -/
namespace Go.Proofs.YtieojgblamkgoaaGreatDoor
open Go.RowKit
set_option linter.unusedVariables false
set_option linter.unusedSimpArgs false

/-- A plane in memory of its own, and no error. -/
def Made (w : World) (a b : Nat) (S : List Nat) (e : Ending) (w' : World) : Prop := ∃ g, e = .returned (.tuple #[.agg #[.int .i64 (a : Int), .int .i64 (b : Int), .slice (some ⟨g, 0, none⟩) (a * b) (a * b)], .int .i64 0]) ∧ Own w w' g S
theorem Own.base {w0 w wr : World} {b : Nat} {S : List Nat} (h : Own w wr b S) (q : Q w0 w) : Own w0 wr b S := ⟨q.trans h.q, Nat.le_trans q.1.size h.new, h.cells, h.free⟩

end Go.Proofs.YtieojgblamkgoaaGreatDoor
/- Planes made and moved: the program's New, Get, Crop, Paste. -/
namespace Go.Proofs.YtieojgblamkgoaaGreatDoor
open Go.RowKit
set_option linter.unusedVariables false
set_option linter.unusedSimpArgs false

/-- A rectangle within a plane. -/
structure Rct (a b x0 y0 c d : Nat) : Prop where
  c1 : 1 ≤ c
  c2 : x0 + c ≤ a
  d1 : 1 ≤ d
  d2 : y0 + d ≤ b
theorem Rct.size {a b x0 y0 c d : Nat} (h : Rct a b x0 y0 c d) (hs : Size a b) : Size c d := by
  have := h.c1; have := h.c2; have := h.d1; have := h.d2; have := hs.a2; have := hs.b2
  refine ⟨by omega, by omega, by omega, by omega, Nat.le_trans (Nat.mul_le_mul (by omega) (by omega)) hs.ab⟩
def wiB (x0 y0 x1 y1 a b : Int) : Bool := decide (0 ≤ x0) && (decide (x0 < x1) && (decide (x1 ≤ a) && (decide (0 ≤ y0) && (decide (y0 < y1) && decide (y1 ≤ b)))))
theorem wiB_true {x0 y0 x1 y1 : Int} {a b : Nat} : wiB x0 y0 x1 y1 a b = true ↔ ∃ X Y c d : Nat, x0 = X ∧ y0 = Y ∧ x1 = (X + c : Nat) ∧ y1 = (Y + d : Nat) ∧ Rct a b X Y c d := by
  unfold wiB
  simp only [Bool.and_eq_true, decide_eq_true_eq]
  constructor
  · rintro ⟨h1, h2, h3, h4, h5, h6⟩
    exact ⟨x0.toNat, y0.toNat, (x1 - x0).toNat, (y1 - y0).toNat, by omega, by omega, by omega, by omega, by omega, by omega, by omega, by omega⟩
  · rintro ⟨X, Y, c, d, rfl, rfl, rfl, rfl, h1, h2, h3, h4⟩
    omega
set_option maxHeartbeats 2000000 in
set_option maxRecDepth 100000 in
theorem isWithin_any (x0 y0 x1 y1 a b : Int) (w : World) : Calls Tryz.prog 87 #[.agg #[.int .i64 x0, .int .i64 y0, .int .i64 x1, .int .i64 y1], .int .i64 a, .int .i64 b] w fun e w' => e = .returned (.bool (wiB x0 y0 x1 y1 a b)) ∧ Q w w' := by
  have Q0 : Hid (∀ c t, Q w (w.alloc (.cells c t))) := fun c t => (Q.refl w).cells c t
  unfold wiB
  by_cases h1 : 0 ≤ x0
  · by_cases h2 : x0 < x1
    · by_cases h3 : x1 ≤ a
      · by_cases h4 : 0 ≤ y0
        · by_cases h5 : y0 < y1
          · have e : (decide (0 ≤ x0) && (decide (x0 < x1) && (decide (x1 ≤ a) && (decide (0 ≤ y0) && (decide (y0 < y1) && decide (y1 ≤ b)))))) = decide (y1 ≤ b) := by simp [h1, h2, h3, h4, h5]
            rw [e]
            clear e
            by_cases h6 : y1 ≤ b
            · rw [decide_eq_true h6]
              go_enter Tryz.func87, Tryz.ntmps87
              go_wp2_with fail
              go_ret
              exact ⟨rfl, Q0.out _ _⟩
            · rw [decide_eq_false h6]
              have h7 : decide (y1 ≤ b) = false := decide_eq_false h6
              go_enter Tryz.func87, Tryz.ntmps87
              go_wp2_with fail
              go_ret
              exact ⟨rfl, Q0.out _ _⟩
          · have e : (decide (0 ≤ x0) && (decide (x0 < x1) && (decide (x1 ≤ a) && (decide (0 ≤ y0) && (decide (y0 < y1) && decide (y1 ≤ b)))))) = false := by simp [h5]
            rw [e]
            clear e
            have h7 : decide (y0 < y1) = false := decide_eq_false h5
            go_enter Tryz.func87, Tryz.ntmps87
            go_wp2_with fail
            go_ret
            exact ⟨rfl, Q0.out _ _⟩
        · have e : (decide (0 ≤ x0) && (decide (x0 < x1) && (decide (x1 ≤ a) && (decide (0 ≤ y0) && (decide (y0 < y1) && decide (y1 ≤ b)))))) = false := by simp [h4]
          rw [e]
          clear e
          have h7 : decide (0 ≤ y0) = false := decide_eq_false h4
          go_enter Tryz.func87, Tryz.ntmps87
          go_wp2_with fail
          go_ret
          exact ⟨rfl, Q0.out _ _⟩
      · have e : (decide (0 ≤ x0) && (decide (x0 < x1) && (decide (x1 ≤ a) && (decide (0 ≤ y0) && (decide (y0 < y1) && decide (y1 ≤ b)))))) = false := by simp [h3]
        rw [e]
        clear e
        have h7 : decide (x1 ≤ a) = false := decide_eq_false h3
        go_enter Tryz.func87, Tryz.ntmps87
        go_wp2_with fail
        go_ret
        exact ⟨rfl, Q0.out _ _⟩
    · have e : (decide (0 ≤ x0) && (decide (x0 < x1) && (decide (x1 ≤ a) && (decide (0 ≤ y0) && (decide (y0 < y1) && decide (y1 ≤ b)))))) = false := by simp [h2]
      rw [e]
      clear e
      have h7 : decide (x0 < x1) = false := decide_eq_false h2
      go_enter Tryz.func87, Tryz.ntmps87
      go_wp2_with fail
      go_ret
      exact ⟨rfl, Q0.out _ _⟩
  · have e : (decide (0 ≤ x0) && (decide (x0 < x1) && (decide (x1 ≤ a) && (decide (0 ≤ y0) && (decide (y0 < y1) && decide (y1 ≤ b)))))) = false := by simp [h1]
    rw [e]
    clear e
    have h7 : decide (0 ≤ x0) = false := decide_eq_false h1
    go_enter Tryz.func87, Tryz.ntmps87
    go_wp2_with fail
    go_ret
    exact ⟨rfl, Q0.out _ _⟩

set_option maxHeartbeats 2000000 in
set_option maxRecDepth 100000 in
theorem crop_good {a b : Nat} (hs : Size a b) {S : List Nat} (hl : S.length = a * b) (g o cap : Nat) {x0 y0 c d : Nat} (hr : Rct a b x0 y0 c d) (XX YY : Int) (hXX : XX = (x0 + c : Nat)) (hYY : YY = (y0 + d : Nat)) (w : World) (hu : UIs w g o S) :
    Calls Tryz.prog 66 #[.agg #[.int .i64 (a : Int), .int .i64 (b : Int), .slice (some ⟨g, o, none⟩) S.length cap], .agg #[.int .i64 (x0 : Int), .int .i64 (y0 : Int), .int .i64 XX, .int .i64 YY]] w (Made w c d (tab c d (fun x y => smp S a (x0 + x) (y0 + y)))) := by
  have hb : ((0 : Int) != 0) = false := by decide
  have hn : S.length ≤ 9223372036854775807 := by have := hs.ab; omega
  obtain ⟨w1, hw1⟩ : ∃ w1, ((w.alloc (.cells #[.int .i64 (a : Int), .int .i64 (b : Int), .slice (some ⟨g, o, none⟩) S.length cap] 26)).alloc (.cells #[.int .i64 (x0 : Int), .int .i64 (y0 : Int), .int .i64 XX, .int .i64 YY] 28)).alloc (.cells #[.int .i64 0, .int .i64 0, .slice none 0 0] 26) = w1 := ⟨_, rfl⟩
  have Q1 : Hid (Q w w1) := by rw [← hw1]; exact ((((Q.refl w).cells _ _).cells _ _).cells _ _)
  have S1 : w1.heap.size = w.heap.size + 1 + 1 + 1 := by rw [← hw1]; simp
  have z00 : w1.cell? ⟨w.heap.size, 0, none⟩ = some (.int .i64 (a : Int)) := by rw [← hw1]; simp [go_sem]
  have z01 : w1.cell? ⟨w.heap.size, 1, none⟩ = some (.int .i64 (b : Int)) := by rw [← hw1]; simp [go_sem]
  have z02 : w1.cell? ⟨w.heap.size, 2, none⟩ = some (.slice (some ⟨g, o, none⟩) S.length cap) := by rw [← hw1]; simp [go_sem]
  have z10 : w1.cell? ⟨w.heap.size + 1, 0, none⟩ = some (.int .i64 (x0 : Int)) := by rw [← hw1]; simp [go_sem]
  have z11 : w1.cell? ⟨w.heap.size + 1, 1, none⟩ = some (.int .i64 (y0 : Int)) := by rw [← hw1]; simp [go_sem]
  have z12 : w1.cell? ⟨w.heap.size + 1, 2, none⟩ = some (.int .i64 XX) := by rw [← hw1]; simp [go_sem]
  have z13 : w1.cell? ⟨w.heap.size + 1, 3, none⟩ = some (.int .i64 YY) := by rw [← hw1]; simp [go_sem]
  have z20 : w1.cell? ⟨w.heap.size + 1 + 1, 0, none⟩ = some (.int .i64 0) := by rw [← hw1]; simp [go_sem]
  have z21 : w1.cell? ⟨w.heap.size + 1 + 1, 1, none⟩ = some (.int .i64 0) := by rw [← hw1]; simp [go_sem]
  have z22 : w1.cell? ⟨w.heap.size + 1 + 1, 2, none⟩ = some (.slice none 0 0) := by rw [← hw1]; simp [go_sem]
  have yf : ∀ j, w1.frozen? ⟨w.heap.size + 1 + 1, j, none⟩ = false := fun j => by rw [← hw1]; simp [go_sem]
  have A := check_any (a : Int) (b : Int) (some ⟨g, o, none⟩) S.length cap hn w1
  rw [show chk (a : Int) (b : Int) S.length = 0 by rw [hl]; exact chk_size hs] at A
  have HS : Hid (Size a b) := hs
  have HL : Hid (S.length = a * b) := hl
  have HU : Hid (UIs w g o S) := hu
  clear hs hl hu hn
  have B : ∀ w : World, Calls Tryz.prog 87 #[.agg #[.int .i64 (x0 : Int), .int .i64 (y0 : Int), .int .i64 XX, .int .i64 YY], .int .i64 (a : Int), .int .i64 (b : Int)] w fun e w' => e = .returned (.bool true) ∧ Q w w' := fun w => by
    have := isWithin_any (x0 : Int) (y0 : Int) XX YY (a : Int) (b : Int) w
    rw [wiB_true.2 ⟨x0, y0, c, d, rfl, rfl, hXX, hYY, hr⟩] at this
    exact this
  have HR : Hid (Rct a b x0 y0 c d) := hr
  have a2 := HS.out.a2
  have b2 := HS.out.b2
  have r2 := hr.c2
  have r4 := hr.d2
  have e1 : XX - (x0 : Int) = (c : Int) := by omega
  have e2 : YY - (y0 : Int) = (d : Int) := by omega
  clear hr hXX hYY
  go_enter Tryz.func66, Tryz.ntmps66
  go_wp2_with fail
  refine A.mono ?_
  rintro e w2 ⟨rfl, q2⟩
  replace z00 := q2.cell z00
  replace z01 := q2.cell z01
  replace z02 := q2.cell z02
  replace z10 := q2.cell z10
  replace z11 := q2.cell z11
  replace z12 := q2.cell z12
  replace z13 := q2.cell z13
  replace z20 := q2.cell z20
  replace z21 := q2.cell z21
  replace z22 := q2.cell z22
  have yg : ∀ j, w2.frozen? ⟨w.heap.size + 1 + 1, j, none⟩ = false := fun j => by rw [q2.2]; exact yf j
  clear hw1 A yf
  go_wp2_with fail
  refine (B _).mono ?_
  rintro e w3 ⟨rfl, q3⟩
  have t00 := q3.cell z00
  have t01 := q3.cell z01
  have t02 := q3.cell z02
  have t10 := q3.cell z10
  have t11 := q3.cell z11
  have t12 := q3.cell z12
  have t13 := q3.cell z13
  have t20 := q3.cell z20
  have t21 := q3.cell z21
  have t22 := q3.cell z22
  have yk : ∀ j, w3.frozen? ⟨w.heap.size + 1 + 1, j, none⟩ = false := fun j => by rw [q3.2]; exact yg j
  go_wp2_with fail
  refine (lay_any c d (HR.out.size HS.out) 88 #[.pointer (some ⟨w.heap.size, 0, none⟩), .pointer (some ⟨w.heap.size + 1, 0, none⟩)] (enters_of Tryz.func88 (by kernel_rfl) rfl) (fun x y => smp S a (x0 + x) (y0 + y)) w3 ?_).mono ?_
  · intro x y w' hx hy hq
    exact crop1_any HS.out HL.out (by have := HR.out.c2; omega) (by have := HR.out.d2; omega) (PlBox.next ⟨z00, z01, z02⟩ (q3.trans hq)) (HU.out.next (((Q1.out.trans q2).trans q3).trans hq)) ((q3.trans hq).cell z10) ((q3.trans hq).cell z11)
  rintro e w4 ⟨g3, rfl, O3⟩
  have q4 := O3.q
  replace z20 := q4.cell t20
  replace z21 := q4.cell t21
  replace z22 := q4.cell t22
  have yh : ∀ j, w4.frozen? ⟨w.heap.size + 1 + 1, j, none⟩ = false := fun j => by rw [q4.2]; exact yk j
  have hg : g3 ≠ w.heap.size + 1 + 1 := by
    have h1 := O3.new
    have h2 := q2.1.size
    have h3 := q3.1.size
    omega
  have HO : Hid (Own w w4 g3 (tab c d (fun x y => smp S a (x0 + x) (y0 + y)))) := O3.base ((Q1.out.trans q2).trans q3)
  clear O3 q4 yg yk t00 t01 t02 t10 t11 t12 t13 t20 t21 t22
  go_wp2_with fail
  refine bodyPost_ret (v := .tuple #[.agg #[.int .i64 ((c : Nat) : Int), .int .i64 ((d : Nat) : Int), .slice (some ⟨g3, 0, none⟩) (c * d) (c * d)], .int .i64 0]) (by simp [results, Tryz.results66, go_sem, z20, z21, z22]) rfl ⟨g3, rfl, ?_⟩
  exact ((HO.out.set (by omega) (fun e => hg e.symm)).set (by omega) (fun e => hg e.symm)).set (by omega) (fun e => hg e.symm)
end Go.Proofs.YtieojgblamkgoaaGreatDoor
/- Planes moved: the program's Paste, Turn; Get. -/
namespace Go.Proofs.YtieojgblamkgoaaGreatDoor
open Go.RowKit
end Go.Proofs.YtieojgblamkgoaaGreatDoor

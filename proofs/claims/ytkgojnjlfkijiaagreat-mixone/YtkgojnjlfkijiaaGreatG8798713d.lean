/- A plane that is made of where its samples come from. -/
import Derived.Test.YtkgojnjlfkijiaaGreatG541b73a6
import Derived.Laws.EntriesVeiled
import Derived.Test.YtkgojnjlfkijiaaGreatG72e06c17
import Derived.Test.YtkgojnjlfkijiaaGreatG2a0300ab
import Derived.Test.YtkgojnjlfkijiaaGreatG8dc64662
import Derived.Test.YtkgojnjlfkijiaaGreatGa5cf00b6
namespace Go.Proofs.YtkgojnjlfkijiaaGreat
open Go.RowKit
set_option linter.unusedVariables false
set_option linter.unusedSimpArgs false

theorem Own.set {w wr : World} {b : Nat} {S : List Nat} (h : Own w wr b S) {c j : Nat} (hc : w.heap.size ≤ c) (hb : c ≠ b) {v : Value} : Own w (wr.setCell ⟨c, j, none⟩ v) b S := by
  refine ⟨h.q.set hc v, h.new, fun i hi => ?_, fun i => ?_⟩
  · rw [World.cell?_setCell_other _ _ _ _ (fun e => hb (by injection e))]; exact h.cells i hi
  · rw [World.frozen?_setCell]; exact h.free i
set_option maxHeartbeats 4000000 in
set_option maxRecDepth 100000 in
theorem lay_any (a b : Nat) (hs : Size a b) (f : Nat) (cap : Array Value) (E : ∀ (args : Array Value) (w : World), (callFunc f args).run Tryz.prog w = .ok (.enter f args) w) (G : Nat → Nat → Nat) (w : World)
    (hf : ∀ (x y : Nat) (w' : World), x < a → y < b → Q w w' → Calls Tryz.prog f (#[.int .i64 (x : Int), .int .i64 (y : Int)] ++ cap) w' fun e w'' => e = .returned (.int .u32 (G x y : Nat)) ∧ Q w' w'') :
    Calls Tryz.prog 129 #[.agg #[.int .i64 (a : Int), .int .i64 (b : Int), .func (.func f) #[] cap]] w fun e w' => ∃ g, e = .returned (.agg #[.int .i64 (a : Int), .int .i64 (b : Int), .slice (some ⟨g, 0, none⟩) (a * b) (a * b)]) ∧ Own w w' g (tab a b G) := by
  obtain ⟨n, hn⟩ : ∃ n, a * b = n := ⟨_, rfl⟩
  have HN : Hid (a * b = n) := hn
  have n2 : n ≤ 65536 := by rw [← hn]; exact hs.ab
  obtain ⟨M, hmk, hfill⟩ := make_u32 n (by omega)
  have HF : Hid (∀ (x y : Nat) (w' : World), x < a → y < b → Q w w' → Calls Tryz.prog f (#[.int .i64 (x : Int), .int .i64 (y : Int)] ++ cap) w' fun e w'' => e = .returned (.int .u32 (G x y : Nat)) ∧ Q w' w'') := hf
  have HFl : Hid (∀ w : World, Fill w (w.alloc (.cells M 22)) w.heap.size n (fun _ => 0) n) := hfill
  obtain ⟨a1, a2, b1, b2, ab⟩ := hs
  have hcast : (a : Int) * (b : Int) = (n : Int) := by rw [← Int.natCast_mul, hn]
  rw [hn]
  obtain ⟨w1, hw1⟩ : ∃ w1, (w.alloc (.cells #[.int .i64 (a : Int), .int .i64 (b : Int), .func (.func f) #[] cap] 131)).alloc (.cells #[.int .i64 0, .int .i64 0, .slice none 0 0] 52) = w1 := ⟨_, rfl⟩
  have Q1 : Hid (Q w w1) := by rw [← hw1]; exact ((Q.refl w).cells _ _).cells _ _
  have S1 : w1.heap.size = w.heap.size + 1 + 1 := by rw [← hw1]; simp
  have z1 : w1.cell? ⟨w.heap.size, 0, none⟩ = some (.int .i64 (a : Int)) := by rw [← hw1]; simp [go_sem]
  have z2 : w1.cell? ⟨w.heap.size, 1, none⟩ = some (.int .i64 (b : Int)) := by rw [← hw1]; simp [go_sem]
  have z3 : w1.cell? ⟨w.heap.size, 2, none⟩ = some (.func (.func f) #[] cap) := by rw [← hw1]; simp [go_sem]
  have y1 : w1.cell? ⟨w.heap.size + 1, 0, none⟩ = some (.int .i64 0) := by rw [← hw1]; simp [go_sem]
  have y2 : w1.cell? ⟨w.heap.size + 1, 1, none⟩ = some (.int .i64 0) := by rw [← hw1]; simp [go_sem]
  have y3 : w1.cell? ⟨w.heap.size + 1, 2, none⟩ = some (.slice none 0 0) := by rw [← hw1]; simp [go_sem]
  have yf : ∀ j, w1.frozen? ⟨w.heap.size + 1, j, none⟩ = false := fun j => by rw [← hw1]; simp [go_sem]
  clear hf hfill ab hn
  go_enter Tryz.func129, Tryz.ntmps129
  go_wp2_with fail
  clear hw1
  have F0 : Hid (Fill w1 (w1.alloc (.cells M 22)) w1.heap.size n (fun i => G (i % a) (i / a)) 0) := by
    obtain ⟨p1, p2, p3, p4, p5⟩ := HFl.out w1
    exact ⟨p1, p2, fun i hi => absurd hi (Nat.not_lt_zero _), p4, p5⟩
  generalize w1.alloc _ = w2 at F0 ⊢
  rw [S1] at F0
  obtain ⟨g, hg⟩ : ∃ g, w.heap.size + 1 + 1 = g := ⟨_, rfl⟩
  rw [hg] at F0 ⊢
  go_loopg [15] b (fun m s15 wr => ∃ y : Nat, s15 = .int .i64 y ∧ y + m = b ∧ Hid (Fill w1 wr g n (fun i => G (i % a) (i / a)) (y * a)))
  case atStart => exact ⟨0, rfl, by omega, by rw [Nat.zero_mul]; exact F0⟩
  case round =>
    obtain ⟨y, rfl, hm, FY⟩ := hrel
    by_cases hyb : y < b
    · have c1 := FY.out.q.cell z1
      have hy0 : (0 : Int) ≤ (y : Int) := by omega
      have hy1 : (y : Int) < (b : Int) := by omega
      obtain ⟨ya, hya⟩ : ∃ ya, y * a = ya := ⟨_, rfl⟩
      have hya2 : ya + a ≤ n := by rw [← hya, ← HN.out, Nat.mul_comm a b, ← Nat.succ_mul]; exact Nat.mul_le_mul_right _ (by omega)
      have hya3 : ¬ n = ya := by omega
      have hya4 : ya ≤ n := by omega
      have hyc : (y : Int) * (a : Int) = (ya : Int) := by rw [← Int.natCast_mul, hya]
      have HY : Hid (y * a = ya) := hya
      rw [hya] at FY
      clear hya
      go_wp2_with fail
      go_loopg [26] a (fun m s26 wx => ∃ x : Nat, s26 = .int .i64 x ∧ x + m = a ∧ Hid (Fill w1 wx g n (fun i => G (i % a) (i / a)) (ya + x)))
      case atStart => exact ⟨0, rfl, by omega, FY⟩
      case round =>
        obtain ⟨x, rfl, hmx, FX⟩ := hrel
        by_cases hxa : x < a
        · have c3 := FX.out.q.cell z3
          obtain ⟨u, hu⟩ := FX.out.room (ya + x) (by omega)
          have fz := FX.out.free (ya + x)
          have hx0 : (0 : Int) ≤ (x : Int) := by omega
          have hx1 : (x : Int) < ((n - ya : Nat) : Int) := by omega
          have hx2 : (x : Int) < (a : Int) := by omega
          have C := HF.out x y wr hxa hyb (Q1.out.trans FX.out.q)
          have HG : Hid (G x y = G ((ya + x) % a) ((ya + x) / a)) := by
            show G x y = _
            rw [← HY.out, place_mod y hxa, place_div y hxa]
          go_wp2_with fail
          refine C.mono ?_
          rintro e wx ⟨rfl, qx⟩
          replace hu := qx.cell hu
          have fz' : wx.frozen? ⟨g, ya + x, none⟩ = false := by rw [qx.2]; exact fz
          have FX2 : Hid (Fill w1 (wx.setCell ⟨g, ya + x, none⟩ (.int .u32 (G x y : Nat))) g n (fun i => G (i % a) (i / a)) (ya + x + 1)) := (FX.out.next qx).step (by omega) HG.out
          generalize G x y = V at FX2 ⊢
          clear C HG FX fz
          go_wp2_with fail
          go_roundg (a - (x + 1))
          case measure => go_light; omega
          case rel => go_light; exact ⟨x + 1, by go_num, by omega, FX2⟩
        · have hxe : x = a := by omega
          go_wp2_with fail
          go_roundg (b - (y + 1))
          case measure => go_light; omega
          case rel =>
            go_light
            refine ⟨y + 1, by go_num, by omega, ?_⟩
            rw [Nat.succ_mul, HY.out]
            rw [hxe] at FX
            exact FX
    · have hye : y = b := by omega
      have FE : Hid (Own w wr g (tab a b G)) := by
        have f := FY.out
        rw [hye, Nat.mul_comm b a, HN.out] at f
        obtain ⟨h1, h2, h3, h4⟩ := Fill.own (S := tab a b G) f (by rw [tab_length]; exact HN.out) (fun i hi => by rw [← HN.out] at hi; exact tab_get hi)
        exact ⟨Q1.out.trans h1, by omega, h3, h4⟩
      have c1 := FY.out.q.cell z1
      have c2 := FY.out.q.cell z2
      have d1 := FY.out.q.cell y1
      have d2 := FY.out.q.cell y2
      have d3 := FY.out.q.cell y3
      have df : ∀ j, wr.frozen? ⟨w.heap.size + 1, j, none⟩ = false := fun j => by rw [FY.out.q.2]; exact yf j
      have hne : g ≠ w.heap.size + 1 := by omega
      clear FY z1 z2 z3 y1 y2 y3 yf
      go_wp2_with fail
      refine bodyPost_ret (v := .agg #[.int .i64 (a : Int), .int .i64 (b : Int), .slice (some ⟨g, 0, none⟩) n n]) (by simp [results, Tryz.results129, go_sem, d1, d2, d3]) rfl ⟨g, rfl, ?_⟩
      exact FE.out.set (by omega) (fun e => hne e.symm) |>.set (by omega) (fun e => hne e.symm) |>.set (by omega) (fun e => hne e.symm)
end Go.Proofs.YtkgojnjlfkijiaaGreat
/- Where samples come from: the function values of the program. -/
namespace Go.Proofs.YtkgojnjlfkijiaaGreat
open Go.RowKit
/-- A plane in a variable. -/
structure PlBox (w : World) (B a b : Nat) (v : Value) : Prop where
  c0 : w.cell? ⟨B, 0, none⟩ = some (.int .i64 (a : Int))
  c1 : w.cell? ⟨B, 1, none⟩ = some (.int .i64 (b : Int))
  c2 : w.cell? ⟨B, 2, none⟩ = some v
theorem PlBox.next {w w' : World} {B a b : Nat} {v : Value} (h : PlBox w B a b v) (q : Q w w') : PlBox w' B a b v := ⟨q.cell h.c0, q.cell h.c1, q.cell h.c2⟩
theorem new1_any {B s : Nat} {x y : Int} {w : World} (hB : w.cell? ⟨B, 0, none⟩ = some (.int .u32 (s : Int))) :
    Calls Tryz.prog 128 #[.int .i64 x, .int .i64 y, .pointer (some ⟨B, 0, none⟩)] w fun e w' => e = .returned (.int .u32 (s : Nat)) ∧ Q w w' := by
  go_enter Tryz.func128, Tryz.ntmps128
  go_wp2_with fail
  go_ret
  exact ⟨rfl, Q.refl _⟩
end Go.Proofs.YtkgojnjlfkijiaaGreat
/- Pasting and extending: where samples come from. -/
namespace Go.Proofs.YtkgojnjlfkijiaaGreat
open Go.RowKit
set_option linter.unusedVariables false
set_option linter.unusedSimpArgs false

def lieB (i s n : Int) : Bool := decide (s ≤ i) && decide (i - n < s)
theorem lieB_true {i s n : Int} : lieB i s n = true ↔ s ≤ i ∧ i - n < s := by unfold lieB; simp
/-- A sample of a plane that another is pasted on. -/
def pasV (S : List Nat) (a : Nat) (T : List Nat) (c d : Nat) (X Y : Int) (x y : Nat) : Nat :=
  if (lieB x X c && lieB y Y d) = true then smp T c ((x : Int) - X).toNat ((y : Int) - Y).toNat else smp S a x y
/-- A sample of a plane made greater. -/
def extV (S : List Nat) (a b : Nat) (k L T : Int) (x y : Nat) : Nat := smp S a (borV k a ((x : Int) - L)).toNat (borV k b ((y : Int) - T)).toNat
end Go.Proofs.YtkgojnjlfkijiaaGreat
/- Planes made and moved: the program's New, Get, Crop, Paste, Flip, Transpose. -/
namespace Go.Proofs.YtkgojnjlfkijiaaGreat
open Go.RowKit
set_option linter.unusedVariables false
set_option linter.unusedSimpArgs false

/-- An empty answer. -/
def noPl : Value := .agg #[.int .i64 0, .int .i64 0, .slice none 0 0]
/-- A plane in memory of its own, and no error. -/
def Made (w : World) (a b : Nat) (S : List Nat) (e : Ending) (w' : World) : Prop := ∃ g, e = .returned (.tuple #[.agg #[.int .i64 (a : Int), .int .i64 (b : Int), .slice (some ⟨g, 0, none⟩) (a * b) (a * b)], .int .i64 0]) ∧ Own w w' g S
/-- No plane, and an error. -/
def Fails (w : World) (r : Int) (e : Ending) (w' : World) : Prop := e = .returned (.tuple #[noPl, .int .i64 r]) ∧ Q w w'
theorem Q.put {w wr : World} (h : Q w wr) {c j : Nat} (hc : w.heap.size ≤ c) {v : Value} : Q w (wr.setCell ⟨c, j, none⟩ v) := h.set hc v
theorem Own.base {w0 w wr : World} {b : Nat} {S : List Nat} (h : Own w wr b S) (q : Q w0 w) : Own w0 wr b S := ⟨q.trans h.q, Nat.le_trans q.1.size h.new, h.cells, h.free⟩

end Go.Proofs.YtkgojnjlfkijiaaGreat
/- Planes made and moved: the program's New, Get, Crop, Paste. -/
namespace Go.Proofs.YtkgojnjlfkijiaaGreat
open Go.RowKit
set_option linter.unusedVariables false
set_option linter.unusedSimpArgs false

/-- A rectangle within a plane. -/
structure Rct (a b x0 y0 c d : Nat) : Prop where
  c1 : 1 ≤ c
  c2 : x0 + c ≤ a
  d1 : 1 ≤ d
  d2 : y0 + d ≤ b
theorem Rct.size {a b x0 y0 c d : Nat} (h : Rct a b x0 y0 c d) (hs : Size a b) : Size c d := by
  have := h.c1; have := h.c2; have := h.d1; have := h.d2; have := hs.a2; have := hs.b2
  refine ⟨by omega, by omega, by omega, by omega, Nat.le_trans (Nat.mul_le_mul (by omega) (by omega)) hs.ab⟩
def wiB (x0 y0 x1 y1 a b : Int) : Bool := decide (0 ≤ x0) && (decide (x0 < x1) && (decide (x1 ≤ a) && (decide (0 ≤ y0) && (decide (y0 < y1) && decide (y1 ≤ b)))))
theorem wiB_true {x0 y0 x1 y1 : Int} {a b : Nat} : wiB x0 y0 x1 y1 a b = true ↔ ∃ X Y c d : Nat, x0 = X ∧ y0 = Y ∧ x1 = (X + c : Nat) ∧ y1 = (Y + d : Nat) ∧ Rct a b X Y c d := by
  unfold wiB
  simp only [Bool.and_eq_true, decide_eq_true_eq]
  constructor
  · rintro ⟨h1, h2, h3, h4, h5, h6⟩
    exact ⟨x0.toNat, y0.toNat, (x1 - x0).toNat, (y1 - y0).toNat, by omega, by omega, by omega, by omega, by omega, by omega, by omega, by omega⟩
  · rintro ⟨X, Y, c, d, rfl, rfl, rfl, rfl, h1, h2, h3, h4⟩
    omega
set_option maxHeartbeats 1000000 in
set_option maxRecDepth 100000 in
theorem new_bad (W H : Int) (hr : sizeB W H = false) (s : Nat) (w : World) :
    Calls Tryz.prog 112 #[.int .i64 W, .int .i64 H, .int .u32 (s : Int)] w (Fails w 50) := by
  obtain ⟨w1, hw1⟩ : ∃ w1, (w.alloc (.cells #[.int .u32 (s : Int)] 22)).alloc (.cells #[.int .i64 0, .int .i64 0, .slice none 0 0] 52) = w1 := ⟨_, rfl⟩
  have Q1 : Hid (Q w w1) := by rw [← hw1]; exact (((Q.refl w).cells _ _).cells _ _)
  have S1 : w1.heap.size = w.heap.size + 1 + 1 := by rw [← hw1]; simp
  have z00 : w1.cell? ⟨w.heap.size, 0, none⟩ = some (.int .u32 (s : Int)) := by rw [← hw1]; simp [go_sem]
  have z10 : w1.cell? ⟨w.heap.size + 1, 0, none⟩ = some (.int .i64 0) := by rw [← hw1]; simp [go_sem]
  have z11 : w1.cell? ⟨w.heap.size + 1, 1, none⟩ = some (.int .i64 0) := by rw [← hw1]; simp [go_sem]
  have z12 : w1.cell? ⟨w.heap.size + 1, 2, none⟩ = some (.slice none 0 0) := by rw [← hw1]; simp [go_sem]
  have yf : ∀ j, w1.frozen? ⟨w.heap.size + 1, j, none⟩ = false := fun j => by rw [← hw1]; simp [go_sem]
  have B := isSize_any W H w1
  rw [hr] at B
  clear hr
  go_enter Tryz.func112, Tryz.ntmps112
  go_wp2_with fail
  refine B.mono ?_
  rintro e w3 ⟨rfl, rfl⟩
  clear hw1
  go_wp2_with fail
  refine bodyPost_ret (v := .tuple #[noPl, .int .i64 50]) (by simp [results, Tryz.results112, go_sem, noPl, z10, z11, z12]) rfl ⟨rfl, ?_⟩
  exact ((Q1.out.put (by omega)).put (by omega)).put (by omega)
set_option maxHeartbeats 1000000 in
set_option maxRecDepth 100000 in
theorem new_good {a b : Nat} (hs : Size a b) (s : Nat) (w : World) :
    Calls Tryz.prog 112 #[.int .i64 (a : Int), .int .i64 (b : Int), .int .u32 (s : Int)] w (Made w a b (tab a b fun _ _ => s)) := by
  obtain ⟨w1, hw1⟩ : ∃ w1, (w.alloc (.cells #[.int .u32 (s : Int)] 22)).alloc (.cells #[.int .i64 0, .int .i64 0, .slice none 0 0] 52) = w1 := ⟨_, rfl⟩
  have Q1 : Hid (Q w w1) := by rw [← hw1]; exact (((Q.refl w).cells _ _).cells _ _)
  have S1 : w1.heap.size = w.heap.size + 1 + 1 := by rw [← hw1]; simp
  have z00 : w1.cell? ⟨w.heap.size, 0, none⟩ = some (.int .u32 (s : Int)) := by rw [← hw1]; simp [go_sem]
  have z10 : w1.cell? ⟨w.heap.size + 1, 0, none⟩ = some (.int .i64 0) := by rw [← hw1]; simp [go_sem]
  have z11 : w1.cell? ⟨w.heap.size + 1, 1, none⟩ = some (.int .i64 0) := by rw [← hw1]; simp [go_sem]
  have z12 : w1.cell? ⟨w.heap.size + 1, 2, none⟩ = some (.slice none 0 0) := by rw [← hw1]; simp [go_sem]
  have yf : ∀ j, w1.frozen? ⟨w.heap.size + 1, j, none⟩ = false := fun j => by rw [← hw1]; simp [go_sem]
  have B := isSize_any (a : Int) (b : Int) w1
  rw [sizeB_true.2 hs.b] at B
  have HS : Hid (Size a b) := hs
  clear hs
  go_enter Tryz.func112, Tryz.ntmps112
  go_wp2_with fail
  refine B.mono ?_
  rintro e w3 ⟨rfl, rfl⟩
  clear hw1
  go_wp2_with fail
  refine (lay_any a b HS.out 128 #[.pointer (some ⟨w.heap.size, 0, none⟩)] (enters_of Tryz.func128 (by kernel_rfl) rfl) (fun _ _ => s) w3 ?_).mono ?_
  · intro x y w' hx hy hq
    exact new1_any (hq.cell z00)
  rintro e w4 ⟨g3, rfl, O3⟩
  have q3 := O3.q
  replace z10 := q3.cell z10
  replace z11 := q3.cell z11
  replace z12 := q3.cell z12
  have yh : ∀ j, w4.frozen? ⟨w.heap.size + 1, j, none⟩ = false := fun j => by rw [q3.2]; exact yf j
  have hg : g3 ≠ w.heap.size + 1 := by
    have h1 := O3.new
    omega
  have HO : Hid (Own w w4 g3 (tab a b fun _ _ => s)) := O3.base Q1.out
  clear O3 q3 yf
  go_wp2_with fail
  refine bodyPost_ret (v := .tuple #[.agg #[.int .i64 (a : Int), .int .i64 (b : Int), .slice (some ⟨g3, 0, none⟩) (a * b) (a * b)], .int .i64 0]) (by simp [results, Tryz.results112, go_sem, z10, z11, z12]) rfl ⟨g3, rfl, ?_⟩
  exact ((HO.out.set (by omega) (fun e => hg e.symm)).set (by omega) (fun e => hg e.symm)).set (by omega) (fun e => hg e.symm)
end Go.Proofs.YtkgojnjlfkijiaaGreat
/- New. -/
namespace Go.Proofs.YtkgojnjlfkijiaaGreat
open Go.RowKit
set_option linter.unusedVariables false
set_option linter.unusedSimpArgs false

def noPic : Value := .agg #[.int .i64 0, .slice none 0 0]
set_option maxHeartbeats 1000000 in
set_option maxRecDepth 100000 in
theorem new8_80 (sp n W H : Int) (s : Nat) (h : numB n = false) (w : World) :
    Calls Tryz.prog 72 #[.int .i64 sp, .int .i64 n, .int .i64 W, .int .i64 H, .int .u32 (s : Int)] w fun e w' => e = .returned (.tuple #[.agg #[.int .i64 0, .slice none 0 0], .int .i64 80]) ∧ Q w w' := by
  have A : ∀ w : World, Calls Tryz.prog 108 #[.int .i64 n] w fun e w' => e = .returned (.bool false) ∧ w' = w := fun w => h ▸ isnumber_any n w
  have qa : Hid (∀ c t, Q w (w.alloc (.cells c t))) := fun c t => (Q.refl w).cells c t
  clear h
  go_enter Tryz.func72, Tryz.ntmps72
  go_wp2_with fail
  refine (A _).mono ?_
  rintro e w1 ⟨rfl, rfl⟩
  go_wp2_with fail
  refine bodyPost_ret (v := .tuple #[.agg #[.int .i64 0, .slice none 0 0], .int .i64 80]) (by simp [results, Tryz.results72, go_sem]) rfl ⟨rfl, ?_⟩
  exact qa.out _ _
set_option maxHeartbeats 1000000 in
set_option maxRecDepth 100000 in
theorem new8_81 (sp n : Int) {a b : Nat} (hs : Size a b) (s : Nat) (h : numB n = true) (hsp : spcB sp n = false) (w : World) :
    Calls Tryz.prog 72 #[.int .i64 sp, .int .i64 n, .int .i64 (a : Int), .int .i64 (b : Int), .int .u32 (s : Int)] w fun e w' => e = .returned (.tuple #[.agg #[.int .i64 0, .slice none 0 0], .int .i64 81]) ∧ Q w w' := by
  have A : ∀ w : World, Calls Tryz.prog 108 #[.int .i64 n] w fun e w' => e = .returned (.bool true) ∧ w' = w := fun w => h ▸ isnumber_any n w
  have B : Hid (∀ w : World, Calls Tryz.prog 111 #[.int .i64 sp, .int .i64 n] w fun e w' => e = .returned (.bool false) ∧ w' = w) := fun w => hsp ▸ isspace8_any sp n w
  have HS : Hid (Size a b) := hs
  have qa : Hid (∀ c t, Q w (w.alloc (.cells c t))) := fun c t => (Q.refl w).cells c t
  clear h hsp hs
  go_enter Tryz.func72, Tryz.ntmps72
  go_wp2_with fail
  refine (A _).mono ?_
  rintro e w1 ⟨rfl, rfl⟩
  go_wp2_with fail
  refine (new_good HS.out s _).mono ?_
  rintro e w2 ⟨g, rfl, ho⟩
  have q2 := ho.q
  have HQ : Hid (Q w w2) := (qa.out _ _).trans q2
  have r0 : w2.cell? ⟨w.heap.size, 0, none⟩ = some (.int .i64 0) := q2.cell (by simp [go_sem])
  have r1 : w2.cell? ⟨w.heap.size, 1, none⟩ = some (.slice none 0 0) := q2.cell (by simp [go_sem])
  have rf : ∀ j, w2.frozen? ⟨w.heap.size, j, none⟩ = false := fun j => (q2.2 _).trans (by simp [go_sem])
  have r0' := fun c t => ((Q.refl w2).cells c t).cell r0
  have r1' := fun c t => ((Q.refl w2).cells c t).cell r1
  have rf' : ∀ c t j, (w2.alloc (.cells c t)).frozen? ⟨w.heap.size, j, none⟩ = false := fun c t j => (((Q.refl w2).cells c t).2 _).trans (rf j)
  clear ho q2
  go_wp2_with fail
  refine (B.out _).mono ?_
  rintro e w3 ⟨rfl, rfl⟩
  go_wp2_with fail
  refine bodyPost_ret (v := .tuple #[.agg #[.int .i64 0, .slice none 0 0], .int .i64 81]) (by simp [results, Tryz.results72, go_sem, r0', r1']) rfl ⟨rfl, ?_⟩
  exact ((HQ.out.cells _ _).set (Nat.le_refl _) _).set (Nat.le_refl _) _
def sameS (a b s : Nat) : List Nat := tab a b fun _ _ => s
theorem sameS_lt {a b s : Nat} (h : s < 4294967296) (i : Nat) : (sameS a b s).getD i 0 < 4294967296 := tab_lt (by decide) (fun _ _ => h) i
set_option maxHeartbeats 4000000 in
set_option maxRecDepth 100000 in
theorem new8_good (sp : Int) (n a b : Nat) (hs : Size a b) (s : Nat) (hsl : s < 4294967296) (n1 : 1 ≤ n) (n4 : n ≤ 4) (hsp : spcB sp n = true) (w : World) :
    Calls Tryz.prog 72 #[.int .i64 sp, .int .i64 (n : Int), .int .i64 (a : Int), .int .i64 (b : Int), .int .u32 (s : Int)] w fun e w' => ∃ g' cap' M, e = .returned (.tuple #[.agg #[.int .i64 sp, .slice (some ⟨g', 0, none⟩) n cap'], .int .i64 0]) ∧ M.map PL.S = List.replicate n (sameS a b s) ∧ Hid (Nw w.heap.size w' g' cap' a b M) ∧ Q w w' := by
  have h : numB n = true := by unfold numB; simp; omega
  have A : ∀ w : World, Calls Tryz.prog 108 #[.int .i64 (n : Int)] w fun e w' => e = .returned (.bool true) ∧ w' = w := fun w => h ▸ isnumber_any n w
  have B : Hid (∀ w : World, Calls Tryz.prog 111 #[.int .i64 sp, .int .i64 (n : Int)] w fun e w' => e = .returned (.bool true) ∧ w' = w) := fun w => hsp ▸ isspace8_any sp n w
  have HSZ : Hid (Size a b) := hs
  have qa : Hid (∀ c t, Q w (w.alloc (.cells c t))) := fun c t => (Q.refl w).cells c t
  have l1 := enters_of Tryz.func113 (by kernel_rfl) rfl
  clear h hsp hs
  go_enter Tryz.func72, Tryz.ntmps72
  go_wp2_with fail
  refine (A _).mono ?_
  rintro e w1 ⟨rfl, rfl⟩
  go_wp2_with fail
  refine (new_good HSZ.out s _).mono ?_
  rintro e w2 ⟨gq, rfl, ho⟩
  have q2 := ho.q
  have HQ2 : Hid (Q w w2) := (qa.out _ _).trans q2
  have hS : (sameS a b s).length = a * b := tab_length _ _ _
  have HX : Hid (Gd w2 (a * b) ⟨gq, 0, a * b, sameS a b s⟩) := ⟨hS, by show (sameS a b s).length ≤ a * b; omega, ho.cells, sameS_lt hsl⟩
  have r0 : w2.cell? ⟨w.heap.size, 0, none⟩ = some (.int .i64 0) := q2.cell (by simp [go_sem])
  have r1 : w2.cell? ⟨w.heap.size, 1, none⟩ = some (.slice none 0 0) := q2.cell (by simp [go_sem])
  have rf : ∀ j, w2.frozen? ⟨w.heap.size, j, none⟩ = false := fun j => (q2.2 _).trans (by simp [go_sem])
  obtain ⟨NN, hNN⟩ : ∃ NN, a * b = NN := ⟨_, rfl⟩
  have HNN : Hid (a * b = NN ∧ (sameS a b s).length = NN) := ⟨hNN, by rw [hS, hNN]⟩
  rw [hNN]
  clear ho q2 hS hNN
  go_wp2_with fail
  refine (B.out _).mono ?_
  rintro e w3 ⟨rfl, rfl⟩
  go_wp2_with fail
  have q23 : Q w2 ((w2.alloc (Obj.cells #[Value.int IntKind.i64 ↑a, Value.int IntKind.i64 ↑b, Value.slice (some { block := gq, off := 0 }) NN NN] 52)).alloc (Obj.cells #[Value.int IntKind.i64 sp, Value.slice none 0 0] 33)) := ((Q.refl w2).cells _ _).cells _ _
  have hz3 : ((w2.alloc (Obj.cells #[Value.int IntKind.i64 ↑a, Value.int IntKind.i64 ↑b, Value.slice (some { block := gq, off := 0 }) NN NN] 52)).alloc (Obj.cells #[Value.int IntKind.i64 sp, Value.slice none 0 0] 33)).heap.size = w2.heap.size + 2 := by simp
  have k0 : ((w2.alloc (Obj.cells #[Value.int IntKind.i64 ↑a, Value.int IntKind.i64 ↑b, Value.slice (some { block := gq, off := 0 }) NN NN] 52)).alloc (Obj.cells #[Value.int IntKind.i64 sp, Value.slice none 0 0] 33)).cell? ⟨w2.heap.size, 0, none⟩ = some (.int .i64 (a : Int)) := by simp [go_sem]
  have k1 : ((w2.alloc (Obj.cells #[Value.int IntKind.i64 ↑a, Value.int IntKind.i64 ↑b, Value.slice (some { block := gq, off := 0 }) NN NN] 52)).alloc (Obj.cells #[Value.int IntKind.i64 sp, Value.slice none 0 0] 33)).cell? ⟨w2.heap.size, 1, none⟩ = some (.int .i64 (b : Int)) := by simp [go_sem]
  have k2 : ((w2.alloc (Obj.cells #[Value.int IntKind.i64 ↑a, Value.int IntKind.i64 ↑b, Value.slice (some { block := gq, off := 0 }) NN NN] 52)).alloc (Obj.cells #[Value.int IntKind.i64 sp, Value.slice none 0 0] 33)).cell? ⟨w2.heap.size, 2, none⟩ = some (.slice (some ⟨gq, 0, none⟩) NN NN) := by simp [go_sem]
  have HB : Hid (Bld (w2.heap.size + 2) ((w2.alloc (Obj.cells #[Value.int IntKind.i64 ↑a, Value.int IntKind.i64 ↑b, Value.slice (some { block := gq, off := 0 }) NN NN] 52)).alloc (Obj.cells #[Value.int IntKind.i64 sp, Value.slice none 0 0] 33)) (w2.heap.size + 1) sp (.slice none 0 0) a b []) := Bld.start (by simp [go_sem]) (by simp [go_sem]) (fun j => by simp [go_sem]) (by omega) a b
  generalize ((w2.alloc (Obj.cells #[Value.int IntKind.i64 ↑a, Value.int IntKind.i64 ↑b, Value.slice (some { block := gq, off := 0 }) NN NN] 52)).alloc (Obj.cells #[Value.int IntKind.i64 sp, Value.slice none 0 0] 33)) = w4 at *
  have HQ4 : Hid (Q w w4) := HQ2.out.trans q23
  have hlt2 : w.heap.size < w2.heap.size := cell_in r0
  replace r0 := q23.cell r0
  replace r1 := q23.cell r1
  replace rf : ∀ j, w4.frozen? ⟨w.heap.size, j, none⟩ = false := fun j => (q23.2 _).trans (rf j)
  go_loopg [40] n (fun m s40 wx => ∃ (i : Nat) (v : Value) (M : List PL), s40 = .int .i64 i ∧ i + m = n ∧ Hid (M.map PL.S = List.replicate i (sameS a b s)) ∧ Hid (Bld (w2.heap.size + 2) wx (w2.heap.size + 1) sp v a b M) ∧ Hid (Q w wx) ∧ Hid (Q w2 wx) ∧ Hid (Fr w4 wx (fun b => b ≠ w2.heap.size + 1 ∧ b < w2.heap.size + 2)))
  case atStart => exact ⟨0, _, [], rfl, by omega, rfl, HB, HQ4, q23, Fr.refl _ _⟩
  case round =>
    obtain ⟨i, v, M, rfl, him, HS, HB, HQ, HQ2r, HF⟩ := hrel
    have hml : M.length = i := by have := congrArg List.length HS.out; rw [List.length_map, List.length_replicate] at this; exact this
    by_cases hi : i < n
    · have hi0 : (0 : Int) ≤ (i : Int) := by omega
      have hi1 : (i : Int) < (n : Int) := by omega
      have k0r := HF.out.cell k0 ⟨by show w2.heap.size ≠ _; omega, by show w2.heap.size < _; omega⟩
      have k1r := HF.out.cell k1 ⟨by show w2.heap.size ≠ _; omega, by show w2.heap.size < _; omega⟩
      have k2r := HF.out.cell k2 ⟨by show w2.heap.size ≠ _; omega, by show w2.heap.size < _; omega⟩
      have t1 := HB.out.c1
      have f1 := qw_cell t1
      have f2 := qw_cell k0r
      have f3 := qw_cell k1r
      have f4 := qw_cell k2r
      have n0 := qw_some wr
      go_wp2_with fail
      refine wp_region_mk [0, 1, 2] [[3, 4, 5, 6, 7]] 5 _ (by kernel_rfl) (by kernel_rfl) rfl (by kernel_rfl) ?_
      simp only [List.filterMap_cons, List.filterMap_nil, List.getElem?_cons_zero, List.getElem?_cons_succ]
      repeat (first | go_big_quiet_step (fail) | quiet_step (fail))
      refine wpQuiet_nil ?_
      intro x4 hx4
      clear f1 f2 f3 f4 n0 k0r k1r k2r
      refine tree_call 3 rfl rfl (run_fn 113 #[.tmp 44] _ rfl l1 (vs := #[plV a b ⟨gq, 0, a * b, sameS a b s⟩]) (by simp [Act.eval, plV, PL.v, HNN.out.1, HNN.out.2])) (copiedp_u x4 a b ⟨gq, 0, a * b, sameS a b s⟩ (HX.out.next (HQ2r.out.trans hx4)) HSZ.out) ?_
      rintro u w5 ⟨y, rfl, hy, hm, hq5⟩
      have hq35 : Q wr w5 := hx4.trans hq5
      have HY : Hid (y.S = sameS a b s) := hy
      clear hy
      refine ⟨hq35, ?_⟩
      have HB5 := HB.out.next (hq35.cells #[.int .i64 (a : Int), .int .i64 (b : Int), .slice (some ⟨y.g, y.o, none⟩) y.S.length y.cap] 52)
      have hz4 : w2.heap.size + 2 ≤ wr.heap.size := by have := HF.out.size; omega
      have hlow := hm.out.low
      have hs34 := hx4.1.size
      obtain ⟨g7, cap7, w7, hr7, ct7, cf7, HB7, HQ7, HF7⟩ := HB5.app (HQ.out.trans (hq35.cells _ _)) (by have := HQ2.out.1.size; omega) (by have := hq35.1.size; simp; omega) (y := y) ((hm.out.next ((Q.refl w5).cells _ _)).mono (by omega)) (fun e => by have := (own_lt HB.out.row.own e).2; omega) (fun z hz' e => by have := (HB.out.row.it z hz').1.high; omega) (by omega) (ad := ⟨w5.heap.size, 0, none⟩) (c := 1) (one_pl a b y)
      refine tree_run 4 rfl rfl (v := .slice (some ⟨w5.heap.size, 0, none⟩) 1 1) (x' := w5.alloc (.cells #[.int .i64 (a : Int), .int .i64 (b : Int), .slice (some ⟨y.g, y.o, none⟩) y.S.length y.cap] 52)) (by simp [execOp, go_sem]) (hq35.cells _ _) ?_
      refine tree_runF 5 rfl rfl rfl (x' := w7) (run_appop rfl (v := v) (v' := .slice (some ⟨w5.heap.size, 0, none⟩) 1 1) (by simp [Act.eval, Act.put]) (by simp [Act.eval, Act.put]) hr7) ?_
      refine tree_runF 6 rfl rfl rfl (v := .pointer (some ⟨w2.heap.size + 1, 1, none⟩)) (x' := w7) (by simp [execOp, go_sem]) ?_
      refine tree_skipF 7 rfl rfl rfl (x' := w7.setCell ⟨w2.heap.size + 1, 1, none⟩ (.slice (some ⟨g7, 0, none⟩) (M.length + 1) cap7)) (by simp [execOp, go_sem, ct7, cf7]) ?_
      refine tree_nil ?_
      have HM : Hid ((M ++ [y]).map PL.S = List.replicate (i + 1) (sameS a b s)) := by
        show _ = _
        rw [List.map_append, HS.out, List.replicate_succ', List.map_cons, List.map_nil, HY.out]
      have HF8 : Hid (Fr w4 (w7.setCell ⟨w2.heap.size + 1, 1, none⟩ (.slice (some ⟨g7, 0, none⟩) (M.length + 1) cap7)) (fun b => b ≠ w2.heap.size + 1 ∧ b < w2.heap.size + 2)) := (HF.out.trans ((hq35.cells _ _).fr _)).trans (HF7.out.mono (fun z hz' _ => ⟨hz'.1, fun e => by have := (own_lt HB.out.row.own e).1; omega⟩))
      have HQ28 : Hid (Q w2 (w7.setCell ⟨w2.heap.size + 1, 1, none⟩ (.slice (some ⟨g7, 0, none⟩) (M.length + 1) cap7))) := (HF7.out.mono (R' := fun b => b < w2.heap.size) (fun z hz' _ => ⟨by omega, fun e => by have := (own_lt HB.out.row.own e).1; omega⟩)).q (HQ2r.out.trans (hq35.cells _ _)) (fun b hb => hb)
      generalize w7.setCell ⟨w2.heap.size + 1, 1, none⟩ (.slice (some ⟨g7, 0, none⟩) (M.length + 1) cap7) = w8 at *
      clear hr7 ct7 cf7 HB5 hm hq5 hq35 hx4 t1
      go_wp2_with fail
      go_roundg (n - (i + 1))
      case measure => go_light; omega
      case rel => go_light; exact ⟨i + 1, _, _, by go_num, by omega, HM, HB7, HQ7, HQ28, HF8⟩
    · have hie : i = n := by omega
      have HM : Hid (M.map PL.S = List.replicate n (sameS a b s)) := by rw [hie] at HS; exact HS
      have t0 := HB.out.c0
      have t1 := HB.out.c1
      have r0r := HF.out.cell r0 ⟨by show w.heap.size ≠ _; omega, by show w.heap.size < _; omega⟩
      have r1r := HF.out.cell r1 ⟨by show w.heap.size ≠ _; omega, by show w.heap.size < _; omega⟩
      have rfr : ∀ j, wr.frozen? ⟨w.heap.size, j, none⟩ = false := fun j => (HF.out.frz _).trans (rf j)
      obtain ⟨hvo, ⟨hv1, hv2⟩ | ⟨gv, capv, cur, hv1, hv2⟩⟩ := HB.out.row.own
      · omega
      · subst hv1
        have HW : Hid (Nw (w2.heap.size + 2) wr gv capv a b M) := HB.out.row.nw HSZ.out (by omega) (by omega)
        rw [hml, hie] at t1
        clear hv2 hvo
        go_wp2_with fail
        have F9 : Fr wr ((wr.setCell ⟨w.heap.size, 0, none⟩ (.int .i64 sp)).setCell ⟨w.heap.size, 1, none⟩ (.slice (some ⟨gv, 0, none⟩) n capv)) (fun b => b ≠ w.heap.size) := ((Fr.refl wr _).set (fun h => h rfl) _).set (fun h => h rfl) _
        refine bodyPost_ret (v := .tuple #[.agg #[.int .i64 sp, .slice (some ⟨gv, 0, none⟩) n capv], .int .i64 0]) (by simp [results, Tryz.results72, go_sem, r0r, r1r]) rfl ⟨gv, capv, M, rfl, HM.out, (HW.out.keep F9 (by have := HW.out.low; omega) (fun x hx => by have := (HW.out.it x hx).1.low; omega)).mono (by omega), (HQ.out.set (Nat.le_refl _) _).set (Nat.le_refl _) _⟩
end Go.Proofs.YtkgojnjlfkijiaaGreat
/- A picture of the call's own, written sample by sample: plain facts. -/
namespace Go.Proofs.YtkgojnjlfkijiaaGreat
open Go.RowKit
set_option linter.unusedVariables false
set_option linter.unusedSimpArgs false

def rowP (V : Nat → Nat → Nat) (m k i : Nat) : List Nat := (List.range m).map fun j => if j < i then V k j else 0
def stp (V : Nat → Nat → Nat) (n m k i : Nat) : List (List Nat) := (List.range n).map fun p => (List.range m).map fun j => if p < k ∨ (p = k ∧ j < i) then V p j else 0
def fl (V : Nat → Nat → Nat) (n m : Nat) : List (List Nat) := (List.range n).map fun p => (List.range m).map (V p)
theorem stp_zero (V : Nat → Nat → Nat) (n a b : Nat) : List.replicate n (sameS a b 0) = stp V n (a * b) 0 0 := by
  symm
  rw [List.eq_replicate_iff]
  refine ⟨by simp [stp], fun l hl => ?_⟩
  obtain ⟨p, _, rfl⟩ := List.mem_map.1 hl
  refine List.map_congr_left fun j hj => ?_
  rw [if_neg (by omega)]
theorem stp_next (V : Nat → Nat → Nat) (n m k : Nat) : stp V n m k m = stp V n m (k + 1) 0 := by
  refine List.map_congr_left fun p hp => List.map_congr_left fun j hj => ?_
  have := List.mem_range.1 hj
  by_cases h : p < k + 1
  · rw [if_pos (by omega), if_pos (by omega)]
  · rw [if_neg (by omega), if_neg (by omega)]
theorem stp_full (V : Nat → Nat → Nat) (n m : Nat) : stp V n m n 0 = fl V n m := by
  refine List.map_congr_left fun p hp => List.map_congr_left fun j hj => ?_
  have := List.mem_range.1 hp
  rw [if_pos (by omega)]
theorem stp_row {V : Nat → Nat → Nat} {n m k i : Nat} (hk : k < n) : (stp V n m k i)[k]? = some (rowP V m k i) := by
  unfold stp
  rw [List.getElem?_map, List.getElem?_range hk]
  show some _ = some _
  congr 1
  refine List.map_congr_left fun j hj => ?_
  by_cases h : j < i
  · rw [if_pos (by omega), if_pos h]
  · rw [if_neg (by omega), if_neg h]
theorem rowP_len (V : Nat → Nat → Nat) (m k i : Nat) : (rowP V m k i).length = m := by simp [rowP]
theorem rowP_put {V : Nat → Nat → Nat} {m k i : Nat} (hi : i < m) : (rowP V m k i).set i (V k i) = rowP V m k (i + 1) := by
  refine List.ext_getElem? fun j => ?_
  rw [List.getElem?_set]
  unfold rowP
  rw [List.getElem?_map, List.getElem?_map]
  by_cases hj : j < m
  · rw [List.getElem?_range hj]
    by_cases h : i = j
    · subst h
      rw [if_pos rfl, if_pos (by simp; exact hi)]
      show _ = some (if i < i + 1 then _ else _)
      rw [if_pos (by omega)]
    · rw [if_neg h]
      show some (if j < i then _ else _) = some (if j < i + 1 then _ else _)
      by_cases h2 : j < i
      · rw [if_pos h2, if_pos (by omega)]
      · rw [if_neg h2, if_neg (by omega)]
  · rw [if_neg (by omega), List.getElem?_eq_none (by simp; omega)]; rfl
theorem stp_put {V : Nat → Nat → Nat} {n m k i : Nat} (hk : k < n) (hi : i < m) : (stp V n m k i).set k ((rowP V m k i).set i (V k i)) = stp V n m k (i + 1) := by
  rw [rowP_put hi]
  refine List.ext_getElem? fun j => ?_
  rw [List.getElem?_set]
  by_cases hj : j < n
  · by_cases h : k = j
    · subst h
      rw [if_pos rfl, if_pos (by simp [stp]; exact hk), stp_row hk]
    · rw [if_neg h]
      unfold stp
      rw [List.getElem?_map, List.getElem?_map, List.getElem?_range hj]
      show some _ = some _
      congr 1
      refine List.map_congr_left fun q hq => ?_
      by_cases h2 : j < k
      · rw [if_pos (by omega), if_pos (by omega)]
      · rw [if_neg (by omega), if_neg (by omega)]
  · rw [if_neg (by omega), List.getElem?_eq_none (by simp [stp]; omega), List.getElem?_eq_none (by simp [stp]; omega)]
theorem fl_get {V : Nat → Nat → Nat} {n m p : Nat} (hp : p < n) : (fl V n m)[p]? = some ((List.range m).map (V p)) := by
  unfold fl
  rw [List.getElem?_map, List.getElem?_range hp]; rfl
theorem fl_ext {V V' : Nat → Nat → Nat} {n m : Nat} (h : ∀ p j, p < n → j < m → V p j = V' p j) : fl V n m = fl V' n m :=
  List.map_congr_left fun p hp => List.map_congr_left fun j hj => h p j (List.mem_range.1 hp) (List.mem_range.1 hj)
/-- A plane with another sample at a place. -/
def PL.put (x : PL) (i v : Nat) : PL := ⟨x.g, x.o, x.cap, x.S.set i v⟩
theorem PL.put_v (x : PL) (i v : Nat) : (x.put i v).v = x.v := by unfold PL.v PL.put; rw [List.length_set]
theorem set_at {M : List PL} {k j : Nat} {y z : PL} (h : (M.set k y)[j]? = some z) : (j = k ∧ z = y) ∨ (j ≠ k ∧ M[j]? = some z) := by
  rw [List.getElem?_set] at h
  split at h
  · rename_i e
    split at h
    · injection h with h; exact Or.inl ⟨e.symm, h.symm⟩
    · cases h
  · rename_i e; exact Or.inr ⟨fun e' => e e'.symm, h⟩
theorem ap_ne {M : List PL} (h : M.Pairwise (fun x y => x.g ≠ y.g)) {j k : Nat} {x y : PL} (hj : M[j]? = some x) (hk : M[k]? = some y) (hn : j ≠ k) : x.g ≠ y.g := by
  obtain ⟨lj, ej⟩ := List.getElem?_eq_some_iff.1 hj
  obtain ⟨lk, ek⟩ := List.getElem?_eq_some_iff.1 hk
  have hp := List.pairwise_iff_getElem.1 h
  rcases Nat.lt_or_gt_of_ne hn with c | c
  · have := hp j k lj lk c; rw [ej, ek] at this; exact this
  · have := hp k j lk lj c; rw [ej, ek] at this; exact fun e => this e.symm
theorem Mine.put {lo : Nat} {w : World} {n : Nat} {x : PL} (h : Mine lo w n x) {i v : Nat} (hi : i < n) (hv : v < 4294967296) : Mine lo (w.setCell ⟨x.g, i, none⟩ (.int .u32 (v : Nat))) n (x.put i v) := by
  have hc := h.gd.us i (by rw [h.gd.len]; exact hi)
  rw [h.o, Nat.zero_add] at hc
  refine ⟨h.o, h.low, by show x.g < _; simpa using h.high, ⟨by show (x.S.set i v).length = n; rw [List.length_set]; exact h.gd.len, by show (x.S.set i v).length ≤ x.cap; rw [List.length_set]; exact h.gd.room, fun j hj => ?_, fun j => ?_⟩, fun j => ?_, fun j hj => ?_, h.cm⟩
  · have hj : j < (x.S.set i v).length := hj
    rw [List.length_set] at hj
    show (w.setCell ⟨x.g, i, none⟩ _).cell? ⟨x.g, x.o + j, none⟩ = some (.int .u32 (((x.S.set i v).getD j 0 : Nat) : Int))
    rw [h.o, Nat.zero_add]
    by_cases e : i = j
    · subst e
      rw [World.cell?_setCell_same _ _ _ hc, List.getD_eq_getElem?_getD, List.getElem?_set_self hj]; rfl
    · rw [World.cell?_setCell_other _ _ _ _ (fun c => e (congrArg Addr.off c)), List.getD_eq_getElem?_getD, List.getElem?_set_ne e, ← List.getD_eq_getElem?_getD]
      have := h.gd.us j hj
      rw [h.o, Nat.zero_add] at this
      exact this
  · show (x.S.set i v).getD j 0 < _
    rw [List.getD_eq_getElem?_getD, List.getElem?_set]
    split
    · split
      · exact hv
      · decide
    · rw [← List.getD_eq_getElem?_getD]; exact h.gd.lt j
  · rw [World.frozen?_setCell]; exact h.free j
  · by_cases e : i = j
    · subst e; exact ⟨_, World.cell?_setCell_same _ _ _ hc⟩
    · obtain ⟨u, hu⟩ := h.all j hj
      exact ⟨u, by rw [World.cell?_setCell_other _ _ _ _ (fun c => e (congrArg Addr.off c))]; exact hu⟩
theorem Nw.put {lo : Nat} {w : World} {g cap a b : Nat} {M : List PL} (h : Nw lo w g cap a b M) {k : Nat} {x : PL} (hx : M[k]? = some x) {i v : Nat} (hi : i < a * b) (hv : v < 4294967296) :
    Nw lo (w.setCell ⟨x.g, i, none⟩ (.int .u32 (v : Nat))) g cap a b (M.set k (x.put i v)) := by
  have hm : x ∈ M := List.mem_of_getElem? hx
  obtain ⟨m1, m2⟩ := h.it x hm
  have F : Fr w (w.setCell ⟨x.g, i, none⟩ (.int .u32 (v : Nat))) (fun z => z ≠ x.g) := (Fr.refl w _).set (fun c => c rfl) _
  have all : ∀ z ∈ M.set k (x.put i v), Mine lo (w.setCell ⟨x.g, i, none⟩ (.int .u32 (v : Nat))) (a * b) z ∧ z.g ≠ g := fun z hz => by
    obtain ⟨j, hj⟩ := List.mem_iff_getElem?.1 hz
    rcases set_at hj with ⟨_, rfl⟩ | ⟨hne, hj⟩
    · exact ⟨m1.put hi hv, m2⟩
    · obtain ⟨z1, z2⟩ := h.it z (List.mem_of_getElem? hj)
      exact ⟨z1.keep F (ap_ne h.ap hj hx hne), z2⟩
  refine ⟨⟨h.pc.size, by rw [List.length_set]; exact h.pc.n1, by rw [List.length_set]; exact h.pc.n4, fun j z hz => ?_, fun z hz => (all z hz).1.gd⟩, h.low, Nat.lt_of_lt_of_le h.high F.size, by rw [List.length_set]; exact h.room, fun j => (F.frz _).trans (h.free j), all, ?_⟩
  · have gx : g ≠ x.g := fun e => m2 e.symm
    have key : w.cell? ⟨g, 0 + j * 3, none⟩ = some (.int .i64 (a : Int)) ∧ w.cell? ⟨g, 0 + j * 3 + 1, none⟩ = some (.int .i64 (b : Int)) ∧ w.cell? ⟨g, 0 + j * 3 + 2, none⟩ = some z.v := by
      rcases set_at hz with ⟨rfl, rfl⟩ | ⟨_, hj⟩
      · rw [PL.put_v]; exact h.pc.row j x hx
      · exact h.pc.row j z hj
    exact ⟨F.cell key.1 gx, F.cell key.2.1 gx, F.cell key.2.2 gx⟩
  · rw [List.pairwise_iff_getElem]
    intro p q hp hq hpq
    obtain ⟨y, hy⟩ : ∃ y, (M.set k (x.put i v))[p]? = some y := ⟨_, List.getElem?_eq_getElem hp⟩
    obtain ⟨z, hz⟩ : ∃ z, (M.set k (x.put i v))[q]? = some z := ⟨_, List.getElem?_eq_getElem hq⟩
    have ey := (List.getElem?_eq_some_iff.1 hy).2
    have ez := (List.getElem?_eq_some_iff.1 hz).2
    rw [ey, ez]
    rcases set_at hy with ⟨h1, e1⟩ | ⟨h1, hy⟩ <;> rcases set_at hz with ⟨h2, e2⟩ | ⟨h2, hz⟩
    · omega
    · rw [e1]; have := ap_ne h.ap hx hz (by omega); exact this
    · rw [e2]; have := ap_ne h.ap hy hx (by omega); exact this
    · exact ap_ne h.ap hy hz (by omega)
theorem map_put {M : List PL} {k : Nat} {x : PL} (i v : Nat) : (M.set k (x.put i v)).map PL.S = (M.map PL.S).set k (x.S.set i v) := by rw [List.map_set]; rfl
end Go.Proofs.YtkgojnjlfkijiaaGreat
/- mix.drawn: a picture told by a function of planes' and samples' numbers. -/
namespace Go.Proofs.YtkgojnjlfkijiaaGreat
open Go.RowKit
set_option linter.unusedVariables false
set_option linter.unusedSimpArgs false

set_option maxHeartbeats 4000000 in
set_option maxRecDepth 100000 in
theorem drawn_good (w : World) (sp : Int) (g o cap a b n m : Nat) (L : List PL) (h : Pc w g o a b L) (hn : L.length = n) (hcap : n ≤ cap) (hsp : spcB sp n = true) (hm : a * b = m) (f : FuncId) (fr : Array Value) (V : Nat → Nat → Nat) (hV : ∀ p j, p < n → j < m → V p j < 4294967296)
    (en : ∀ (args : Array Value) (x : World), (callFunc f args).run Tryz.prog x = .ok (.enter f args) x)
    (hc : ∀ (x : World) (p j : Nat), Q w x → p < n → j < m → Calls Tryz.prog f (#[.int .i64 (p : Int), .int .i64 (j : Int)] ++ fr) x fun e x' => e = .returned (.int .u32 (V p j : Nat)) ∧ Q x x') :
    Calls Tryz.prog 45 #[.agg #[.int .i64 sp, .slice (some ⟨g, o, none⟩) n cap], .func (.func f) #[] fr] w fun e w' => ∃ g' cap' M, e = .returned (.agg #[.int .i64 sp, .slice (some ⟨g', 0, none⟩) n cap']) ∧ M.map PL.S = fl V n m ∧ Hid (Nw w.heap.size w' g' cap' a b M) ∧ Q w w' := by
  have HC : Hid (∀ (x : World) (p j : Nat), Q w x → p < n → j < m → Calls Tryz.prog f (#[.int .i64 (p : Int), .int .i64 (j : Int)] ++ fr) x fun e x' => e = .returned (.int .u32 (V p j : Nat)) ∧ Q x x') := hc
  have HV : Hid (∀ p j, p < n → j < m → V p j < 4294967296) := hV
  have HP : Hid (Pc w g o a b L) := h
  have HN : Hid (L.length = n) := hn
  have n4 : n ≤ 4 := by rw [← hn]; exact h.n4
  have n1 : 1 ≤ n := by rw [← hn]; exact h.n1
  have m1 : 1 ≤ m := by rw [← hm]; exact h.size.pos
  have m2 : m ≤ 65536 := by rw [← hm]; exact h.size.ab
  have HSP : Hid (spcB sp n = true) := hsp
  have HM : Hid (a * b = m) := hm
  obtain ⟨x0, hx0⟩ : ∃ x, L[0]? = some x := ⟨_, List.getElem?_eq_getElem (by omega)⟩
  obtain ⟨d0, d1, d2⟩ := h.row 0 x0 hx0
  rw [Nat.zero_mul, Nat.add_zero] at d0 d1 d2
  obtain ⟨w1, hw1⟩ : ∃ w1, (w.alloc (.cells #[.int .i64 sp, .slice (some ⟨g, o, none⟩) n cap] 33)).alloc (.cells #[.int .i64 0, .slice none 0 0] 33) = w1 := ⟨_, rfl⟩
  have H1 : Hid (Q w w1) := by show Q w w1; rw [← hw1]; exact ((Q.refl w).cells _ _).cells _ _
  have k0 : w1.cell? ⟨w.heap.size, 0, none⟩ = some (.int .i64 sp) := by rw [← hw1]; simp [go_sem]
  have k1 : w1.cell? ⟨w.heap.size, 1, none⟩ = some (.slice (some ⟨g, o, none⟩) n cap) := by rw [← hw1]; simp [go_sem]
  have r0 : w1.cell? ⟨w.heap.size + 1, 0, none⟩ = some (.int .i64 0) := by rw [← hw1]; simp [go_sem]
  have r1 : w1.cell? ⟨w.heap.size + 1, 1, none⟩ = some (.slice none 0 0) := by rw [← hw1]; simp [go_sem]
  have rf : ∀ j, w1.frozen? ⟨w.heap.size + 1, j, none⟩ = false := fun j => by rw [← hw1]; simp [go_sem]
  have d0 := H1.out.cell d0
  have d1 := H1.out.cell d1
  have d2 := H1.out.cell d2
  unfold PL.v at d2
  clear h hn hsp hm hV hc hx0
  go_enter Tryz.func45, Tryz.ntmps45
  have k0a := fun c t => ((Q.refl w1).cells c t).cell k0
  have k1a := fun c t => ((Q.refl w1).cells c t).cell k1
  go_wp2_with fail
  obtain ⟨w2, hw2⟩ : ∃ w2, w1.alloc (.cells #[.int .i64 (a : Int), .int .i64 (b : Int), .slice (some ⟨x0.g, x0.o, none⟩) x0.S.length x0.cap] 52) = w2 := ⟨_, rfl⟩
  have q12 : Q w1 w2 := by rw [← hw2]; exact (Q.refl w1).cells _ _
  have H2 : Hid (Q w w2) := H1.out.trans q12
  have r0 := q12.cell r0
  have r1 := q12.cell r1
  have rf : ∀ j, w2.frozen? ⟨w.heap.size + 1, j, none⟩ = false := fun j => (q12.2 _).trans (rf j)
  rw [hw2]
  clear k0a k1a hw1 hw2 q12 d0 d1 d2
  refine (new8_good sp n a b HP.out.size 0 (by decide) n1 n4 HSP.out w2).mono ?_
  rintro e w3 ⟨g', cap', M0, rfl, hM0, hW0, q23⟩
  have hlo := hW0.out.low
  obtain ⟨lo, hloe⟩ : ∃ lo, w2.heap.size = lo := ⟨_, rfl⟩
  rw [hloe] at hW0 hlo
  have hwlo : w.heap.size + 1 < lo := by rw [← hloe]; exact cell_in r0
  obtain ⟨w4, hw4⟩ : ∃ w4, w3.alloc (.cells #[.int .i64 sp, .slice (some ⟨g', 0, none⟩) n cap'] 33) = w4 := ⟨_, rfl⟩
  have q34 : Q w3 w4 := by rw [← hw4]; exact (Q.refl w3).cells _ _
  have H4 : Hid (Q w w4) := (H2.out.trans q23).trans q34
  have r0 := (q23.trans q34).cell r0
  have r1 := (q23.trans q34).cell r1
  have rf : ∀ j, w4.frozen? ⟨w.heap.size + 1, j, none⟩ = false := fun j => ((q23.trans q34).2 _).trans (rf j)
  have t0 : w4.cell? ⟨w3.heap.size, 0, none⟩ = some (.int .i64 sp) := by rw [← hw4]; simp [go_sem]
  have t1 : w4.cell? ⟨w3.heap.size, 1, none⟩ = some (.slice (some ⟨g', 0, none⟩) n cap') := by rw [← hw4]; simp [go_sem]
  have HW4 : Hid (Nw lo w4 g' cap' a b M0) := hW0.out.next q34
  have hT0 : ∀ x ∈ M0, x.g < w3.heap.size := fun x hx => (hW0.out.it x hx).1.high
  have hgT : g' < w3.heap.size := hW0.out.high
  have hlen0 : M0.length = n := by have := congrArg List.length hM0; rw [List.length_map, List.length_replicate] at this; exact this
  rw [stp_zero, HM.out] at hM0
  have HI : Hid (M0.map PL.S = stp V n m 0 0 ∧ (∀ x ∈ M0, x.g < w3.heap.size)) := ⟨hM0, hT0⟩
  have hloT : lo ≤ w3.heap.size := by omega
  obtain ⟨T, hT⟩ : ∃ T, w3.heap.size = T := ⟨_, rfl⟩
  rw [hT] at HI hloT t0 t1 hgT
  clear hM0 hT0 hW0 q23 q34 hloe hlen0
  go_wp2_with fail
  clear hw4 hT
  go_loopg [31] n (fun k s31 wx => ∃ (p : Nat) (M : List PL), s31 = .int .i64 p ∧ p + k = n ∧ Hid (M.map PL.S = stp V n m p 0 ∧ (∀ x ∈ M, x.g < T)) ∧ Hid (Nw lo wx g' cap' a b M) ∧ Hid (Q w wx) ∧ Hid (Fr w4 wx (fun z => z < lo ∨ z = T)))
  case atStart => exact ⟨0, M0, rfl, by omega, HI, HW4, H4, Fr.refl _ _⟩
  case round =>
    obtain ⟨p, M, rfl, hpk, HI, HW, HQ, HF⟩ := hrel
    have hml : M.length = n := by have := congrArg List.length HI.out.1; rw [List.length_map] at this; rw [this]; simp [stp]
    by_cases hp : p < n
    · have hp1 : (p : Int) < (n : Int) := by omega
      have hp0 : (0 : Int) ≤ (p : Int) := by omega
      obtain ⟨x, hx⟩ : ∃ x, M[p]? = some x := ⟨_, List.getElem?_eq_getElem (by omega)⟩
      have hxm := HW.out.it x (List.mem_of_getElem? hx)
      obtain ⟨_, _, e2⟩ := HW.out.pc.row p x hx
      rw [Nat.zero_add] at e2
      unfold PL.v at e2
      rw [hxm.1.o, hxm.1.gd.len, HM.out] at e2
      have t1r := HF.out.cell t1 (Or.inr rfl)
      have HX : Hid (M[p]? = some x) := hx
      obtain ⟨gx, hgx⟩ : ∃ gx, x.g = gx := ⟨_, rfl⟩
      obtain ⟨cx, hcx⟩ : ∃ cx, x.cap = cx := ⟨_, rfl⟩
      rw [hgx, hcx] at e2
      have HXG : Hid (x.g = gx) := hgx
      clear hx hxm hgx hcx hml
      go_wp2_with fail
      go_loopg [42] m (fun k s42 wx => ∃ (j : Nat) (M : List PL) (x : PL), s42 = .int .i64 j ∧ j + k = m ∧ Hid (M.map PL.S = stp V n m p j ∧ (∀ x ∈ M, x.g < T)) ∧ Hid (Nw lo wx g' cap' a b M) ∧ Hid (M[p]? = some x ∧ x.g = gx) ∧ Hid (Q w wx) ∧ Hid (Fr w4 wx (fun z => z < lo ∨ z = T)))
      case atStart => exact ⟨0, M, x, rfl, by omega, HI, HW, ⟨HX.out, HXG.out⟩, HQ, HF⟩
      case round =>
        obtain ⟨j, M, x, rfl, hjk, HI, HW, HX, HQ, HF⟩ := hrel
        by_cases hj : j < m
        · have hj1 : (j : Int) < (m : Int) := by omega
          have hj0 : (0 : Int) ≤ (j : Int) := by omega
          have A := HC.out wr p j HQ.out hp hj
          have hzlt := HV.out p j hp hj
          obtain ⟨z, hz⟩ : ∃ z, V p j = z := ⟨_, rfl⟩
          rw [hz] at A hzlt
          have HZ : Hid (V p j = z ∧ z < 4294967296) := ⟨hz, hzlt⟩
          clear hz hzlt
          go_wp2_with fail
          refine A.mono ?_
          rintro e w6 ⟨rfl, q6⟩
          have HW6 := HW.out.next q6
          have hxm := HW6.it x (List.mem_of_getElem? HX.out.1)
          have hc6 := hxm.1.gd.us j (by rw [hxm.1.gd.len, HM.out]; exact hj)
          rw [hxm.1.o, Nat.zero_add, HX.out.2] at hc6
          have fz6 := hxm.1.free j
          rw [HX.out.2] at fz6
          have hgl : lo ≤ gx := by have := hxm.1.low; rw [HX.out.2] at this; exact this
          have hgh : gx < T := by have := HI.out.2 x (List.mem_of_getElem? HX.out.1); rw [HX.out.2] at this; exact this
          have HWN : Hid (Nw lo (w6.setCell ⟨gx, j, none⟩ (.int .u32 (z : Nat))) g' cap' a b (M.set p (x.put j z))) := by
            have := HW6.put HX.out.1 (show j < a * b by rw [HM.out]; exact hj) HZ.out.2
            rw [HX.out.2] at this
            exact this
          have HIN : Hid ((M.set p (x.put j z)).map PL.S = stp V n m p (j + 1) ∧ (∀ y ∈ M.set p (x.put j z), y.g < T)) := by
            have hr := congrArg (fun l => l[p]?) HI.out.1
            simp only [List.getElem?_map, HX.out.1, stp_row hp, Option.map_some] at hr
            injection hr with hr
            refine ⟨by rw [map_put, HI.out.1, hr, ← HZ.out.1]; exact stp_put hp hj, fun y hy => ?_⟩
            obtain ⟨i, hi⟩ := List.mem_iff_getElem?.1 hy
            rcases set_at hi with ⟨_, e1⟩ | ⟨_, hi⟩
            · rw [e1]
              show x.g < T
              rw [HX.out.2]; exact hgh
            · exact HI.out.2 y (List.mem_of_getElem? hi)
          have HXN : Hid ((M.set p (x.put j z))[p]? = some (x.put j z) ∧ (x.put j z).g = gx) := ⟨by rw [List.getElem?_set_self]; have := (List.getElem?_eq_some_iff.1 HX.out.1).1; exact this, HX.out.2⟩
          have HQN : Hid (Q w (w6.setCell ⟨gx, j, none⟩ (.int .u32 (z : Nat)))) := (HQ.out.trans q6).set (by show w.heap.size ≤ gx; omega) _
          have HFN : Hid (Fr w4 (w6.setCell ⟨gx, j, none⟩ (.int .u32 (z : Nat))) (fun z => z < lo ∨ z = T)) := (HF.out.trans (q6.fr _)).set (by show ¬ (gx < lo ∨ gx = T); omega) _
          clear A HW6 hxm q6
          go_wp2_with fail
          go_roundg (m - (j + 1))
          case measure => go_light; omega
          case rel => go_light; exact ⟨j + 1, M.set p (x.put j z), x.put j z, by go_num, by omega, HIN, HWN, HXN, HQN, HFN⟩
        · have hje : j = m := by omega
          subst hje
          have HI2 : Hid (M.map PL.S = stp V n j (p + 1) 0 ∧ (∀ x ∈ M, x.g < T)) := ⟨by rw [HI.out.1, stp_next], HI.out.2⟩
          go_wp2_with fail
          go_roundg (n - (p + 1))
          case measure => go_light; omega
          case rel => go_light; exact ⟨p + 1, M, by go_num, by omega, HI2, HW, HQ, HF⟩
    · have hpe : p = n := by omega
      have HS : Hid (M.map PL.S = fl V n m) := by have := HI.out.1; rw [hpe, stp_full] at this; exact this
      have t0r := HF.out.cell t0 (Or.inr rfl)
      have t1r := HF.out.cell t1 (Or.inr rfl)
      have r0r := HF.out.cell r0 (Or.inl hwlo)
      have r1r := HF.out.cell r1 (Or.inl hwlo)
      have rfr : ∀ j, wr.frozen? ⟨w.heap.size + 1, j, none⟩ = false := fun j => (HF.out.frz _).trans (rf j)
      go_wp2_with fail
      have F9 : Fr wr ((wr.setCell ⟨w.heap.size + 1, 0, none⟩ (.int .i64 sp)).setCell ⟨w.heap.size + 1, 1, none⟩ (.slice (some ⟨g', 0, none⟩) n cap')) (fun b => b ≠ w.heap.size + 1) := ((Fr.refl wr _).set (fun h => h rfl) _).set (fun h => h rfl) _
      refine bodyPost_ret (v := .agg #[.int .i64 sp, .slice (some ⟨g', 0, none⟩) n cap']) (by simp [results, Tryz.results45, go_sem, r0r, r1r]) rfl ⟨g', cap', M, rfl, HS.out, (HW.out.keep F9 (by have := HW.out.low; omega) (fun x hx => by have := (HW.out.it x hx).1.low; omega)).mono (by omega), (HQ.out.set (by show _ ≤ w.heap.size + 1; omega) _).set (by show _ ≤ w.heap.size + 1; omega) _⟩
end Go.Proofs.YtkgojnjlfkijiaaGreat
/- Trees of a drawn region's orders with one, two or three operations that may come up next. -/
namespace Go.Proofs.YtkgojnjlfkijiaaGreat
open Go.RowKit
set_option linter.unusedVariables false
set_option linter.unusedSimpArgs false

/-- As Does; but it is not laid open when a proof of it is sought. -/
structure DoesB (P : Program) (o : Oper) (ρ : Operand → Value) (x : World) (G : Value → World → Prop) : Prop where
  d : Does P o ρ x G
theorem doesB_value {P : Program} {o : Oper} {ρ : Operand → Value} {x x' : World} {G : Value → World → Prop} {v : Value} (hr : (execOp ρ o).run P x = .ok (.value v) x') (h : G v x') : DoesB P o ρ x G := ⟨does_value hr h⟩
theorem doesB_skip {P : Program} {o : Oper} {ρ : Operand → Value} {x x' : World} {G : Value → World → Prop} (hr : (execOp ρ o).run P x = .ok .skip x') (h : G undef x') : DoesB P o ρ x G := ⟨does_skip hr h⟩
theorem doesB_call {P : Program} {o : Oper} {ρ : Operand → Value} {x : World} {G : Value → World → Prop} {f : FuncId} {args : Array Value} (hr : (execOp ρ o).run P x = .ok (.enter f args) x) (h : Calls P f args x fun e x' => ∃ v, e = .returned v ∧ G v x') : DoesB P o ρ x G := ⟨does_call hr h⟩
section
variable {P : Program} {l : List Oper} {rd : List Nat} {ords : List (List Nat)} {C : World → Prop} {N : Act → World → Prop} {n : Nat} {p : List Nat} {A : Act} {x : World}
theorem treeC1 (k : Nat) (hk : (nexts ords p).all (fun j => j == k) = true) {o : Oper} (ho : l[k]? = some o) (h : Does P o A.eval x (fun v x' => (fullB l rd k = false → C x') ∧ wpTree P l rd ords C N n (p ++ [k]) (A.put o.dst v) x')) : wpTree P l rd ords C N (n + 1) p A x := by
  intro k' hk' o' ho'
  have := List.all_eq_true.1 hk k' hk'
  have e : k' = k := by simpa using this
  subst e
  rw [ho] at ho'
  injection ho' with ho'
  subst ho'
  exact h
theorem treeC2 (k j : Nat) (hk : (nexts ords p).all (fun i => i == k || i == j) = true) {o u : Oper} (ho : l[k]? = some o) (hu : l[j]? = some u) (h : Does P o A.eval x (fun v x' => (fullB l rd k = false → C x') ∧ wpTree P l rd ords C N n (p ++ [k]) (A.put o.dst v) x')) (h2 : Does P u A.eval x (fun v x' => (fullB l rd j = false → C x') ∧ wpTree P l rd ords C N n (p ++ [j]) (A.put u.dst v) x')) : wpTree P l rd ords C N (n + 1) p A x := by
  intro k' hk' o' ho'
  have := List.all_eq_true.1 hk k' hk'
  have e : k' = k ∨ k' = j := by simpa using this
  rcases e with e | e
  · subst e
    rw [ho] at ho'
    injection ho' with ho'
    subst ho'
    exact h
  · subst e
    rw [hu] at ho'
    injection ho' with ho'
    subst ho'
    exact h2
theorem treeC3 (k j m : Nat) (hk : (nexts ords p).all (fun i => i == k || (i == j || i == m)) = true) {o u q : Oper} (ho : l[k]? = some o) (hu : l[j]? = some u) (hq : l[m]? = some q) (h : Does P o A.eval x (fun v x' => (fullB l rd k = false → C x') ∧ wpTree P l rd ords C N n (p ++ [k]) (A.put o.dst v) x')) (h2 : Does P u A.eval x (fun v x' => (fullB l rd j = false → C x') ∧ wpTree P l rd ords C N n (p ++ [j]) (A.put u.dst v) x')) (h3 : Does P q A.eval x (fun v x' => (fullB l rd m = false → C x') ∧ wpTree P l rd ords C N n (p ++ [m]) (A.put q.dst v) x')) : wpTree P l rd ords C N (n + 1) p A x := by
  intro k' hk' o' ho'
  have := List.all_eq_true.1 hk k' hk'
  have e : k' = k ∨ k' = j ∨ k' = m := by simpa using this
  rcases e with e | e | e
  · subst e
    rw [ho] at ho'
    injection ho' with ho'
    subst ho'
    exact h
  · subst e
    rw [hu] at ho'
    injection ho' with ho'
    subst ho'
    exact h2
  · subst e
    rw [hq] at ho'
    injection ho' with ho'
    subst ho'
    exact h3
theorem treeB1 (k : Nat) (hk : (nexts ords p).all (fun j => j == k) = true) {o : Oper} (ho : l[k]? = some o) (h : DoesB P o A.eval x (fun v x' => (fullB l rd k = false → C x') ∧ wpTree P l rd ords C N n (p ++ [k]) (A.put o.dst v) x')) : wpTree P l rd ords C N (n + 1) p A x := by
  intro k' hk' o' ho'
  have := List.all_eq_true.1 hk k' hk'
  have e : k' = k := by simpa using this
  subst e
  rw [ho] at ho'
  injection ho' with ho'
  subst ho'
  exact h.d
theorem treeB2 (k j : Nat) (hk : (nexts ords p).all (fun i => i == k || i == j) = true) {o u : Oper} (ho : l[k]? = some o) (hu : l[j]? = some u) (h : DoesB P o A.eval x (fun v x' => (fullB l rd k = false → C x') ∧ wpTree P l rd ords C N n (p ++ [k]) (A.put o.dst v) x')) (h2 : DoesB P u A.eval x (fun v x' => (fullB l rd j = false → C x') ∧ wpTree P l rd ords C N n (p ++ [j]) (A.put u.dst v) x')) : wpTree P l rd ords C N (n + 1) p A x := by
  intro k' hk' o' ho'
  have := List.all_eq_true.1 hk k' hk'
  have e : k' = k ∨ k' = j := by simpa using this
  rcases e with e | e
  · subst e
    rw [ho] at ho'
    injection ho' with ho'
    subst ho'
    exact h.d
  · subst e
    rw [hu] at ho'
    injection ho' with ho'
    subst ho'
    exact h2.d
theorem treeB3 (k j m : Nat) (hk : (nexts ords p).all (fun i => i == k || (i == j || i == m)) = true) {o u q : Oper} (ho : l[k]? = some o) (hu : l[j]? = some u) (hq : l[m]? = some q) (h : DoesB P o A.eval x (fun v x' => (fullB l rd k = false → C x') ∧ wpTree P l rd ords C N n (p ++ [k]) (A.put o.dst v) x')) (h2 : DoesB P u A.eval x (fun v x' => (fullB l rd j = false → C x') ∧ wpTree P l rd ords C N n (p ++ [j]) (A.put u.dst v) x')) (h3 : DoesB P q A.eval x (fun v x' => (fullB l rd m = false → C x') ∧ wpTree P l rd ords C N n (p ++ [m]) (A.put q.dst v) x')) : wpTree P l rd ords C N (n + 1) p A x := by
  intro k' hk' o' ho'
  have := List.all_eq_true.1 hk k' hk'
  have e : k' = k ∨ k' = j ∨ k' = m := by simpa using this
  rcases e with e | e | e
  · subst e
    rw [ho] at ho'
    injection ho' with ho'
    subst ho'
    exact h.d
  · subst e
    rw [hu] at ho'
    injection ho' with ho'
    subst ho'
    exact h2.d
  · subst e
    rw [hq] at ho'
    injection ho' with ho'
    subst ho'
    exact h3.d
end
end Go.Proofs.YtkgojnjlfkijiaaGreat

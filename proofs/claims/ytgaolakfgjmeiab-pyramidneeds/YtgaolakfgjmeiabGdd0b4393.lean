/- A plane that is made of where its samples come from. -/
import Derived.Test.YtgaolakfgjmeiabG08b34131
import Derived.Laws.EntriesVeiled
import Derived.Test.YtgaolakfgjmeiabG9c3b8f81
namespace Go.Proofs.Ytgaolakfgjmeiab
open Go.RowKit
set_option linter.unusedVariables false
set_option linter.unusedSimpArgs false

theorem Own.set {w wr : World} {b : Nat} {S : List Nat} (h : Own w wr b S) {c j : Nat} (hc : w.heap.size ≤ c) (hb : c ≠ b) {v : Value} : Own w (wr.setCell ⟨c, j, none⟩ v) b S := by
  refine ⟨h.q.set hc v, h.new, fun i hi => ?_, fun i => ?_⟩
  · rw [World.cell?_setCell_other _ _ _ _ (fun e => hb (by injection e))]; exact h.cells i hi
  · rw [World.frozen?_setCell]; exact h.free i
set_option maxHeartbeats 4000000 in
set_option maxRecDepth 100000 in
theorem lay_any (a b : Nat) (hs : Size a b) (f : Nat) (cap : Array Value) (E : ∀ (args : Array Value) (w : World), (callFunc f args).run Try.prog w = .ok (.enter f args) w) (G : Nat → Nat → Nat) (w : World)
    (hf : ∀ (x y : Nat) (w' : World), x < a → y < b → Q w w' → Calls Try.prog f (#[.int .i64 (x : Int), .int .i64 (y : Int)] ++ cap) w' fun e w'' => e = .returned (.int .u32 (G x y : Nat)) ∧ Q w' w'') :
    Calls Try.prog 35 #[.agg #[.int .i64 (a : Int), .int .i64 (b : Int), .func (.func f) #[] cap]] w fun e w' => ∃ g, e = .returned (.agg #[.int .i64 (a : Int), .int .i64 (b : Int), .slice (some ⟨g, 0, none⟩) (a * b) (a * b)]) ∧ Own w w' g (tab a b G) := by
  obtain ⟨n, hn⟩ : ∃ n, a * b = n := ⟨_, rfl⟩
  have HN : Hid (a * b = n) := hn
  have n2 : n ≤ 65536 := by rw [← hn]; exact hs.ab
  obtain ⟨M, hmk, hfill⟩ := make_u32 n (by omega)
  have HF : Hid (∀ (x y : Nat) (w' : World), x < a → y < b → Q w w' → Calls Try.prog f (#[.int .i64 (x : Int), .int .i64 (y : Int)] ++ cap) w' fun e w'' => e = .returned (.int .u32 (G x y : Nat)) ∧ Q w' w'') := hf
  have HFl : Hid (∀ w : World, Fill w (w.alloc (.cells M 30)) w.heap.size n (fun _ => 0) n) := hfill
  obtain ⟨a1, a2, b1, b2, ab⟩ := hs
  have hcast : (a : Int) * (b : Int) = (n : Int) := by rw [← Int.natCast_mul, hn]
  rw [hn]
  obtain ⟨w1, hw1⟩ : ∃ w1, (w.alloc (.cells #[.int .i64 (a : Int), .int .i64 (b : Int), .func (.func f) #[] cap] 61)).alloc (.cells #[.int .i64 0, .int .i64 0, .slice none 0 0] 24) = w1 := ⟨_, rfl⟩
  have Q1 : Hid (Q w w1) := by rw [← hw1]; exact ((Q.refl w).cells _ _).cells _ _
  have S1 : w1.heap.size = w.heap.size + 1 + 1 := by rw [← hw1]; simp
  have z1 : w1.cell? ⟨w.heap.size, 0, none⟩ = some (.int .i64 (a : Int)) := by rw [← hw1]; simp [go_sem]
  have z2 : w1.cell? ⟨w.heap.size, 1, none⟩ = some (.int .i64 (b : Int)) := by rw [← hw1]; simp [go_sem]
  have z3 : w1.cell? ⟨w.heap.size, 2, none⟩ = some (.func (.func f) #[] cap) := by rw [← hw1]; simp [go_sem]
  have y1 : w1.cell? ⟨w.heap.size + 1, 0, none⟩ = some (.int .i64 0) := by rw [← hw1]; simp [go_sem]
  have y2 : w1.cell? ⟨w.heap.size + 1, 1, none⟩ = some (.int .i64 0) := by rw [← hw1]; simp [go_sem]
  have y3 : w1.cell? ⟨w.heap.size + 1, 2, none⟩ = some (.slice none 0 0) := by rw [← hw1]; simp [go_sem]
  have yf : ∀ j, w1.frozen? ⟨w.heap.size + 1, j, none⟩ = false := fun j => by rw [← hw1]; simp [go_sem]
  clear hf hfill ab hn
  go_enter Try.func35, Try.ntmps35
  go_wp2_with fail
  clear hw1
  have F0 : Hid (Fill w1 (w1.alloc (.cells M 30)) w1.heap.size n (fun i => G (i % a) (i / a)) 0) := by
    obtain ⟨p1, p2, p3, p4, p5⟩ := HFl.out w1
    exact ⟨p1, p2, fun i hi => absurd hi (Nat.not_lt_zero _), p4, p5⟩
  generalize w1.alloc _ = w2 at F0 ⊢
  rw [S1] at F0
  obtain ⟨g, hg⟩ : ∃ g, w.heap.size + 1 + 1 = g := ⟨_, rfl⟩
  rw [hg] at F0 ⊢
  go_loopg [15] b (fun m s15 wr => ∃ y : Nat, s15 = .int .i64 y ∧ y + m = b ∧ Hid (Fill w1 wr g n (fun i => G (i % a) (i / a)) (y * a)))
  case atStart => exact ⟨0, rfl, by omega, by rw [Nat.zero_mul]; exact F0⟩
  case round =>
    obtain ⟨y, rfl, hm, FY⟩ := hrel
    by_cases hyb : y < b
    · have c1 := FY.out.q.cell z1
      have hy0 : (0 : Int) ≤ (y : Int) := by omega
      have hy1 : (y : Int) < (b : Int) := by omega
      obtain ⟨ya, hya⟩ : ∃ ya, y * a = ya := ⟨_, rfl⟩
      have hya2 : ya + a ≤ n := by rw [← hya, ← HN.out, Nat.mul_comm a b, ← Nat.succ_mul]; exact Nat.mul_le_mul_right _ (by omega)
      have hya3 : ¬ n = ya := by omega
      have hya4 : ya ≤ n := by omega
      have hyc : (y : Int) * (a : Int) = (ya : Int) := by rw [← Int.natCast_mul, hya]
      have HY : Hid (y * a = ya) := hya
      rw [hya] at FY
      clear hya
      go_wp2_with fail
      go_loopg [26] a (fun m s26 wx => ∃ x : Nat, s26 = .int .i64 x ∧ x + m = a ∧ Hid (Fill w1 wx g n (fun i => G (i % a) (i / a)) (ya + x)))
      case atStart => exact ⟨0, rfl, by omega, FY⟩
      case round =>
        obtain ⟨x, rfl, hmx, FX⟩ := hrel
        by_cases hxa : x < a
        · have c3 := FX.out.q.cell z3
          obtain ⟨u, hu⟩ := FX.out.room (ya + x) (by omega)
          have fz := FX.out.free (ya + x)
          have hx0 : (0 : Int) ≤ (x : Int) := by omega
          have hx1 : (x : Int) < ((n - ya : Nat) : Int) := by omega
          have hx2 : (x : Int) < (a : Int) := by omega
          have C := HF.out x y wr hxa hyb (Q1.out.trans FX.out.q)
          have HG : Hid (G x y = G ((ya + x) % a) ((ya + x) / a)) := by
            show G x y = _
            rw [← HY.out, place_mod y hxa, place_div y hxa]
          go_wp2_with fail
          refine C.mono ?_
          rintro e wx ⟨rfl, qx⟩
          replace hu := qx.cell hu
          have fz' : wx.frozen? ⟨g, ya + x, none⟩ = false := by rw [qx.2]; exact fz
          have FX2 : Hid (Fill w1 (wx.setCell ⟨g, ya + x, none⟩ (.int .u32 (G x y : Nat))) g n (fun i => G (i % a) (i / a)) (ya + x + 1)) := (FX.out.next qx).step (by omega) HG.out
          generalize G x y = V at FX2 ⊢
          clear C HG FX fz
          go_wp2_with fail
          go_roundg (a - (x + 1))
          case measure => go_light; omega
          case rel => go_light; exact ⟨x + 1, by go_num, by omega, FX2⟩
        · have hxe : x = a := by omega
          go_wp2_with fail
          go_roundg (b - (y + 1))
          case measure => go_light; omega
          case rel =>
            go_light
            refine ⟨y + 1, by go_num, by omega, ?_⟩
            rw [Nat.succ_mul, HY.out]
            rw [hxe] at FX
            exact FX
    · have hye : y = b := by omega
      have FE : Hid (Own w wr g (tab a b G)) := by
        have f := FY.out
        rw [hye, Nat.mul_comm b a, HN.out] at f
        obtain ⟨h1, h2, h3, h4⟩ := Fill.own (S := tab a b G) f (by rw [tab_length]; exact HN.out) (fun i hi => by rw [← HN.out] at hi; exact tab_get hi)
        exact ⟨Q1.out.trans h1, by omega, h3, h4⟩
      have c1 := FY.out.q.cell z1
      have c2 := FY.out.q.cell z2
      have d1 := FY.out.q.cell y1
      have d2 := FY.out.q.cell y2
      have d3 := FY.out.q.cell y3
      have df : ∀ j, wr.frozen? ⟨w.heap.size + 1, j, none⟩ = false := fun j => by rw [FY.out.q.2]; exact yf j
      have hne : g ≠ w.heap.size + 1 := by omega
      clear FY z1 z2 z3 y1 y2 y3 yf
      go_wp2_with fail
      refine bodyPost_ret (v := .agg #[.int .i64 (a : Int), .int .i64 (b : Int), .slice (some ⟨g, 0, none⟩) n n]) (by simp [results, Try.results35, go_sem, d1, d2, d3]) rfl ⟨g, rfl, ?_⟩
      exact FE.out.set (by omega) (fun e => hne e.symm) |>.set (by omega) (fun e => hne e.symm) |>.set (by omega) (fun e => hne e.symm)
end Go.Proofs.Ytgaolakfgjmeiab
/- Where samples come from: the function values of the program. -/
namespace Go.Proofs.Ytgaolakfgjmeiab
open Go.RowKit
/-- A plane in a variable. -/
structure PlBox (w : World) (B a b : Nat) (v : Value) : Prop where
  c0 : w.cell? ⟨B, 0, none⟩ = some (.int .i64 (a : Int))
  c1 : w.cell? ⟨B, 1, none⟩ = some (.int .i64 (b : Int))
  c2 : w.cell? ⟨B, 2, none⟩ = some v
theorem PlBox.next {w w' : World} {B a b : Nat} {v : Value} (h : PlBox w B a b v) (q : Q w w') : PlBox w' B a b v := ⟨q.cell h.c0, q.cell h.c1, q.cell h.c2⟩
theorem new1_any {B s : Nat} {x y : Int} {w : World} (hB : w.cell? ⟨B, 0, none⟩ = some (.int .u32 (s : Int))) :
    Calls Try.prog 34 #[.int .i64 x, .int .i64 y, .pointer (some ⟨B, 0, none⟩)] w fun e w' => e = .returned (.int .u32 (s : Nat)) ∧ Q w w' := by
  go_enter Try.func34, Try.ntmps34
  go_wp2_with fail
  go_ret
  exact ⟨rfl, Q.refl _⟩
end Go.Proofs.Ytgaolakfgjmeiab
/- Pasting and extending: where samples come from. -/
namespace Go.Proofs.Ytgaolakfgjmeiab
open Go.RowKit
set_option linter.unusedVariables false
set_option linter.unusedSimpArgs false

def lieB (i s n : Int) : Bool := decide (s ≤ i) && decide (i - n < s)
theorem lieB_true {i s n : Int} : lieB i s n = true ↔ s ≤ i ∧ i - n < s := by unfold lieB; simp
/-- A sample of a plane that another is pasted on. -/
def pasV (S : List Nat) (a : Nat) (T : List Nat) (c d : Nat) (X Y : Int) (x y : Nat) : Nat :=
  if (lieB x X c && lieB y Y d) = true then smp T c ((x : Int) - X).toNat ((y : Int) - Y).toNat else smp S a x y
/-- A sample of a plane made greater. -/
def extV (S : List Nat) (a b : Nat) (k L T : Int) (x y : Nat) : Nat := smp S a (borV k a ((x : Int) - L)).toNat (borV k b ((y : Int) - T)).toNat
end Go.Proofs.Ytgaolakfgjmeiab
/- Planes made and moved: the program's New, Get, Crop, Paste, Flip, Transpose. -/
namespace Go.Proofs.Ytgaolakfgjmeiab
open Go.RowKit
set_option linter.unusedVariables false
set_option linter.unusedSimpArgs false

/-- An empty answer. -/
def noPl : Value := .agg #[.int .i64 0, .int .i64 0, .slice none 0 0]
/-- A plane in memory of its own, and no error. -/
def Made (w : World) (a b : Nat) (S : List Nat) (e : Ending) (w' : World) : Prop := ∃ g, e = .returned (.tuple #[.agg #[.int .i64 (a : Int), .int .i64 (b : Int), .slice (some ⟨g, 0, none⟩) (a * b) (a * b)], .int .i64 0]) ∧ Own w w' g S
/-- No plane, and an error. -/
def Fails (w : World) (r : Int) (e : Ending) (w' : World) : Prop := e = .returned (.tuple #[noPl, .int .i64 r]) ∧ Q w w'
theorem Q.put {w wr : World} (h : Q w wr) {c j : Nat} (hc : w.heap.size ≤ c) {v : Value} : Q w (wr.setCell ⟨c, j, none⟩ v) := h.set hc v
theorem Own.base {w0 w wr : World} {b : Nat} {S : List Nat} (h : Own w wr b S) (q : Q w0 w) : Own w0 wr b S := ⟨q.trans h.q, Nat.le_trans q.1.size h.new, h.cells, h.free⟩

end Go.Proofs.Ytgaolakfgjmeiab
/- Planes made and moved: the program's New, Get, Crop, Paste. -/
namespace Go.Proofs.Ytgaolakfgjmeiab
open Go.RowKit
set_option linter.unusedVariables false
set_option linter.unusedSimpArgs false

/-- A rectangle within a plane. -/
structure Rct (a b x0 y0 c d : Nat) : Prop where
  c1 : 1 ≤ c
  c2 : x0 + c ≤ a
  d1 : 1 ≤ d
  d2 : y0 + d ≤ b
theorem Rct.size {a b x0 y0 c d : Nat} (h : Rct a b x0 y0 c d) (hs : Size a b) : Size c d := by
  have := h.c1; have := h.c2; have := h.d1; have := h.d2; have := hs.a2; have := hs.b2
  refine ⟨by omega, by omega, by omega, by omega, Nat.le_trans (Nat.mul_le_mul (by omega) (by omega)) hs.ab⟩
def wiB (x0 y0 x1 y1 a b : Int) : Bool := decide (0 ≤ x0) && (decide (x0 < x1) && (decide (x1 ≤ a) && (decide (0 ≤ y0) && (decide (y0 < y1) && decide (y1 ≤ b)))))
theorem wiB_true {x0 y0 x1 y1 : Int} {a b : Nat} : wiB x0 y0 x1 y1 a b = true ↔ ∃ X Y c d : Nat, x0 = X ∧ y0 = Y ∧ x1 = (X + c : Nat) ∧ y1 = (Y + d : Nat) ∧ Rct a b X Y c d := by
  unfold wiB
  simp only [Bool.and_eq_true, decide_eq_true_eq]
  constructor
  · rintro ⟨h1, h2, h3, h4, h5, h6⟩
    exact ⟨x0.toNat, y0.toNat, (x1 - x0).toNat, (y1 - y0).toNat, by omega, by omega, by omega, by omega, by omega, by omega, by omega, by omega⟩
  · rintro ⟨X, Y, c, d, rfl, rfl, rfl, rfl, h1, h2, h3, h4⟩
    omega
set_option maxHeartbeats 1000000 in
set_option maxRecDepth 100000 in
theorem new_bad (W H : Int) (hr : sizeB W H = false) (s : Nat) (w : World) :
    Calls Try.prog 24 #[.int .i64 W, .int .i64 H, .int .u32 (s : Int)] w (Fails w 50) := by
  obtain ⟨w1, hw1⟩ : ∃ w1, (w.alloc (.cells #[.int .u32 (s : Int)] 30)).alloc (.cells #[.int .i64 0, .int .i64 0, .slice none 0 0] 24) = w1 := ⟨_, rfl⟩
  have Q1 : Hid (Q w w1) := by rw [← hw1]; exact (((Q.refl w).cells _ _).cells _ _)
  have S1 : w1.heap.size = w.heap.size + 1 + 1 := by rw [← hw1]; simp
  have z00 : w1.cell? ⟨w.heap.size, 0, none⟩ = some (.int .u32 (s : Int)) := by rw [← hw1]; simp [go_sem]
  have z10 : w1.cell? ⟨w.heap.size + 1, 0, none⟩ = some (.int .i64 0) := by rw [← hw1]; simp [go_sem]
  have z11 : w1.cell? ⟨w.heap.size + 1, 1, none⟩ = some (.int .i64 0) := by rw [← hw1]; simp [go_sem]
  have z12 : w1.cell? ⟨w.heap.size + 1, 2, none⟩ = some (.slice none 0 0) := by rw [← hw1]; simp [go_sem]
  have yf : ∀ j, w1.frozen? ⟨w.heap.size + 1, j, none⟩ = false := fun j => by rw [← hw1]; simp [go_sem]
  have B := isSize_any W H w1
  rw [hr] at B
  clear hr
  go_enter Try.func24, Try.ntmps24
  go_wp2_with fail
  refine B.mono ?_
  rintro e w3 ⟨rfl, rfl⟩
  clear hw1
  go_wp2_with fail
  refine bodyPost_ret (v := .tuple #[noPl, .int .i64 50]) (by simp [results, Try.results24, go_sem, noPl, z10, z11, z12]) rfl ⟨rfl, ?_⟩
  exact ((Q1.out.put (by omega)).put (by omega)).put (by omega)
set_option maxHeartbeats 1000000 in
set_option maxRecDepth 100000 in
theorem new_good {a b : Nat} (hs : Size a b) (s : Nat) (w : World) :
    Calls Try.prog 24 #[.int .i64 (a : Int), .int .i64 (b : Int), .int .u32 (s : Int)] w (Made w a b (tab a b fun _ _ => s)) := by
  obtain ⟨w1, hw1⟩ : ∃ w1, (w.alloc (.cells #[.int .u32 (s : Int)] 30)).alloc (.cells #[.int .i64 0, .int .i64 0, .slice none 0 0] 24) = w1 := ⟨_, rfl⟩
  have Q1 : Hid (Q w w1) := by rw [← hw1]; exact (((Q.refl w).cells _ _).cells _ _)
  have S1 : w1.heap.size = w.heap.size + 1 + 1 := by rw [← hw1]; simp
  have z00 : w1.cell? ⟨w.heap.size, 0, none⟩ = some (.int .u32 (s : Int)) := by rw [← hw1]; simp [go_sem]
  have z10 : w1.cell? ⟨w.heap.size + 1, 0, none⟩ = some (.int .i64 0) := by rw [← hw1]; simp [go_sem]
  have z11 : w1.cell? ⟨w.heap.size + 1, 1, none⟩ = some (.int .i64 0) := by rw [← hw1]; simp [go_sem]
  have z12 : w1.cell? ⟨w.heap.size + 1, 2, none⟩ = some (.slice none 0 0) := by rw [← hw1]; simp [go_sem]
  have yf : ∀ j, w1.frozen? ⟨w.heap.size + 1, j, none⟩ = false := fun j => by rw [← hw1]; simp [go_sem]
  have B := isSize_any (a : Int) (b : Int) w1
  rw [sizeB_true.2 hs.b] at B
  have HS : Hid (Size a b) := hs
  clear hs
  go_enter Try.func24, Try.ntmps24
  go_wp2_with fail
  refine B.mono ?_
  rintro e w3 ⟨rfl, rfl⟩
  clear hw1
  go_wp2_with fail
  refine (lay_any a b HS.out 34 #[.pointer (some ⟨w.heap.size, 0, none⟩)] (enters_of Try.func34 (by kernel_rfl) rfl) (fun _ _ => s) w3 ?_).mono ?_
  · intro x y w' hx hy hq
    exact new1_any (hq.cell z00)
  rintro e w4 ⟨g3, rfl, O3⟩
  have q3 := O3.q
  replace z10 := q3.cell z10
  replace z11 := q3.cell z11
  replace z12 := q3.cell z12
  have yh : ∀ j, w4.frozen? ⟨w.heap.size + 1, j, none⟩ = false := fun j => by rw [q3.2]; exact yf j
  have hg : g3 ≠ w.heap.size + 1 := by
    have h1 := O3.new
    omega
  have HO : Hid (Own w w4 g3 (tab a b fun _ _ => s)) := O3.base Q1.out
  clear O3 q3 yf
  go_wp2_with fail
  refine bodyPost_ret (v := .tuple #[.agg #[.int .i64 (a : Int), .int .i64 (b : Int), .slice (some ⟨g3, 0, none⟩) (a * b) (a * b)], .int .i64 0]) (by simp [results, Try.results24, go_sem, z10, z11, z12]) rfl ⟨g3, rfl, ?_⟩
  exact ((HO.out.set (by omega) (fun e => hg e.symm)).set (by omega) (fun e => hg e.symm)).set (by omega) (fun e => hg e.symm)
end Go.Proofs.Ytgaolakfgjmeiab
/- The statement's near: a plane of one sample, but for those near. -/
namespace Go.Proofs.Ytgaolakfgjmeiab
open Go.RowKit
set_option linter.unusedVariables false
set_option linter.unusedSimpArgs false

theorem run_mxp {P : Program} (ts : Array TypeId) (t : TypeId) (x y : Int) (w : World) : (Builtin.max_ ts t #[.int .i64 x, .int .i64 y]).run P w = .ok (.int .i64 (max x y)) w := by
  simp [Builtin.max_, Builtin.max2]
  try (split <;> congr 2 <;> omega)
theorem run_mnp {P : Program} (ts : Array TypeId) (t : TypeId) (x y : Int) (w : World) : (Builtin.min_ ts t #[.int .i64 x, .int .i64 y]).run P w = .ok (.int .i64 (min x y)) w := by
  simp [Builtin.min_, Builtin.min2]
  try (split <;> congr 2 <;> omega)
theorem cl_minmax {n : Nat} (hn : 1 ≤ n) (i : Int) : max 0 (min i ((n : Int) - 1)) = ((clP n i : Nat) : Int) := by
  have h := (bor_nat hn i).1
  unfold clP
  rw [h]
  show _ = (if (1 : Int) = 1 then claV n i else _)
  rw [if_pos rfl]
  unfold claV
  split
  · omega
  · split <;> omega
/-- How far near is. -/
structure NrI (w x : World) (g : Nat) (S : List Nat) (s pa pb np : Nat) (x0 x1 y0 j i : Int) : Prop where
  v : ∃ T : List Nat, T.length = np ∧ UIs x g 0 T ∧ (∀ k, T.getD k 0 = S.getD k 0 ∨ T.getD k 0 = s) ∧ (∀ i' j', y0 ≤ j' → x0 ≤ i' → (j' < j ∧ i' ≤ x1) ∨ (j' = j ∧ i' < i) → S.getD (clP pb j' * pa + clP pa i') 0 = T.getD (clP pb j' * pa + clP pa i') 0)
  f : ∀ k, x.frozen? ⟨g, k, none⟩ = false
  q : Q w x
theorem list_set {T : List Nat} {k v i : Nat} (hk : k < T.length) : (T.set k v).getD i 0 = if i = k then v else T.getD i 0 := by
  rw [List.getD_eq_getElem?_getD, List.getElem?_set]
  by_cases h : k = i
  · subst h
    rw [if_pos rfl, if_pos hk, if_pos rfl]; rfl
  · rw [if_neg h, if_neg (fun e => h e.symm), List.getD_eq_getElem?_getD]
theorem NrI.step {w x : World} {g : Nat} {S : List Nat} {s pa pb np : Nat} {x0 x1 y0 j i : Int} (h : NrI w x g S s pa pb np x0 x1 y0 j i) (hg : w.heap.size ≤ g) {k : Nat} (hk : k < np) (hkk : clP pb j * pa + clP pa i = k) : NrI w (x.setCell ⟨g, k, none⟩ (.int .u32 ((S.getD k 0 : Nat) : Int))) g S s pa pb np x0 x1 y0 j (i + 1) := by
  obtain ⟨T, t1, t2, t3, t4⟩ := h.v
  refine ⟨⟨T.set k (S.getD k 0), by rw [List.length_set]; exact t1, fun m hm => ?_, fun m => ?_, fun i' j' h1 h2 h3 => ?_⟩, fun m => by rw [World.frozen?_setCell]; exact h.f m, h.q.set hg _⟩
  · rw [List.length_set] at hm
    rw [list_set (by omega)]
    have hc := t2 m hm
    by_cases e : m = k
    · subst e
      rw [if_pos rfl]
      rw [Nat.zero_add] at hc ⊢
      exact World.cell?_setCell_same _ _ _ hc
    · rw [if_neg e]
      exact (World.cell?_setCell_other _ _ _ _ (fun q => e (by injection q with _ q; omega))).trans hc
  · rw [list_set (by omega)]
    by_cases e : m = k
    · rw [if_pos e, e]; exact Or.inl rfl
    · rw [if_neg e]; exact t3 m
  · rw [list_set (by omega)]
    by_cases e : clP pb j' * pa + clP pa i' = k
    · rw [if_pos e, e]
    · rw [if_neg e]
      refine t4 i' j' h1 h2 ?_
      rcases h3 with h3 | ⟨h3, h4⟩
      · exact Or.inl h3
      · by_cases e2 : i' = i
        · subst e2; subst h3; exact absurd hkk e
        · exact Or.inr ⟨h3, by omega⟩
theorem NrI.next {w x x' : World} {g : Nat} {S : List Nat} {s pa pb np : Nat} {x0 x1 y0 j i : Int} (h : NrI w x g S s pa pb np x0 x1 y0 j i) (q : Q x x') : NrI w x' g S s pa pb np x0 x1 y0 j i := by
  obtain ⟨T, t1, t2, t3, t4⟩ := h.v
  exact ⟨⟨T, t1, t2.next q, t3, t4⟩, fun k => by rw [q.2]; exact h.f k, h.q.trans q⟩
theorem NrI.row {w x : World} {g : Nat} {S : List Nat} {s pa pb np : Nat} {x0 x1 y0 j i : Int} (h : NrI w x g S s pa pb np x0 x1 y0 j i) (hi : x1 < i) : NrI w x g S s pa pb np x0 x1 y0 (j + 1) x0 := by
  obtain ⟨T, t1, t2, t3, t4⟩ := h.v
  refine ⟨⟨T, t1, t2, t3, fun i' j' h1 h2 h3 => t4 i' j' h1 h2 ?_⟩, h.f, h.q⟩
  rcases h3 with ⟨h3, h4⟩ | ⟨h3, h4⟩
  · by_cases e : j' = j
    · exact Or.inr ⟨e, by omega⟩
    · exact Or.inl ⟨by omega, h4⟩
  · omega
set_option maxHeartbeats 8000000 in
set_option maxRecDepth 100000 in
theorem near_any (pa pb np g0 o0 c s : Nat) (x y z t d : Int) (S : List Nat) (w : World) (hsz : Size pa pb) (hnp : pa * pb = np) (hS : S.length = np) (hI : UIs w g0 o0 S) (hc : np ≤ c) (hx : 0 ≤ x ∧ x ≤ 4096) (hy : 0 ≤ y ∧ y ≤ 4096) (hz : 0 ≤ z ∧ z ≤ 4096) (ht : 0 ≤ t ∧ t ≤ 4096) (hd : 0 ≤ d ∧ d ≤ 4) (hxz : x ≤ z) (hyt : y ≤ t) :
    Calls Try.prog 13 #[.agg #[.int .i64 (pa : Int), .int .i64 (pb : Int), .slice (some ⟨g0, o0, none⟩) np c], .int .u32 (s : Int), .int .i64 x, .int .i64 y, .int .i64 z, .int .i64 t, .int .i64 d] w fun e w' => ∃ g, e = .returned (.agg #[.int .i64 (pa : Int), .int .i64 (pb : Int), .slice (some ⟨g, 0, none⟩) np np]) ∧ ∃ T : List Nat, T.length = np ∧ UIs w' g 0 T ∧ (∀ k, T.getD k 0 = S.getD k 0 ∨ T.getD k 0 = s) ∧ Near pa pb S T (x - d) (z + d) (y - d) (t + d) ∧ Qb w w' := by
  have CN : Hid (∀ w : World, Calls Try.prog 24 #[.int .i64 (pa : Int), .int .i64 (pb : Int), .int .u32 (s : Int)] w fun e w' => ∃ g, e = .returned (.tuple #[.agg #[.int .i64 (pa : Int), .int .i64 (pb : Int), .slice (some ⟨g, 0, none⟩) np np], .int .i64 0]) ∧ Own w w' g (tab pa pb fun _ _ => s)) := fun w => (new_good hsz s w).mono fun e w' ⟨g, h1, h2⟩ => ⟨g, by rw [← hnp]; exact h1, h2⟩
  have hnp1 : 1 ≤ np := by rw [← hnp]; exact hsz.pos
  have hnp2 : np ≤ 65536 := by rw [← hnp]; exact hsz.ab
  obtain ⟨w1, hw1⟩ : ∃ w1, (w.alloc (.cells #[.int .i64 (pa : Int), .int .i64 (pb : Int), .slice (some ⟨g0, o0, none⟩) np c] 24)).alloc (.cells #[.int .i64 0, .int .i64 0, .slice none 0 0] 24) = w1 := ⟨_, rfl⟩
  have q1 : Q w w1 := by rw [← hw1]; exact ((Q.refl w).cells _ _).cells _ _
  have p1 : PBx w1 w.heap.size pa pb (.slice (some ⟨g0, o0, none⟩) np c) := ⟨by rw [← hw1]; simp [go_sem], by rw [← hw1]; simp [go_sem], by rw [← hw1]; simp [go_sem]⟩
  have z1 : ZBp w1 (w.heap.size + 1) := ⟨by rw [← hw1]; simp [go_sem], by rw [← hw1]; simp [go_sem], by rw [← hw1]; simp [go_sem], fun j => by rw [← hw1]; simp [go_sem]⟩
  have k0 := p1.c0
  have k1 := p1.c1
  have HS : Hid (pa * pb = np ∧ S.length = np ∧ UIs w1 g0 o0 S ∧ PBx w1 w.heap.size pa pb (.slice (some ⟨g0, o0, none⟩) np c) ∧ ZBp w1 (w.heap.size + 1) ∧ Q w w1) := ⟨hnp, hS, hI.next q1, p1, z1, q1⟩
  clear hnp hS hI p1 z1 q1
  go_enter Try.func13, Try.ntmps13
  go_wp2_with fail
  refine (CN.out _).mono ?_
  rintro e w2 ⟨g, rfl, o2⟩
  obtain ⟨w3, hw3⟩ : ∃ w3, w2.alloc (.cells #[.int .i64 (pa : Int), .int .i64 (pb : Int), .slice (some ⟨g, 0, none⟩) np np] 24) = w3 := ⟨_, rfl⟩
  have q23 : Q w2 w3 := by rw [← hw3]; exact (Q.refl w2).cells _ _
  have c3 : PBx w3 w2.heap.size pa pb (.slice (some ⟨g, 0, none⟩) np np) := ⟨by rw [← hw3]; simp [go_sem], by rw [← hw3]; simp [go_sem], by rw [← hw3]; simp [go_sem]⟩
  have gl : g < w2.heap.size := World.block_lt_of_cell? _ _ (o2.cells 0 (by rw [tab_length, HS.out.1]; exact hnp1))
  have HB : Hid (PBx w3 w2.heap.size pa pb (.slice (some ⟨g, 0, none⟩) np np) ∧ Q w1 w3 ∧ w1.heap.size ≤ g ∧ g < w2.heap.size) := ⟨c3, o2.q.trans q23, o2.new, gl⟩
  have HN0 : Hid (NrI w1 w3 g S s pa pb np (x - d) (z + d) (y - d) (y - d) (x - d)) := by
    refine ⟨⟨tab pa pb fun _ _ => s, by rw [tab_length, HS.out.1], o2.cells.next q23, fun k => ?_, fun i' j' h1 h2 h3 => by omega⟩, fun k => by rw [q23.2]; exact o2.free k, o2.q.trans q23⟩
    by_cases hk : k < np
    · rw [tab_get (by rw [HS.out.1]; exact hk)]; exact Or.inr rfl
    · refine Or.inl ?_
      rw [List.getD_eq_getElem?_getD, List.getElem?_eq_none (by rw [tab_length, HS.out.1]; omega), List.getD_eq_getElem?_getD, List.getElem?_eq_none (by rw [HS.out.2.1]; omega)]
  clear q23 c3 o2 gl k0 k1 hw1
  have hz2 := hz.2
  have ht2 := ht.2
  go_wp2_with fail
  clear hw3
  obtain ⟨J, hJ⟩ : ∃ J : Nat, (J : Int) = t - y + 2 * d + 1 := ⟨(t - y + 2 * d + 1).toNat, by omega⟩
  obtain ⟨I, hI⟩ : ∃ I : Nat, (I : Int) = z - x + 2 * d + 1 := ⟨(z - x + 2 * d + 1).toNat, by omega⟩
  have HJ : Hid ((J : Int) = t - y + 2 * d + 1 ∧ (I : Int) = z - x + 2 * d + 1) := ⟨hJ, hI⟩
  clear hJ hI
  go_loopg [17, 18, 19, 20] J (fun m s17 s18 s19 s20 wr => ∃ j : Int, s17 = .int .i64 j ∧ Hid (j + (m : Int) = t + d + 1 ∧ y - d ≤ j) ∧ Hid (NrI w1 wr g S s pa pb np (x - d) (z + d) (y - d) j (x - d) ∧ Kp g w3 wr))
  case atStart => exact ⟨y - d, rfl, by have := HJ.out; exact ⟨by omega, by omega⟩, HN0.out, Kp.refl _ _⟩
  case round =>
    obtain ⟨j, rfl, hj, HX⟩ := hrel
    have hjb : y - d ≤ j ∧ j ≤ t + d + 1 := by have := hj.out; omega
    by_cases hlt : j ≤ t + d
    · clear HN0
      go_wp2_with fail
      go_loopg [18, 19, 20] I (fun m s18 s19 s20 wr => ∃ i : Int, s18 = .int .i64 i ∧ Hid (i + (m : Int) = z + d + 1 ∧ x - d ≤ i) ∧ Hid (NrI w1 wr g S s pa pb np (x - d) (z + d) (y - d) j i ∧ Kp g w3 wr))
      case atStart => exact ⟨x - d, rfl, by have := HJ.out; exact ⟨by omega, by omega⟩, HX.out⟩
      case round =>
        clear HX
        obtain ⟨i, rfl, hi, HX⟩ := hrel
        have hib : x - d ≤ i ∧ i ≤ z + d + 1 := by have := hi.out; omega
        by_cases hli : i ≤ z + d
        · have hbl : w.heap.size ≠ g ∧ w2.heap.size ≠ g ∧ g0 ≠ g := by
            have a1 := HB.out
            have a2 := World.block_lt_of_cell? _ _ HS.out.2.2.2.1.c0
            have a3 := World.block_lt_of_cell? _ _ (HS.out.2.2.1 0 (by rw [HS.out.2.1]; exact hnp1))
            simp only at a2 a3
            omega
          have b0 := HX.out.2 _ _ _ hbl.1 (HB.out.2.1.cell HS.out.2.2.2.1.c0)
          have b1 := HX.out.2 _ _ _ hbl.1 (HB.out.2.1.cell HS.out.2.2.2.1.c1)
          have b2 := HX.out.2 _ _ _ hbl.1 (HB.out.2.1.cell HS.out.2.2.2.1.c2)
          have b3 := HX.out.2 _ _ _ hbl.2.1 HB.out.1.c2
          obtain ⟨A, hA⟩ : ∃ A, clP pa i = A := ⟨_, rfl⟩
          obtain ⟨B, hB⟩ : ∃ B, clP pb j = B := ⟨_, rfl⟩
          have hA2 : A < pa := by rw [← hA]; exact clP_lt hsz.a1 i
          have hB2 : B < pb := by rw [← hB]; exact clP_lt hsz.b1 j
          obtain ⟨m, hm⟩ : ∃ m, B * pa = m := ⟨_, rfl⟩
          obtain ⟨k, hk⟩ : ∃ k, m + A = k := ⟨_, rfl⟩
          have hkn : k < np := by rw [← hk, ← hm, ← HS.out.1]; exact place_lt hA2 hB2
          have b4 := HX.out.2 _ _ _ hbl.2.2 (HB.out.2.1.cell (HS.out.2.2.1 k (by rw [HS.out.2.1]; exact hkn)))
          obtain ⟨mi, hmi⟩ : ∃ mi, min i ((pa : Int) - 1) = mi := ⟨_, rfl⟩
          obtain ⟨mj, hmj⟩ : ∃ mj, min j ((pb : Int) - 1) = mj := ⟨_, rfl⟩
          have e1 : ∀ (ts : Array TypeId) (t : TypeId) (w : World), (Builtin.min_ ts t #[.int .i64 i, .int .i64 ((pa : Int) - 1)]).run Try.prog w = .ok (.int .i64 mi) w := fun ts t w => by rw [← hmi]; exact run_mnp ts t _ _ w
          have e2 : ∀ (ts : Array TypeId) (t : TypeId) (w : World), (Builtin.max_ ts t #[.int .i64 0, .int .i64 mi]).run Try.prog w = .ok (.int .i64 (A : Int)) w := fun ts t w => by rw [run_mxp, ← hmi, cl_minmax hsz.a1, hA]
          have e3 : ∀ (ts : Array TypeId) (t : TypeId) (w : World), (Builtin.min_ ts t #[.int .i64 j, .int .i64 ((pb : Int) - 1)]).run Try.prog w = .ok (.int .i64 mj) w := fun ts t w => by rw [← hmj]; exact run_mnp ts t _ _ w
          have e4 : ∀ (ts : Array TypeId) (t : TypeId) (w : World), (Builtin.max_ ts t #[.int .i64 0, .int .i64 mj]).run Try.prog w = .ok (.int .i64 (B : Int)) w := fun ts t w => by rw [run_mxp, ← hmj, cl_minmax hsz.b1, hB]
          have hpa2 := hsz.a2
          have hpb2 := hsz.b2
          have hpa1 := hsz.a1
          have hpb1 := hsz.b1
          have hwa : IntKind.i64.wrap ((pa : Int) - 1) = (pa : Int) - 1 := by rw [IntKind.wrap_i64]; omega
          have hwb : IntKind.i64.wrap ((pb : Int) - 1) = (pb : Int) - 1 := by rw [IntKind.wrap_i64]; omega
          have HK : Hid (clP pb j * pa + clP pa i = k ∧ B * pa = m ∧ m + A = k ∧ k < np) := ⟨by rw [hA, hB, hm, hk], hm, hk, hkn⟩
          have n0 := qw_some wr
          have f0 := qw_cell b0
          have f1 := qw_cell b1
          clear hA hB hm hk hmi hmj hbl
          go_wp2_with fail
          refine wp_region_quiet_Q (by kernel_rfl) (by kernel_rfl) ?_
          repeat (first | go_big_quiet_step (fail) | quiet_step (fail))
          refine wpQuiet_nil ?_
          intro w4 hw4
          have hq4 := qw_out hw4
          have b0 := hq4.cell b0
          have b1 := hq4.cell b1
          have b2 := hq4.cell b2
          have b3 := hq4.cell b3
          have b4 := hq4.cell b4
          obtain ⟨sk, hsk⟩ : ∃ sk, S.getD k 0 = sk := ⟨_, rfl⟩
          rw [hsk] at b4
          have HSK : Hid (S.getD k 0 = sk) := hsk
          have HX4 : Hid (NrI w1 w4 g S s pa pb np (x - d) (z + d) (y - d) j i ∧ Kp g w3 w4) := ⟨HX.out.1.next hq4, HX.out.2.trans (Kp.of_q hq4)⟩
          clear hsk n0 f0 f1 e1 e2 e3 e4 hwa hwb hq4 hw4 HX
          have n0 := qw_some w4
          have f0 := qw_cell b0
          have f2 := qw_cell b2
          have f3 := qw_cell b3
          have f4 := qw_cell b4
          have hml : (B : Int) * (pa : Int) = (m : Int) := by rw [← Int.natCast_mul, HK.out.2.1]
          have hwm : IntKind.i64.wrap (m : Int) = (m : Int) := by rw [IntKind.wrap_i64]; have := HK.out; omega
          have hwk : IntKind.i64.wrap ((m : Int) + (A : Int)) = (k : Int) := by rw [IntKind.wrap_i64]; have := HK.out; omega
          have hkn1 : (k : Int) < (np : Int) := by omega
          go_wp2_with fail
          refine wp_region_mk [0, 1, 2, 3, 4, 5, 6, 7, 8, 9, 10, 11, 12, 13, 14, 15, 16, 17] [[18, 19]] 2 _ (by kernel_rfl) (by kernel_rfl) rfl (by kernel_rfl) ?_
          simp only [List.filterMap_cons, List.filterMap_nil, List.getElem?_cons_zero, List.getElem?_cons_succ]
          repeat (first | go_big_quiet_step (fail) | quiet_step (fail))
          refine wpQuiet_nil ?_
          intro x2 hx2
          obtain ⟨T, t1, t2, t3, t4⟩ := (HX4.out.1.next hx2).v
          have hc := t2 k (by rw [t1]; exact hkn)
          rw [Nat.zero_add] at hc
          obtain ⟨u, hu⟩ : ∃ u, x2.cell? ⟨g, k, none⟩ = some u := ⟨_, hc⟩
          have fu := (HX4.out.1.next hx2).f k
          clear t1 t2 t3 t4 hc
          refine tree_runF 18 rfl rfl rfl (v := .pointer (some ⟨g, k, none⟩)) (x' := x2) (by simp [execOp, go_sem, Act.eval, Act.put, hkn, hkn1]) ?_
          refine tree_skipF 19 rfl rfl rfl (x' := x2.setCell ⟨g, k, none⟩ (.int .u32 (sk : Int))) (by simp [execOp, go_sem, Act.eval, Act.put, hu, fu]) ?_
          refine tree_nil ?_
          have HZ : Hid (NrI w1 (x2.setCell ⟨g, k, none⟩ (.int .u32 (sk : Int))) g S s pa pb np (x - d) (z + d) (y - d) j (i + 1) ∧ Kp g w3 (x2.setCell ⟨g, k, none⟩ (.int .u32 (sk : Int)))) := by
            rw [← HSK.out]
            exact ⟨(HX4.out.1.next hx2).step HB.out.2.2.1 HK.out.2.2.2 HK.out.1, (HX4.out.2.trans (Kp.of_q hx2)).trans (Kp.set _ _ _)⟩
          generalize x2.setCell ⟨g, k, none⟩ (.int .u32 (sk : Int)) = w8 at HZ ⊢
          clear n0 f0 f2 f3 f4 hx2 hu fu b0 b1 b2 b3 b4 hml hwm hwk HX4
          go_wp2_with fail
          go_roundg ((z + d - i).toNat)
          case measure => go_light; have := hi.out; omega
          case rel => go_light; exact ⟨i + 1, by go_num, by have := hi.out; exact ⟨by omega, by omega⟩, HZ.out⟩
        · go_wp2_with fail
          go_roundg ((t + d - j).toNat)
          case measure => go_light; have := hj.out; omega
          case rel => go_light; exact ⟨j + 1, by go_num, by have := hj.out; exact ⟨by omega, by omega⟩, HX.out.1.row (by omega), HX.out.2⟩
    · have hbl : w2.heap.size ≠ g ∧ w.heap.size + 1 ≠ g := by
        have a1 := HB.out
        have a2 := HS.out.2.2.2.2.1.lt
        omega
      have b0 := HX.out.2 _ _ _ hbl.1 HB.out.1.c0
      have b1 := HX.out.2 _ _ _ hbl.1 HB.out.1.c1
      have b2 := HX.out.2 _ _ _ hbl.1 HB.out.1.c2
      have zz := HS.out.2.2.2.2.1.nextB HB.out.2.1.qb
      have r0 := HX.out.2 _ _ _ hbl.2 zz.c0
      have r1 := HX.out.2 _ _ _ hbl.2 zz.c1
      have r2 := HX.out.2 _ _ _ hbl.2 zz.c2
      have rf : ∀ j, wr.frozen? ⟨w.heap.size + 1, j, none⟩ = false := fun j => by rw [HX.out.1.q.2]; exact HS.out.2.2.2.2.1.fr j
      have f0 := rf 0
      have f1 := rf 1
      have f2 := rf 2
      obtain ⟨x6, hx6⟩ : ∃ x6, ((wr.setCell ⟨w.heap.size + 1, 0, none⟩ (.int .i64 (pa : Int))).setCell ⟨w.heap.size + 1, 1, none⟩ (.int .i64 (pb : Int))).setCell ⟨w.heap.size + 1, 2, none⟩ (.slice (some ⟨g, 0, none⟩) np np) = x6 := ⟨_, rfl⟩
      have u := ZBp.put ⟨r0, r1, r2, rf⟩ hx6
      have u0 := u.c0
      have u1 := u.c1
      have u2 := u.c2
      have HE : Hid (∃ T : List Nat, T.length = np ∧ UIs x6 g 0 T ∧ (∀ k, T.getD k 0 = S.getD k 0 ∨ T.getD k 0 = s) ∧ Near pa pb S T (x - d) (z + d) (y - d) (t + d) ∧ Qb w x6) := by
        obtain ⟨T, t1, t2, t3, t4⟩ := HX.out.1.v
        refine ⟨T, t1, fun i hi => ?_, t3, fun i' j' h1 h2 h3 h4 => t4 i' j' h3 h1 (Or.inl ⟨by omega, h2⟩), ?_⟩
        · have ne : ∀ {a b : Nat}, (⟨w.heap.size + 1, a, none⟩ : Addr) ≠ ⟨g, b, none⟩ := fun e => hbl.2 (by injection e)
          rw [← hx6, World.cell?_setCell_other _ _ _ _ ne, World.cell?_setCell_other _ _ _ _ ne, World.cell?_setCell_other _ _ _ _ ne]
          exact t2 i hi
        · have hq : Qb w wr := (HS.out.2.2.2.2.2.trans HX.out.1.q).qb
          rw [← hx6]
          exact ((hq.set (Nat.le_succ _) _).set (Nat.le_succ _) _).set (Nat.le_succ _) _
      clear zz rf u hbl HX HN0
      go_wp2_with fail
      obtain ⟨T, h1, h2, h3, h4, h5⟩ := HE.out
      exact bodyPost_ret (v := .agg #[.int .i64 (pa : Int), .int .i64 (pb : Int), .slice (some ⟨g, 0, none⟩) np np]) (by simp [results, Try.results13, go_sem, u0, u1, u2]) rfl ⟨g, rfl, T, h1, h2, h3, h4, h5⟩
end Go.Proofs.Ytgaolakfgjmeiab

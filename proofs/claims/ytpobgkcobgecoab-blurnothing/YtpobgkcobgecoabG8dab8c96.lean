/- A plane that is made of where its samples come from. -/
import Derived.Test.YtpobgkcobgecoabG80233c0d
import Derived.Laws.EntriesVeiled
import Derived.Test.YtpobgkcobgecoabG1acbd9c0
namespace Go.Proofs.Ytpobgkcobgecoab
open Go.RowKit
set_option linter.unusedVariables false
set_option linter.unusedSimpArgs false

theorem Own.set {w wr : World} {b : Nat} {S : List Nat} (h : Own w wr b S) {c j : Nat} (hc : w.heap.size ≤ c) (hb : c ≠ b) {v : Value} : Own w (wr.setCell ⟨c, j, none⟩ v) b S := by
  refine ⟨h.q.set hc v, h.new, fun i hi => ?_, fun i => ?_⟩
  · rw [World.cell?_setCell_other _ _ _ _ (fun e => hb (by injection e))]; exact h.cells i hi
  · rw [World.frozen?_setCell]; exact h.free i
set_option maxHeartbeats 4000000 in
set_option maxRecDepth 100000 in
theorem lay_any (a b : Nat) (hs : Size a b) (f : Nat) (cap : Array Value) (E : ∀ (args : Array Value) (w : World), (callFunc f args).run Try.prog w = .ok (.enter f args) w) (G : Nat → Nat → Nat) (w : World)
    (hf : ∀ (x y : Nat) (w' : World), x < a → y < b → Q w w' → Calls Try.prog f (#[.int .i64 (x : Int), .int .i64 (y : Int)] ++ cap) w' fun e w'' => e = .returned (.int .u32 (G x y : Nat)) ∧ Q w' w'') :
    Calls Try.prog 20 #[.agg #[.int .i64 (a : Int), .int .i64 (b : Int), .func (.func f) #[] cap]] w fun e w' => ∃ g, e = .returned (.agg #[.int .i64 (a : Int), .int .i64 (b : Int), .slice (some ⟨g, 0, none⟩) (a * b) (a * b)]) ∧ Own w w' g (tab a b G) := by
  obtain ⟨n, hn⟩ : ∃ n, a * b = n := ⟨_, rfl⟩
  have HN : Hid (a * b = n) := hn
  have n2 : n ≤ 65536 := by rw [← hn]; exact hs.ab
  obtain ⟨M, hmk, hfill⟩ := make_u32 n (by omega)
  have HF : Hid (∀ (x y : Nat) (w' : World), x < a → y < b → Q w w' → Calls Try.prog f (#[.int .i64 (x : Int), .int .i64 (y : Int)] ++ cap) w' fun e w'' => e = .returned (.int .u32 (G x y : Nat)) ∧ Q w' w'') := hf
  have HFl : Hid (∀ w : World, Fill w (w.alloc (.cells M 25)) w.heap.size n (fun _ => 0) n) := hfill
  obtain ⟨a1, a2, b1, b2, ab⟩ := hs
  have hcast : (a : Int) * (b : Int) = (n : Int) := by rw [← Int.natCast_mul, hn]
  rw [hn]
  obtain ⟨w1, hw1⟩ : ∃ w1, (w.alloc (.cells #[.int .i64 (a : Int), .int .i64 (b : Int), .func (.func f) #[] cap] 50)).alloc (.cells #[.int .i64 0, .int .i64 0, .slice none 0 0] 24) = w1 := ⟨_, rfl⟩
  have Q1 : Hid (Q w w1) := by rw [← hw1]; exact ((Q.refl w).cells _ _).cells _ _
  have S1 : w1.heap.size = w.heap.size + 1 + 1 := by rw [← hw1]; simp
  have z1 : w1.cell? ⟨w.heap.size, 0, none⟩ = some (.int .i64 (a : Int)) := by rw [← hw1]; simp [go_sem]
  have z2 : w1.cell? ⟨w.heap.size, 1, none⟩ = some (.int .i64 (b : Int)) := by rw [← hw1]; simp [go_sem]
  have z3 : w1.cell? ⟨w.heap.size, 2, none⟩ = some (.func (.func f) #[] cap) := by rw [← hw1]; simp [go_sem]
  have y1 : w1.cell? ⟨w.heap.size + 1, 0, none⟩ = some (.int .i64 0) := by rw [← hw1]; simp [go_sem]
  have y2 : w1.cell? ⟨w.heap.size + 1, 1, none⟩ = some (.int .i64 0) := by rw [← hw1]; simp [go_sem]
  have y3 : w1.cell? ⟨w.heap.size + 1, 2, none⟩ = some (.slice none 0 0) := by rw [← hw1]; simp [go_sem]
  have yf : ∀ j, w1.frozen? ⟨w.heap.size + 1, j, none⟩ = false := fun j => by rw [← hw1]; simp [go_sem]
  clear hf hfill ab hn
  go_enter Try.func20, Try.ntmps20
  go_wp2_with fail
  clear hw1
  have F0 : Hid (Fill w1 (w1.alloc (.cells M 25)) w1.heap.size n (fun i => G (i % a) (i / a)) 0) := by
    obtain ⟨p1, p2, p3, p4, p5⟩ := HFl.out w1
    exact ⟨p1, p2, fun i hi => absurd hi (Nat.not_lt_zero _), p4, p5⟩
  generalize w1.alloc _ = w2 at F0 ⊢
  rw [S1] at F0
  obtain ⟨g, hg⟩ : ∃ g, w.heap.size + 1 + 1 = g := ⟨_, rfl⟩
  rw [hg] at F0 ⊢
  go_loopg [15] b (fun m s15 wr => ∃ y : Nat, s15 = .int .i64 y ∧ y + m = b ∧ Hid (Fill w1 wr g n (fun i => G (i % a) (i / a)) (y * a)))
  case atStart => exact ⟨0, rfl, by omega, by rw [Nat.zero_mul]; exact F0⟩
  case round =>
    obtain ⟨y, rfl, hm, FY⟩ := hrel
    by_cases hyb : y < b
    · have c1 := FY.out.q.cell z1
      have hy0 : (0 : Int) ≤ (y : Int) := by omega
      have hy1 : (y : Int) < (b : Int) := by omega
      obtain ⟨ya, hya⟩ : ∃ ya, y * a = ya := ⟨_, rfl⟩
      have hya2 : ya + a ≤ n := by rw [← hya, ← HN.out, Nat.mul_comm a b, ← Nat.succ_mul]; exact Nat.mul_le_mul_right _ (by omega)
      have hya3 : ¬ n = ya := by omega
      have hya4 : ya ≤ n := by omega
      have hyc : (y : Int) * (a : Int) = (ya : Int) := by rw [← Int.natCast_mul, hya]
      have HY : Hid (y * a = ya) := hya
      rw [hya] at FY
      clear hya
      go_wp2_with fail
      go_loopg [26] a (fun m s26 wx => ∃ x : Nat, s26 = .int .i64 x ∧ x + m = a ∧ Hid (Fill w1 wx g n (fun i => G (i % a) (i / a)) (ya + x)))
      case atStart => exact ⟨0, rfl, by omega, FY⟩
      case round =>
        obtain ⟨x, rfl, hmx, FX⟩ := hrel
        by_cases hxa : x < a
        · have c3 := FX.out.q.cell z3
          obtain ⟨u, hu⟩ := FX.out.room (ya + x) (by omega)
          have fz := FX.out.free (ya + x)
          have hx0 : (0 : Int) ≤ (x : Int) := by omega
          have hx1 : (x : Int) < ((n - ya : Nat) : Int) := by omega
          have hx2 : (x : Int) < (a : Int) := by omega
          have C := HF.out x y wr hxa hyb (Q1.out.trans FX.out.q)
          have HG : Hid (G x y = G ((ya + x) % a) ((ya + x) / a)) := by
            show G x y = _
            rw [← HY.out, place_mod y hxa, place_div y hxa]
          go_wp2_with fail
          refine C.mono ?_
          rintro e wx ⟨rfl, qx⟩
          replace hu := qx.cell hu
          have fz' : wx.frozen? ⟨g, ya + x, none⟩ = false := by rw [qx.2]; exact fz
          have FX2 : Hid (Fill w1 (wx.setCell ⟨g, ya + x, none⟩ (.int .u32 (G x y : Nat))) g n (fun i => G (i % a) (i / a)) (ya + x + 1)) := (FX.out.next qx).step (by omega) HG.out
          generalize G x y = V at FX2 ⊢
          clear C HG FX fz
          go_wp2_with fail
          go_roundg (a - (x + 1))
          case measure => go_light; omega
          case rel => go_light; exact ⟨x + 1, by go_num, by omega, FX2⟩
        · have hxe : x = a := by omega
          go_wp2_with fail
          go_roundg (b - (y + 1))
          case measure => go_light; omega
          case rel =>
            go_light
            refine ⟨y + 1, by go_num, by omega, ?_⟩
            rw [Nat.succ_mul, HY.out]
            rw [hxe] at FX
            exact FX
    · have hye : y = b := by omega
      have FE : Hid (Own w wr g (tab a b G)) := by
        have f := FY.out
        rw [hye, Nat.mul_comm b a, HN.out] at f
        obtain ⟨h1, h2, h3, h4⟩ := Fill.own (S := tab a b G) f (by rw [tab_length]; exact HN.out) (fun i hi => by rw [← HN.out] at hi; exact tab_get hi)
        exact ⟨Q1.out.trans h1, by omega, h3, h4⟩
      have c1 := FY.out.q.cell z1
      have c2 := FY.out.q.cell z2
      have d1 := FY.out.q.cell y1
      have d2 := FY.out.q.cell y2
      have d3 := FY.out.q.cell y3
      have df : ∀ j, wr.frozen? ⟨w.heap.size + 1, j, none⟩ = false := fun j => by rw [FY.out.q.2]; exact yf j
      have hne : g ≠ w.heap.size + 1 := by omega
      clear FY z1 z2 z3 y1 y2 y3 yf
      go_wp2_with fail
      refine bodyPost_ret (v := .agg #[.int .i64 (a : Int), .int .i64 (b : Int), .slice (some ⟨g, 0, none⟩) n n]) (by simp [results, Try.results20, go_sem, d1, d2, d3]) rfl ⟨g, rfl, ?_⟩
      exact FE.out.set (by omega) (fun e => hne e.symm) |>.set (by omega) (fun e => hne e.symm) |>.set (by omega) (fun e => hne e.symm)
end Go.Proofs.Ytpobgkcobgecoab
/- Where samples come from: the function values of the program. -/
namespace Go.Proofs.Ytpobgkcobgecoab
open Go.RowKit
/-- A plane in a variable. -/
structure PlBox (w : World) (B a b : Nat) (v : Value) : Prop where
  c0 : w.cell? ⟨B, 0, none⟩ = some (.int .i64 (a : Int))
  c1 : w.cell? ⟨B, 1, none⟩ = some (.int .i64 (b : Int))
  c2 : w.cell? ⟨B, 2, none⟩ = some v
theorem PlBox.next {w w' : World} {B a b : Nat} {v : Value} (h : PlBox w B a b v) (q : Q w w') : PlBox w' B a b v := ⟨q.cell h.c0, q.cell h.c1, q.cell h.c2⟩
theorem new1_any {B s : Nat} {x y : Int} {w : World} (hB : w.cell? ⟨B, 0, none⟩ = some (.int .u32 (s : Int))) :
    Calls Try.prog 19 #[.int .i64 x, .int .i64 y, .pointer (some ⟨B, 0, none⟩)] w fun e w' => e = .returned (.int .u32 (s : Nat)) ∧ Q w w' := by
  go_enter Try.func19, Try.ntmps19
  go_wp2_with fail
  go_ret
  exact ⟨rfl, Q.refl _⟩
end Go.Proofs.Ytpobgkcobgecoab
/- Pasting and extending: where samples come from. -/
namespace Go.Proofs.Ytpobgkcobgecoab
open Go.RowKit
set_option linter.unusedVariables false
set_option linter.unusedSimpArgs false

def lieB (i s n : Int) : Bool := decide (s ≤ i) && decide (i - n < s)
theorem lieB_true {i s n : Int} : lieB i s n = true ↔ s ≤ i ∧ i - n < s := by unfold lieB; simp
/-- A sample of a plane that another is pasted on. -/
def pasV (S : List Nat) (a : Nat) (T : List Nat) (c d : Nat) (X Y : Int) (x y : Nat) : Nat :=
  if (lieB x X c && lieB y Y d) = true then smp T c ((x : Int) - X).toNat ((y : Int) - Y).toNat else smp S a x y
/-- A sample of a plane made greater. -/
def extV (S : List Nat) (a b : Nat) (k L T : Int) (x y : Nat) : Nat := smp S a (borV k a ((x : Int) - L)).toNat (borV k b ((y : Int) - T)).toNat
end Go.Proofs.Ytpobgkcobgecoab
/- Planes made and moved: the program's New, Get, Crop, Paste, Flip, Transpose. -/
namespace Go.Proofs.Ytpobgkcobgecoab
open Go.RowKit
set_option linter.unusedVariables false
set_option linter.unusedSimpArgs false

/-- An empty answer. -/
def noPl : Value := .agg #[.int .i64 0, .int .i64 0, .slice none 0 0]
/-- A plane in memory of its own, and no error. -/
def Made (w : World) (a b : Nat) (S : List Nat) (e : Ending) (w' : World) : Prop := ∃ g, e = .returned (.tuple #[.agg #[.int .i64 (a : Int), .int .i64 (b : Int), .slice (some ⟨g, 0, none⟩) (a * b) (a * b)], .int .i64 0]) ∧ Own w w' g S
/-- No plane, and an error. -/
def Fails (w : World) (r : Int) (e : Ending) (w' : World) : Prop := e = .returned (.tuple #[noPl, .int .i64 r]) ∧ Q w w'
theorem Q.put {w wr : World} (h : Q w wr) {c j : Nat} (hc : w.heap.size ≤ c) {v : Value} : Q w (wr.setCell ⟨c, j, none⟩ v) := h.set hc v
theorem Own.base {w0 w wr : World} {b : Nat} {S : List Nat} (h : Own w wr b S) (q : Q w0 w) : Own w0 wr b S := ⟨q.trans h.q, Nat.le_trans q.1.size h.new, h.cells, h.free⟩

end Go.Proofs.Ytpobgkcobgecoab
/- Planes made and moved: the program's New, Get, Crop, Paste. -/
namespace Go.Proofs.Ytpobgkcobgecoab
open Go.RowKit
set_option linter.unusedVariables false
set_option linter.unusedSimpArgs false

/-- A rectangle within a plane. -/
structure Rct (a b x0 y0 c d : Nat) : Prop where
  c1 : 1 ≤ c
  c2 : x0 + c ≤ a
  d1 : 1 ≤ d
  d2 : y0 + d ≤ b
theorem Rct.size {a b x0 y0 c d : Nat} (h : Rct a b x0 y0 c d) (hs : Size a b) : Size c d := by
  have := h.c1; have := h.c2; have := h.d1; have := h.d2; have := hs.a2; have := hs.b2
  refine ⟨by omega, by omega, by omega, by omega, Nat.le_trans (Nat.mul_le_mul (by omega) (by omega)) hs.ab⟩
def wiB (x0 y0 x1 y1 a b : Int) : Bool := decide (0 ≤ x0) && (decide (x0 < x1) && (decide (x1 ≤ a) && (decide (0 ≤ y0) && (decide (y0 < y1) && decide (y1 ≤ b)))))
theorem wiB_true {x0 y0 x1 y1 : Int} {a b : Nat} : wiB x0 y0 x1 y1 a b = true ↔ ∃ X Y c d : Nat, x0 = X ∧ y0 = Y ∧ x1 = (X + c : Nat) ∧ y1 = (Y + d : Nat) ∧ Rct a b X Y c d := by
  unfold wiB
  simp only [Bool.and_eq_true, decide_eq_true_eq]
  constructor
  · rintro ⟨h1, h2, h3, h4, h5, h6⟩
    exact ⟨x0.toNat, y0.toNat, (x1 - x0).toNat, (y1 - y0).toNat, by omega, by omega, by omega, by omega, by omega, by omega, by omega, by omega⟩
  · rintro ⟨X, Y, c, d, rfl, rfl, rfl, rfl, h1, h2, h3, h4⟩
    omega
set_option maxHeartbeats 1000000 in
set_option maxRecDepth 100000 in
theorem new_bad (W H : Int) (hr : sizeB W H = false) (s : Nat) (w : World) :
    Calls Try.prog 7 #[.int .i64 W, .int .i64 H, .int .u32 (s : Int)] w (Fails w 50) := by
  obtain ⟨w1, hw1⟩ : ∃ w1, (w.alloc (.cells #[.int .u32 (s : Int)] 25)).alloc (.cells #[.int .i64 0, .int .i64 0, .slice none 0 0] 24) = w1 := ⟨_, rfl⟩
  have Q1 : Hid (Q w w1) := by rw [← hw1]; exact (((Q.refl w).cells _ _).cells _ _)
  have S1 : w1.heap.size = w.heap.size + 1 + 1 := by rw [← hw1]; simp
  have z00 : w1.cell? ⟨w.heap.size, 0, none⟩ = some (.int .u32 (s : Int)) := by rw [← hw1]; simp [go_sem]
  have z10 : w1.cell? ⟨w.heap.size + 1, 0, none⟩ = some (.int .i64 0) := by rw [← hw1]; simp [go_sem]
  have z11 : w1.cell? ⟨w.heap.size + 1, 1, none⟩ = some (.int .i64 0) := by rw [← hw1]; simp [go_sem]
  have z12 : w1.cell? ⟨w.heap.size + 1, 2, none⟩ = some (.slice none 0 0) := by rw [← hw1]; simp [go_sem]
  have yf : ∀ j, w1.frozen? ⟨w.heap.size + 1, j, none⟩ = false := fun j => by rw [← hw1]; simp [go_sem]
  have B := isSize_any W H w1
  rw [hr] at B
  clear hr
  go_enter Try.func7, Try.ntmps7
  go_wp2_with fail
  refine B.mono ?_
  rintro e w3 ⟨rfl, rfl⟩
  clear hw1
  go_wp2_with fail
  refine bodyPost_ret (v := .tuple #[noPl, .int .i64 50]) (by simp [results, Try.results7, go_sem, noPl, z10, z11, z12]) rfl ⟨rfl, ?_⟩
  exact ((Q1.out.put (by omega)).put (by omega)).put (by omega)
set_option maxHeartbeats 1000000 in
set_option maxRecDepth 100000 in
theorem new_good {a b : Nat} (hs : Size a b) (s : Nat) (w : World) :
    Calls Try.prog 7 #[.int .i64 (a : Int), .int .i64 (b : Int), .int .u32 (s : Int)] w (Made w a b (tab a b fun _ _ => s)) := by
  obtain ⟨w1, hw1⟩ : ∃ w1, (w.alloc (.cells #[.int .u32 (s : Int)] 25)).alloc (.cells #[.int .i64 0, .int .i64 0, .slice none 0 0] 24) = w1 := ⟨_, rfl⟩
  have Q1 : Hid (Q w w1) := by rw [← hw1]; exact (((Q.refl w).cells _ _).cells _ _)
  have S1 : w1.heap.size = w.heap.size + 1 + 1 := by rw [← hw1]; simp
  have z00 : w1.cell? ⟨w.heap.size, 0, none⟩ = some (.int .u32 (s : Int)) := by rw [← hw1]; simp [go_sem]
  have z10 : w1.cell? ⟨w.heap.size + 1, 0, none⟩ = some (.int .i64 0) := by rw [← hw1]; simp [go_sem]
  have z11 : w1.cell? ⟨w.heap.size + 1, 1, none⟩ = some (.int .i64 0) := by rw [← hw1]; simp [go_sem]
  have z12 : w1.cell? ⟨w.heap.size + 1, 2, none⟩ = some (.slice none 0 0) := by rw [← hw1]; simp [go_sem]
  have yf : ∀ j, w1.frozen? ⟨w.heap.size + 1, j, none⟩ = false := fun j => by rw [← hw1]; simp [go_sem]
  have B := isSize_any (a : Int) (b : Int) w1
  rw [sizeB_true.2 hs.b] at B
  have HS : Hid (Size a b) := hs
  clear hs
  go_enter Try.func7, Try.ntmps7
  go_wp2_with fail
  refine B.mono ?_
  rintro e w3 ⟨rfl, rfl⟩
  clear hw1
  go_wp2_with fail
  refine (lay_any a b HS.out 19 #[.pointer (some ⟨w.heap.size, 0, none⟩)] (enters_of Try.func19 (by kernel_rfl) rfl) (fun _ _ => s) w3 ?_).mono ?_
  · intro x y w' hx hy hq
    exact new1_any (hq.cell z00)
  rintro e w4 ⟨g3, rfl, O3⟩
  have q3 := O3.q
  replace z10 := q3.cell z10
  replace z11 := q3.cell z11
  replace z12 := q3.cell z12
  have yh : ∀ j, w4.frozen? ⟨w.heap.size + 1, j, none⟩ = false := fun j => by rw [q3.2]; exact yf j
  have hg : g3 ≠ w.heap.size + 1 := by
    have h1 := O3.new
    omega
  have HO : Hid (Own w w4 g3 (tab a b fun _ _ => s)) := O3.base Q1.out
  clear O3 q3 yf
  go_wp2_with fail
  refine bodyPost_ret (v := .tuple #[.agg #[.int .i64 (a : Int), .int .i64 (b : Int), .slice (some ⟨g3, 0, none⟩) (a * b) (a * b)], .int .i64 0]) (by simp [results, Try.results7, go_sem, z10, z11, z12]) rfl ⟨g3, rfl, ?_⟩
  exact ((HO.out.set (by omega) (fun e => hg e.symm)).set (by omega) (fun e => hg e.symm)).set (by omega) (fun e => hg e.symm)
end Go.Proofs.Ytpobgkcobgecoab
/- The statement BlurConstant: its walk. -/
namespace Go.Proofs.Ytpobgkcobgecoab
open Go.RowKit
set_option linter.unusedVariables false
set_option linter.unusedSimpArgs false

theorem usl_tab {x : World} {g n c : Nat} {S : List Nat} (h : UIs x g 0 S) (hn : S.length = n) (hc : n ≤ c) : USl x (.slice (some ⟨g, 0, none⟩) n c) S := by
  have := h.usl (cap := c) (by rw [hn]; exact hc)
  rw [hn] at this
  exact this
theorem tab_const (a b s : Nat) : tab a b (fun _ _ => s) = List.replicate (a * b) s := by
  refine List.eq_replicate_iff.2 ⟨?_, fun y hy => ?_⟩
  · unfold tab; simp
  · unfold tab at hy
    obtain ⟨x, _, h⟩ := List.mem_map.1 hy
    exact h.symm
/-- A plane in a box. -/
structure Pbb (W0 x : World) (B : Nat) (pw ph : Int) (sv : Value) : Prop where
  c0 : x.cell? ⟨B, 0, none⟩ = some (.int .i64 pw)
  c1 : x.cell? ⟨B, 1, none⟩ = some (.int .i64 ph)
  c2 : x.cell? ⟨B, 2, none⟩ = some sv
  q : Q W0 x
theorem Pbb.next {W0 x y : World} {B : Nat} {pw ph : Int} {sv : Value} (h : Pbb W0 x B pw ph sv) (q : Q x y) : Pbb W0 y B pw ph sv := ⟨q.cell h.c0, q.cell h.c1, q.cell h.c2, h.q.trans q⟩
theorem Pbb.mk' (W0 x : World) (q : Q W0 x) (pw ph : Int) (ad : Option Addr) (n c : Nat) : Pbb W0 (x.alloc (.cells #[.int .i64 pw, .int .i64 ph, .slice ad n c] 24)) x.heap.size pw ph (.slice ad n c) := ⟨by simp [go_sem], by simp [go_sem], by simp [go_sem], q.cells _ _⟩
theorem rgt_bw {W H : Int} {n : Nat} {kind r bd : Int} (h : rgtB W H n kind r bd = true) : ∃ rr k : Nat, r = (rr : Int) ∧ rr ≤ 7 ∧ bwE kind rr = 0 ∧ bd = (k : Int) ∧ (k = 1 ∨ k = 2 ∨ k = 3) ∧ chk W H n = 0 := by
  unfold rgtB at h
  obtain ⟨h0, h1, h2, h3, h4, h5⟩ := of_decide_eq_true h
  obtain ⟨rr, rfl⟩ : ∃ m : Nat, r = (m : Int) := ⟨r.toNat, by omega⟩
  obtain ⟨k, rfl⟩ : ∃ m : Nat, bd = (m : Int) := ⟨bd.toNat, by omega⟩
  refine ⟨rr, k, rfl, by omega, ?_, rfl, by omega, h0⟩
  unfold bwE
  rw [if_pos ⟨h2, h3, h1⟩]
end Go.Proofs.Ytpobgkcobgecoab
/- The statement BlurNeeds: its walk. -/
namespace Go.Proofs.Ytpobgkcobgecoab
open Go.RowKit
set_option linter.unusedVariables false
set_option linter.unusedSimpArgs false

/-- The places that a sample hangs on. -/
def ndX (k r pa pb x y t u : Nat) : Nat := (borV k pb ((y : Int) + (t : Int) - (r : Int))).toNat * pa + (borV k pa ((x : Int) + (u : Int) - (r : Int))).toNat
theorem ndX_in {k r pa pb x y t u : Nat} (ha : 0 < pa) (hb : 0 < pb) : ndX k r pa pb x y t u < pa * pb := by
  have h1 := borV_lt (k := k) (n := (pb : Int)) ((y : Int) + (t : Int) - (r : Int)) (by omega)
  have h2 := borV_lt (k := k) (n := (pa : Int)) ((x : Int) + (u : Int) - (r : Int)) (by omega)
  have hbl : (borV k pb ((y : Int) + (t : Int) - (r : Int))).toNat + 1 ≤ pb := by omega
  have hal : (borV k pa ((x : Int) + (u : Int) - (r : Int))).toNat < pa := by omega
  unfold ndX
  generalize (borV k pb ((y : Int) + (t : Int) - (r : Int))).toNat = b at *
  have : (b + 1) * pa ≤ pb * pa := Nat.mul_le_mul_right _ hbl
  rw [Nat.add_mul, Nat.one_mul, Nat.mul_comm pb pa] at this
  omega
theorem blu_needs {kind : Int} {r k pa pb x y : Nat} {S T : List Nat} (ha : 0 < pa) (hb : 0 < pb) (hx : x < pa) (h : ∀ t u, t < 2 * r + 1 → u < 2 * r + 1 → S.getD (ndX k r pa pb x y t u) 0 = T.getD (ndX k r pa pb x y t u) 0) : bluV kind r k pa pb S (y * pa + x) = bluV kind r k pa pb T (y * pa + x) := by
  have e1 : (y * pa + x) / pa = y := by rw [Nat.mul_comm, Nat.mul_add_div ha, Nat.div_eq_of_lt hx]; omega
  have e2 : (y * pa + x) % pa = x := by rw [Nat.mul_comm, Nat.mul_add_mod, Nat.mod_eq_of_lt hx]
  unfold bluV colB alV
  rw [e1, e2]
  refine mixB_congr (fun t ht => ?_)
  have h1 := borV_lt (k := k) (n := (pb : Int)) ((y : Int) + (t : Int) - (r : Int)) (by omega)
  have hbl : (borV k pb ((y : Int) + (t : Int) - (r : Int))).toNat + 1 ≤ pb := by omega
  have hin : (borV k pb ((y : Int) + (t : Int) - (r : Int))).toNat * pa + x < pa * pb := by
    generalize (borV k pb ((y : Int) + (t : Int) - (r : Int))).toNat = b at *
    have : (b + 1) * pa ≤ pb * pa := Nat.mul_le_mul_right _ hbl
    rw [Nat.add_mul, Nat.one_mul, Nat.mul_comm pb pa] at this
    omega
  show (tabB (pa * pb) _).getD ((borV k pb ((y : Int) + (t : Int) - (r : Int))).toNat * pa + x) 0 = (tabB (pa * pb) _).getD ((borV k pb ((y : Int) + (t : Int) - (r : Int))).toNat * pa + x) 0
  rw [tabB_at hin, tabB_at hin]
  unfold rowB alV
  refine mixB_congr (fun u hu => ?_)
  have f1 : ((borV k pb ((y : Int) + (t : Int) - (r : Int))).toNat * pa + x) / pa = (borV k pb ((y : Int) + (t : Int) - (r : Int))).toNat := by rw [Nat.mul_comm, Nat.mul_add_div ha, Nat.div_eq_of_lt hx]; omega
  have f2 : ((borV k pb ((y : Int) + (t : Int) - (r : Int))).toNat * pa + x) % pa = x := by rw [Nat.mul_comm, Nat.mul_add_mod, Nat.mod_eq_of_lt hx]
  rw [f1, f2]
  exact h t u ht hu
theorem wrap_idx {m a : Nat} {p : Int} (hp : p = (m : Int)) (h : m + a ≤ 100000) : IntKind.i64.wrap (IntKind.i64.wrap p + (a : Int)) = ((m + a : Nat) : Int) ∧ IntKind.i64.wrap p = (m : Int) ∧ IntKind.i64.wrap ((m : Int) + (a : Int)) = ((m + a : Nat) : Int) := by
  subst hp
  simp only [IntKind.wrap_i64]
  omega
theorem wpQuiet_valg {P : Program} {ops : Array Oper} {C : World → Prop} {N : Act → Prop} {a : Act} {o : Oper} {rest : List Oper} {v : Value} (hg : Region.wanted o (yielded ops a.tmps) = true) (hr : ∀ x, C x → (execOp a.eval o).run P x = .ok (.value v) x) (h : wpQuiet P ops C N rest (a.put o.dst v)) : wpQuiet P ops C N (o :: rest) a :=
  wpQuiet_step fun K hK => by
    rw [if_pos hg]
    exact ⟨v, fun x hx => by unfold Oper.quietAt; rw [hr x hx]; exact ⟨rfl, rfl⟩, hK _ h⟩
structure NdI (W0 x : World) (bq pa pb n g g0 o0 c0 : Nat) (S : List Nat) (F : Nat → Nat) : Prop where
  p : Pbb W0 x W0.heap.size (pa : Int) (pb : Int) (.slice (some ⟨g0, o0, none⟩) n c0)
  b : Pbb W0 x bq (pa : Int) (pb : Int) (.slice (some ⟨g, 0, none⟩) n n)
  v : VR x g n (fun j => .int .u32 ((F j : Nat) : Int))
  lt : ∀ j, F j < 4294967296
  ap : W0.heap.size < g ∧ bq ≠ g
theorem NdI.next {W0 x y : World} {bq pa pb n g g0 o0 c0 : Nat} {S : List Nat} {F : Nat → Nat} (h : NdI W0 x bq pa pb n g g0 o0 c0 S F) (q : Q x y) : NdI W0 y bq pa pb n g g0 o0 c0 S F := ⟨h.p.next q, h.b.next q, h.v.next q, h.lt, h.ap⟩
theorem Pbb.set {W0 x : World} {B : Nat} {pw ph : Int} {sv : Value} (h : Pbb W0 x B pw ph sv) {p : Addr} (hb : p.block ≠ B) (hl : W0.heap.size ≤ p.block) (v : Value) : Pbb W0 (x.setCell p v) B pw ph sv := by
  have ne : ∀ j, (⟨B, j, none⟩ : Addr) ≠ p := fun j e => hb (by rw [← e])
  exact ⟨(World.cell?_setCell_other _ _ _ _ (fun e => ne 0 e.symm)).trans h.c0, (World.cell?_setCell_other _ _ _ _ (fun e => ne 1 e.symm)).trans h.c1, (World.cell?_setCell_other _ _ _ _ (fun e => ne 2 e.symm)).trans h.c2, h.q.set hl _⟩
def putF (F : Nat → Nat) (i v : Nat) (j : Nat) : Nat := if j = i then v else F j
theorem NdI.put {W0 x : World} {bq pa pb n g g0 o0 c0 : Nat} {S : List Nat} {F : Nat → Nat} (h : NdI W0 x bq pa pb n g g0 o0 c0 S F) {i s : Nat} (hi : i < n) (hs : s < 4294967296) : NdI W0 (x.setCell ⟨g, i, none⟩ (.int .u32 (s : Int))) bq pa pb n g g0 o0 c0 S (putF F i s) := by
  have a := h.ap
  refine ⟨h.p.set (by show g ≠ _; omega) (by show _ ≤ g; omega) _, h.b.set (by show g ≠ bq; exact fun e => a.2 e.symm) (by show _ ≤ g; omega) _, h.v.put hi (by unfold putF; rw [if_pos rfl]) (fun j _ hj => by unfold putF; rw [if_neg hj]), fun j => ?_, a⟩
  unfold putF
  split
  · exact hs
  · exact h.lt j
/-- What was copied by now. -/
def Cpd (k r pa pb x y : Nat) (S : List Nat) (F : Nat → Nat) (t0 u0 : Nat) : Prop := ∀ t u, u < 2 * r + 1 → (t < t0 ∨ (t = t0 ∧ u < u0)) → F (ndX k r pa pb x y t u) = S.getD (ndX k r pa pb x y t u) 0
theorem Cpd.step {k r pa pb x y : Nat} {S : List Nat} {F : Nat → Nat} {t0 u0 : Nat} (h : Cpd k r pa pb x y S F t0 u0) : Cpd k r pa pb x y S (putF F (ndX k r pa pb x y t0 u0) (S.getD (ndX k r pa pb x y t0 u0) 0)) t0 (u0 + 1) := fun t u hu htu => by
  unfold putF
  split
  · rename_i e; rw [e]
  · rename_i e
    refine h t u hu ?_
    rcases htu with c | ⟨c1, c2⟩
    · exact Or.inl c
    · refine Or.inr ⟨c1, ?_⟩
      rcases Nat.lt_or_ge u u0 with d | d
      · exact d
      · exfalso
        apply e
        rw [c1, show u = u0 by omega]
theorem Cpd.line {k r pa pb x y : Nat} {S : List Nat} {F : Nat → Nat} {t0 : Nat} (h : Cpd k r pa pb x y S F t0 (2 * r + 1)) : Cpd k r pa pb x y S F (t0 + 1) 0 := fun t u hu htu => h t u hu (by omega)
set_option maxHeartbeats 8000000 in
set_option maxRecDepth 100000 in
theorem bneeds_walk (W0 : World) (pw ph kind r bd X Y : Int) (sv : Value) (S : List Nat) (s : Nat) (us : USl W0 sv S) (hb : ∀ i, S.getD i 0 < 4294967296) (hs4 : s < 4294967296) :
    Calls Try.prog 3 #[.agg #[.int .i64 pw, .int .i64 ph, sv], .int .i64 kind, .int .i64 r, .int .i64 bd, .int .i64 X, .int .i64 Y, .int .u32 (s : Int)] W0 fun e w' => e = .returned (.bool true) ∧ Q W0 w' := by
  obtain ⟨ad, c, rfl⟩ := us.form
  obtain ⟨n, hn⟩ : ∃ n, S.length = n := ⟨_, rfl⟩
  have HU : Hid (USl W0 (.slice ad n c) S) := by rw [hn] at us; exact us
  have HN : Hid (S.length = n) := hn
  have HB : Hid (∀ i, S.getD i 0 < 4294967296) := hb
  rw [hn]
  clear us hn hb
  obtain ⟨w1, hw1⟩ : ∃ w1, W0.alloc (.cells #[.int .i64 pw, .int .i64 ph, .slice ad n c] 24) = w1 := ⟨_, rfl⟩
  have HP1 : Hid (Pbb W0 w1 W0.heap.size pw ph (.slice ad n c)) := by
    show Pbb _ _ _ _ _ _
    rw [← hw1]
    exact Pbb.mk' W0 W0 (Q.refl W0) _ _ _ _ _
  have C0 := known11_any w1
  have CR : Hid (∀ w : World, Calls Try.prog 6 #[.agg #[.int .i64 pw, .int .i64 ph, .slice ad n c], .int .i64 kind, .int .i64 r, .int .i64 bd] w fun e w' => e = .returned (.bool (rgtB pw ph n kind r bd)) ∧ Q w w') := fun w => right_any pw ph ad n c kind r bd w
  obtain ⟨B, hB⟩ : ∃ B, rgtB pw ph n kind r bd = B := ⟨_, rfl⟩
  have HRB : Hid (rgtB pw ph n kind r bd = B) := hB
  rw [hB] at CR
  clear hB
  go_enter Try.func3, Try.ntmps3
  go_wp2_with fail
  refine C0.mono ?_
  rintro e w2 ⟨rfl, q2⟩
  have HP2 : Hid (Pbb W0 w2 W0.heap.size pw ph (.slice ad n c)) := HP1.out.next q2
  clear C0 q2 hw1 HP1
  have k0 := HP2.out.c0
  have k1 := HP2.out.c1
  have k2 := HP2.out.c2
  go_wp2_with fail
  refine (CR.out w2).mono ?_
  rintro e w3 ⟨rfl, q3⟩
  have HP3 : Hid (Pbb W0 w3 W0.heap.size pw ph (.slice ad n c)) := HP2.out.next q3
  clear CR q3 HP2 k0 k1 k2
  cases B
  · go_wp2_with fail
    go_ret
    exact ⟨rfl, HP3.out.q⟩
  obtain ⟨rr, k, rfl, hr7, hbw, rfl, hk, hchk⟩ := rgt_bw HRB.out
  obtain ⟨pa, pb, rfl, rfl, hsz, hnn⟩ := chk_zero hchk
  have k0 := HP3.out.c0
  have k1 := HP3.out.c1
  have k2 := HP3.out.c2
  clear HRB hchk
  rcases Int.lt_or_le X 0 with x1 | x1
  · go_wp2_with fail
    go_ret
    exact ⟨rfl, HP3.out.q⟩
  rcases Int.lt_or_le Y 0 with y1 | y1
  · go_wp2_with fail
    go_ret
    exact ⟨rfl, HP3.out.q⟩
  rcases Int.lt_or_le X (pa : Int) with x2 | x2
  rotate_left
  · go_wp2_with fail
    go_ret
    exact ⟨rfl, HP3.out.q⟩
  rcases Int.lt_or_le Y (pb : Int) with y2 | y2
  rotate_left
  · have x3 : ¬ (pa : Int) ≤ X := by omega
    go_wp2_with fail
    go_ret
    exact ⟨rfl, HP3.out.q⟩
  obtain ⟨x, rfl⟩ : ∃ m : Nat, X = (m : Int) := ⟨X.toNat, by omega⟩
  obtain ⟨y, rfl⟩ : ∃ m : Nat, Y = (m : Int) := ⟨Y.toNat, by omega⟩
  have x3 : ¬ (pa : Int) ≤ (x : Int) := by omega
  have y3 : ¬ (pb : Int) ≤ (y : Int) := by omega
  have hxn : x < pa := by omega
  have hyn : y < pb := by omega
  have hxd : decide (pa ≤ x) = false := decide_eq_false (by omega)
  have hyd : decide (pb ≤ y) = false := decide_eq_false (by omega)
  have x4 : ¬ pa ≤ x := by omega
  have y4 : ¬ pb ≤ y := by omega
  obtain ⟨g0, o0, d0, hs0, hle, hI⟩ := HU.out.some (by rw [HN.out, hnn]; exact hsz.pos)
  rw [HN.out] at hs0
  injection hs0 with e1 e2 e3
  subst e1 e3
  have HI : Hid (∀ (w : World) (i : Nat), Q W0 w → i < n → w.cell? ⟨g0, o0 + i, none⟩ = some (.int .u32 ((S.getD i 0 : Nat) : Int))) := fun w i q hi => q.cell (hI i (by rw [HN.out]; exact hi))
  have HUI : Hid (∀ w : World, Q W0 w → UIs w g0 o0 S) := fun w q i hi => q.cell (hI i hi)
  have CN : Hid (∀ w : World, Calls Try.prog 7 #[.int .i64 (pa : Int), .int .i64 (pb : Int), .int .u32 (s : Int)] w (Made w pa pb (tab pa pb fun _ _ => s))) := fun w => new_good hsz s w
  have CB : Hid (∀ (L : Nat) (i : Int) (w : World), 1 ≤ L → L ≤ 1024 → Calls Try.prog 8 #[.int .i64 (k : Int), .int .i64 (L : Int), .int .i64 i] w fun e w' => e = .returned (.tuple #[.int .i64 (borV k L i), .int .i64 0]) ∧ w' = w) := fun L i w h1 h2 => by
    have := border_any k L i w
    have hk' : (k : Int) = 1 ∨ (k : Int) = 2 ∨ (k : Int) = 3 := by omega
    have hs : sideB (L : Int) = true := by unfold sideB; simp; omega
    unfold borA borE at this
    rw [if_pos hk', if_pos hs, if_pos hk', if_pos hs] at this
    exact this
  have HSZ : Hid (Size pa pb ∧ n = pa * pb ∧ rr ≤ 7 ∧ (k = 1 ∨ k = 2 ∨ k = 3) ∧ bwE kind rr = 0) := ⟨hsz, hnn, hr7, hk, hbw⟩
  have ha1 := hsz.a1
  have ha2 := hsz.a2
  have hb1 := hsz.b1
  have hb2 := hsz.b2
  have hn2 : n ≤ 65536 := by rw [hnn]; exact hsz.ab
  clear hI hle e2 hsz hk hbw x1 y1
  go_wp2_with fail
  refine (CN.out w3).mono ?_
  rintro e w4 ⟨g, rfl, hO⟩
  rw [← HSZ.out.2.1]
  obtain ⟨w5, hw5⟩ : ∃ w5, w4.alloc (.cells #[.int .i64 (pa : Int), .int .i64 (pb : Int), .slice (some ⟨g, 0, none⟩) n n] 24) = w5 := ⟨_, rfl⟩
  have q45 : Q w4 w5 := by rw [← hw5]; exact (Q.refl w4).cells _ _
  have hg4 : g < w4.heap.size := World.block_lt_of_cell? _ _ (hO.cells 0 (by rw [tab_length, ← HSZ.out.2.1, hnn]; exact HSZ.out.1.pos))
  have HX0 : Hid (NdI W0 w5 w4.heap.size pa pb n g g0 o0 c S (fun _ => s)) := by
    have hlt3 : W0.heap.size < w3.heap.size := World.block_lt_of_cell? _ _ HP3.out.c0
    have hnew := hO.new
    refine ⟨HP3.out.next (hO.q.trans q45), ?_, ⟨fun i hi => ?_, fun j => by rw [q45.2]; exact hO.free j⟩, fun _ => hs4, by omega, by omega⟩
    · show Pbb _ _ _ _ _ _
      rw [← hw5]
      exact Pbb.mk' W0 w4 (HP3.out.q.trans hO.q) _ _ _ _ _
    · have := hO.cells i (by rw [tab_length, ← HSZ.out.2.1]; exact hi)
      rw [Nat.zero_add, tab_get (by rw [← HSZ.out.2.1]; exact hi)] at this
      exact q45.cell this
  clear hO q45 hg4 HP3 k0 k1 k2 CN hnn
  have hlo : 0 ≤ (y : Int) := by omega
  go_wp2_with fail
  go_loopg [17, 18, 19, 20, 21, 22] (2 * rr + 1) (fun m s17 s18 s19 s20 s21 s22 wr => ∃ (t : Nat) (F : Nat → Nat), s17 = .int .i64 ((y : Int) - (rr : Int) + (t : Int)) ∧ t + m = 2 * rr + 1 ∧ Hid (NdI W0 wr w4.heap.size pa pb n g g0 o0 c S F ∧ Cpd k rr pa pb x y S F t 0))
  case atStart => exact ⟨0, _, by simp, by omega, ⟨HX0.out, fun t u _ h => by omega⟩⟩
  case round =>
    clear HX0 hw5
    obtain ⟨t, F, rfl, ht, HX⟩ := hrel
    by_cases hlt : t < 2 * rr + 1
    · have hlt' : (y : Int) - (rr : Int) + (t : Int) ≤ (y : Int) + (rr : Int) := by omega
      go_wp2_with fail
      go_loopg [18, 19, 20, 21, 22] (2 * rr + 1) (fun m s18 s19 s20 s21 s22 wx => ∃ (u : Nat) (F : Nat → Nat), s18 = .int .i64 ((x : Int) - (rr : Int) + (u : Int)) ∧ u + m = 2 * rr + 1 ∧ Hid (NdI W0 wx w4.heap.size pa pb n g g0 o0 c S F ∧ Cpd k rr pa pb x y S F t u))
      case atStart => exact ⟨0, F, by simp, by omega, HX⟩
      case round =>
        clear HX
        obtain ⟨u, F, rfl, hu, HX⟩ := hrel
        by_cases hlu : u < 2 * rr + 1
        · have hlu' : (x : Int) - (rr : Int) + (u : Int) ≤ (x : Int) + (rr : Int) := by omega
          have k0 := HX.out.1.p.c0
          have k1 := HX.out.1.p.c1
          have k2 := HX.out.1.p.c2
          have j2 := HX.out.1.b.c2
          have CA := CB.out pa ((x : Int) - (rr : Int) + (u : Int)) wr ha1 ha2
          have CD := CB.out pb ((y : Int) - (rr : Int) + (t : Int)) wr hb1 hb2
          obtain ⟨ua, hua⟩ : ∃ m : Nat, borV k pa ((x : Int) - (rr : Int) + (u : Int)) = (m : Int) := ⟨_, (Int.toNat_of_nonneg (borV_lt (k := k) (n := (pa : Int)) _ (by omega)).1).symm⟩
          obtain ⟨ub, hub⟩ : ∃ m : Nat, borV k pb ((y : Int) - (rr : Int) + (t : Int)) = (m : Int) := ⟨_, (Int.toNat_of_nonneg (borV_lt (k := k) (n := (pb : Int)) _ (by omega)).1).symm⟩
          have hid : ndX k rr pa pb x y t u = ub * pa + ua := by
            unfold ndX
            rw [show (y : Int) + (t : Int) - (rr : Int) = (y : Int) - (rr : Int) + (t : Int) by omega, show (x : Int) + (u : Int) - (rr : Int) = (x : Int) - (rr : Int) + (u : Int) by omega, hua, hub, Int.toNat_natCast, Int.toNat_natCast]
          have hin : ub * pa + ua < n := by rw [← hid, HSZ.out.2.1]; exact ndX_in ha1 hb1
          rw [hua] at CA
          rw [hub] at CD
          have hmul : (ub : Int) * (pa : Int) = ((ub * pa : Nat) : Int) := by rw [Int.natCast_mul]
          obtain ⟨m, hm⟩ : ∃ m, ub * pa = m := ⟨_, rfl⟩
          rw [hm] at hmul hin hid
          have HWR : Hid (IntKind.i64.wrap (IntKind.i64.wrap (m : Int) + (ua : Int)) = ((m + ua : Nat) : Int)) := (wrap_idx (m := m) (a := ua) (p := (m : Int)) rfl (by omega)).1
          obtain ⟨A, hA⟩ : ∃ A, m + ua = A := ⟨_, rfl⟩
          rw [hA] at hin hid HWR
          have ci := HI.out wr A HX.out.1.p.q hin
          have hs4' := HB.out A
          have HX2 : Hid (NdI W0 (wr.setCell ⟨g, A, none⟩ (.int .u32 ((S.getD A 0 : Nat) : Int))) w4.heap.size pa pb n g g0 o0 c S (putF F A (S.getD A 0)) ∧ Cpd k rr pa pb x y S (putF F A (S.getD A 0)) t (u + 1)) := by
            refine ⟨HX.out.1.put hin hs4', ?_⟩
            rw [← hid]
            exact HX.out.2.step
          have HPT : Hid (∀ z : World, Q wr z → NdI W0 (z.setCell ⟨g, A, none⟩ (.int .u32 ((S.getD A 0 : Nat) : Int))) w4.heap.size pa pb n g g0 o0 c S (putF F A (S.getD A 0))) := fun z q => (HX.out.1.next q).put hin hs4'
          have cg := HX.out.1.v.cell A hin
          have fg := HX.out.1.v.free A
          obtain ⟨vv, hvv⟩ : ∃ vv, S.getD A 0 = vv := ⟨_, rfl⟩
          rw [hvv] at ci HPT HX2
          have HC2 : Hid (Cpd k rr pa pb x y S (putF F A vv) t (u + 1)) := HX2.out.2
          obtain ⟨zz, hzz⟩ : ∃ zz, wr.cell? ⟨g, A, none⟩ = some zz := ⟨_, cg⟩
          clear hua hub hid hm HX2 hvv cg hA
          go_wp2_with fail
          refine CA.mono ?_
          rintro e w6 ⟨rfl, hw6⟩
          obtain rfl := hw6.symm
          clear hw6 CA
          go_wp2_with fail
          refine CD.mono ?_
          rintro e w6 ⟨rfl, hw6⟩
          obtain rfl := hw6.symm
          clear hw6 CD
          have n0 := qw_some wr
          have f0 := qw_cell k0
          have f2 := qw_cell k2
          have f3 := qw_cell j2
          go_wp2_with fail
          refine wp_region_mk [0, 1, 2, 3, 4, 5, 6, 7, 8, 9, 10, 11, 12, 13, 14, 15, 16, 17, 18] [[19]] 1 _ (by kernel_rfl) (by kernel_rfl) rfl (by kernel_rfl) ?_
          simp only [List.filterMap_cons, List.filterMap_nil, List.getElem?_cons_zero, List.getElem?_cons_succ]
          repeat (first | go_big_quiet_step (fail) | quiet_step (fail))
          refine wpQuiet_val rfl (v := .pointer (some ⟨g0, o0 + A, none⟩)) (fun z _ => by have hw := HWR.out; simp [execOp, go_sem, hw, hin]) ?_
          refine wpQuiet_val rfl (v := .int .u32 (vv : Int)) (fun z hz => by obtain ⟨nn, rfl⟩ := hz; have hc := nn.q.cell ci; simp [execOp, go_sem, Act.put, hc]) ?_
          refine wpQuiet_val rfl (v := .pointer (some ⟨g, A, none⟩)) (fun z _ => by have hw := HWR.out; simp [execOp, go_sem, Act.put, hw, hin]) ?_
          refine wpQuiet_nil ?_
          intro w8 hx8
          have d5 := hx8.cell hzz
          have d6 : w8.frozen? ⟨g, A, none⟩ = false := by rw [hx8.2]; exact fg
          refine tree_skipF 19 rfl rfl rfl (x' := w8.setCell ⟨g, A, none⟩ (.int .u32 (vv : Int))) (by simp [execOp, go_sem, Act.put, d5, d6]) ?_
          refine tree_nil ?_
          have HP10 : Hid (NdI W0 (w8.setCell ⟨g, A, none⟩ (.int .u32 (vv : Int))) w4.heap.size pa pb n g g0 o0 c S (putF F A vv) ∧ Cpd k rr pa pb x y S (putF F A vv) t (u + 1)) := ⟨HPT.out w8 hx8, HC2.out⟩
          generalize w8.setCell ⟨g, A, none⟩ (.int .u32 (vv : Int)) = w9 at HP10 ⊢
          clear n0 f0 f2 f3 d5 d6 hx8 ci fg hzz k0 k1 k2 j2 hmul
          go_wp2_with fail
          go_roundg (2 * rr + 1 - (u + 1))
          case measure => go_light; omega
          case rel => go_light; exact ⟨u + 1, _, by simp; omega, by omega, HP10⟩
        · have hu2 : u = 2 * rr + 1 := by omega
          have hge : ¬ (x : Int) - (rr : Int) + (u : Int) ≤ (x : Int) + (rr : Int) := by omega
          have HX9 : Hid (NdI W0 wr w4.heap.size pa pb n g g0 o0 c S F ∧ Cpd k rr pa pb x y S F (t + 1) 0) := ⟨HX.out.1, by have := HX.out.2; rw [hu2] at this; exact this.line⟩
          clear hu2
          go_wp2_with fail
          go_roundg (2 * rr + 1 - (t + 1))
          case measure => go_light; omega
          case rel => go_light; exact ⟨t + 1, F, by simp; omega, by omega, HX9⟩
    · have ht2 : t = 2 * rr + 1 := by omega
      have hge : ¬ (y : Int) - (rr : Int) + (t : Int) ≤ (y : Int) + (rr : Int) := by omega
      have HD : Hid (NdI W0 wr w4.heap.size pa pb n g g0 o0 c S F ∧ Cpd k rr pa pb x y S F (2 * rr + 1) 0) := by rw [← ht2]; exact HX
      have HEQ : Hid (bluV kind rr k pa pb (tabB n F) (y * pa + x) = bluV kind rr k pa pb S (y * pa + x)) := blu_needs ha1 hb1 hxn (fun t u h1 h2 => by rw [tabB_at (by rw [HSZ.out.2.1]; exact ndX_in ha1 hb1)]; exact HD.out.2 t u h2 (Or.inl h1))
      have CP : Hid (∀ w : World, Q wr w → Calls Try.prog 9 #[.agg #[.int .i64 (pa : Int), .int .i64 (pb : Int), .slice (some ⟨g0, o0, none⟩) n c], .int .i64 kind, .int .i64 (rr : Int), .int .i64 (k : Int)] w fun e w' => ∃ gt, e = .returned (.tuple #[.agg #[.int .i64 (pa : Int), .int .i64 (pb : Int), .slice (some ⟨gt, 0, none⟩) n n], .int .i64 0]) ∧ VR w' gt n (fun j => .int .u32 ((bluV kind rr k pa pb S j : Nat) : Int)) ∧ w.heap.size ≤ gt ∧ Q w w') := fun w q =>
        blur_good kind rr k pa pb g0 o0 c n S w HSZ.out.1 HSZ.out.2.1 HN.out HB.out (HUI.out w (HD.out.1.p.q.trans q)) HSZ.out.2.2.1 HSZ.out.2.2.2.1 HSZ.out.2.2.2.2
      have CQ : Hid (∀ w : World, Q wr w → Calls Try.prog 9 #[.agg #[.int .i64 (pa : Int), .int .i64 (pb : Int), .slice (some ⟨g, 0, none⟩) n n], .int .i64 kind, .int .i64 (rr : Int), .int .i64 (k : Int)] w fun e w' => ∃ gt, e = .returned (.tuple #[.agg #[.int .i64 (pa : Int), .int .i64 (pb : Int), .slice (some ⟨gt, 0, none⟩) n n], .int .i64 0]) ∧ VR w' gt n (fun j => .int .u32 ((bluV kind rr k pa pb (tabB n F) j : Nat) : Int)) ∧ w.heap.size ≤ gt ∧ Q w w') := fun w q =>
        blur_good kind rr k pa pb g 0 n n (tabB n F) w HSZ.out.1 HSZ.out.2.1 (tabB_len _ _) (fun i => by
          rcases Nat.lt_or_ge i n with h | h
          · rw [tabB_at h]; exact HD.out.1.lt i
          · rw [List.getD_eq_getElem?_getD, List.getElem?_eq_none (by rw [tabB_len]; exact h)]; decide) ((vr_uis HD.out.1.v).next q) HSZ.out.2.2.1 HSZ.out.2.2.2.1 HSZ.out.2.2.2.2
      have hin : y * pa + x < n := by
        rw [HSZ.out.2.1]
        have : (y + 1) * pa ≤ pb * pa := Nat.mul_le_mul_right _ hyn
        rw [Nat.add_mul, Nat.one_mul, Nat.mul_comm pb pa] at this
        omega
      have hmul : (y : Int) * (pa : Int) = ((y * pa : Nat) : Int) := by rw [Int.natCast_mul]
      obtain ⟨m, hm⟩ : ∃ m, y * pa = m := ⟨_, rfl⟩
      rw [hm] at hmul hin HEQ
      have HWR : Hid (IntKind.i64.wrap (IntKind.i64.wrap (m : Int) + (x : Int)) = ((m + x : Nat) : Int)) := (wrap_idx (m := m) (a := x) (p := (m : Int)) rfl (by omega)).1
      obtain ⟨A, hA⟩ : ∃ A, m + x = A := ⟨_, rfl⟩
      rw [hA] at hin HWR HEQ
      have k0 := HD.out.1.p.c0
      have k1 := HD.out.1.p.c1
      have k2 := HD.out.1.p.c2
      clear HX ht2 hm hA
      go_wp2_with fail
      refine (CP.out wr (Q.refl wr)).mono ?_
      rintro e w6 ⟨gp, rfl, hv6, hl6, q6⟩
      obtain ⟨w7, hw7⟩ : ∃ w7, w6.alloc (.cells #[.int .i64 (pa : Int), .int .i64 (pb : Int), .slice (some ⟨gp, 0, none⟩) n n] 24) = w7 := ⟨_, rfl⟩
      have q67 : Q w6 w7 := by rw [← hw7]; exact (Q.refl w6).cells _ _
      have HP7 : Hid (Pbb W0 w7 w6.heap.size (pa : Int) (pb : Int) (.slice (some ⟨gp, 0, none⟩) n n) ∧ Q wr w7 ∧ VR w7 gp n (fun j => .int .u32 ((bluV kind rr k pa pb S j : Nat) : Int))) := by
        refine ⟨?_, q6.trans q67, hv6.next q67⟩
        rw [← hw7]
        exact Pbb.mk' W0 w6 (HD.out.1.p.q.trans q6) _ _ _ _ _
      clear k0 k1 k2 q6 q67 hv6 hl6
      have k0 := (HD.out.1.next HP7.out.2.1).b.c0
      have k1 := (HD.out.1.next HP7.out.2.1).b.c1
      have k2 := (HD.out.1.next HP7.out.2.1).b.c2
      go_wp2_with fail
      refine (CQ.out w7 HP7.out.2.1).mono ?_
      rintro e w8 ⟨gq, rfl, hv8, hl8, q8⟩
      obtain ⟨w9, hw9⟩ : ∃ w9, w8.alloc (.cells #[.int .i64 (pa : Int), .int .i64 (pb : Int), .slice (some ⟨gq, 0, none⟩) n n] 24) = w9 := ⟨_, rfl⟩
      have q89 : Q w8 w9 := by rw [← hw9]; exact (Q.refl w8).cells _ _
      have HP9 : Hid (Pbb W0 w9 w8.heap.size (pa : Int) (pb : Int) (.slice (some ⟨gq, 0, none⟩) n n) ∧ Pbb W0 w9 w6.heap.size (pa : Int) (pb : Int) (.slice (some ⟨gp, 0, none⟩) n n) ∧ Pbb W0 w9 W0.heap.size (pa : Int) (pb : Int) (.slice (some ⟨g0, o0, none⟩) n c) ∧ VR w9 gp n (fun j => .int .u32 ((bluV kind rr k pa pb S j : Nat) : Int)) ∧ VR w9 gq n (fun j => .int .u32 ((bluV kind rr k pa pb (tabB n F) j : Nat) : Int))) := by
        refine ⟨?_, HP7.out.1.next (q8.trans q89), HD.out.1.p.next (HP7.out.2.1.trans (q8.trans q89)), HP7.out.2.2.next (q8.trans q89), hv8.next q89⟩
        rw [← hw9]
        exact Pbb.mk' W0 w8 (HP7.out.1.q.trans q8) _ _ _ _ _
      clear k0 k1 k2 q8 q89 hv8 hl8 hw7
      have k0 := HP9.out.2.2.1.c0
      have j2 := HP9.out.1.c2
      have i2 := HP9.out.2.1.c2
      have cp := HP9.out.2.2.2.1.cell A hin
      have cq := HP9.out.2.2.2.2.cell A hin
      rw [HEQ.out] at cq
      obtain ⟨vv, hvv⟩ : ∃ vv, bluV kind rr k pa pb S A = vv := ⟨_, rfl⟩
      have cp' : w9.cell? ⟨gp, A, none⟩ = some (.int .u32 (vv : Int)) := by rw [← hvv]; exact cp
      have cq' : w9.cell? ⟨gq, A, none⟩ = some (.int .u32 (vv : Int)) := by rw [← hvv]; exact cq
      have HW9 : Hid (Q W0 w9) := HP9.out.1.q
      clear cp cq hvv HEQ HD HP7 HP9 CP CQ
      have n0 := qw_some w9
      have f0 := qw_cell k0
      have f2 := qw_cell j2
      have f3 := qw_cell i2
      go_wp2_with fail
      refine wp_region_quiet_Q (by kernel_rfl) (by kernel_rfl) ?_
      have hw : wrap64 (wrap64 (m : Int) + (x : Int)) = ((A : Nat) : Int) := by have h9 := HWR.out; simp only [IntKind.wrap_i64] at h9; unfold wrap64; omega
      have f4 := qw_cell cp'
      have f5 := qw_cell cq'
      repeat (first | go_big_quiet_step (first | (go_at_call 10; exact calls_qs (num11_any 0 _))) | quiet_step (first | (go_at_call 10; exact calls_qs (num11_any 0 _))))
      simp only [hw]
      repeat (first | go_big_quiet_step (first | (go_at_call 10; exact calls_qs (num11_any 0 _))) | quiet_step (first | (go_at_call 10; exact calls_qs (num11_any 0 _))))
      refine wpQuiet_nil ?_
      intro wz hz
      have HQZ : Hid (Q W0 wz) := HW9.out.trans (qw_out hz)
      clear hz n0 f0 f2 f3 f4 f5
      go_wp2_with fail
      go_ret
      exact ⟨rfl, HQZ.out⟩
end Go.Proofs.Ytpobgkcobgecoab

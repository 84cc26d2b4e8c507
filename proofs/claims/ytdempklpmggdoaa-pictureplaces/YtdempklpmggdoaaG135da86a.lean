/- A plane that is made of where its samples come from. -/
import Derived.Test.YtdempklpmggdoaaGe814f173
import Derived.Laws.EntriesVeiled
import Derived.Test.YtdempklpmggdoaaG2ffc47ac
import Derived.Test.YtdempklpmggdoaaGa571244e
namespace Go.Proofs.Ytdempklpmggdoaa
open Go.RowKit
set_option linter.unusedVariables false
set_option linter.unusedSimpArgs false

theorem Own.set {w wr : World} {b : Nat} {S : List Nat} (h : Own w wr b S) {c j : Nat} (hc : w.heap.size ≤ c) (hb : c ≠ b) {v : Value} : Own w (wr.setCell ⟨c, j, none⟩ v) b S := by
  refine ⟨h.q.set hc v, h.new, fun i hi => ?_, fun i => ?_⟩
  · rw [World.cell?_setCell_other _ _ _ _ (fun e => hb (by injection e))]; exact h.cells i hi
  · rw [World.frozen?_setCell]; exact h.free i
set_option maxHeartbeats 4000000 in
set_option maxRecDepth 100000 in
theorem lay_any (a b : Nat) (hs : Size a b) (f : Nat) (cap : Array Value) (E : ∀ (args : Array Value) (w : World), (callFunc f args).run Try.prog w = .ok (.enter f args) w) (G : Nat → Nat → Nat) (w : World)
    (hf : ∀ (x y : Nat) (w' : World), x < a → y < b → Q w w' → Calls Try.prog f (#[.int .i64 (x : Int), .int .i64 (y : Int)] ++ cap) w' fun e w'' => e = .returned (.int .u32 (G x y : Nat)) ∧ Q w' w'') :
    Calls Try.prog 42 #[.agg #[.int .i64 (a : Int), .int .i64 (b : Int), .func (.func f) #[] cap]] w fun e w' => ∃ g, e = .returned (.agg #[.int .i64 (a : Int), .int .i64 (b : Int), .slice (some ⟨g, 0, none⟩) (a * b) (a * b)]) ∧ Own w w' g (tab a b G) := by
  obtain ⟨n, hn⟩ : ∃ n, a * b = n := ⟨_, rfl⟩
  have HN : Hid (a * b = n) := hn
  have n2 : n ≤ 65536 := by rw [← hn]; exact hs.ab
  obtain ⟨M, hmk, hfill⟩ := make_u32 n (by omega)
  have HF : Hid (∀ (x y : Nat) (w' : World), x < a → y < b → Q w w' → Calls Try.prog f (#[.int .i64 (x : Int), .int .i64 (y : Int)] ++ cap) w' fun e w'' => e = .returned (.int .u32 (G x y : Nat)) ∧ Q w' w'') := hf
  have HFl : Hid (∀ w : World, Fill w (w.alloc (.cells M 27)) w.heap.size n (fun _ => 0) n) := hfill
  obtain ⟨a1, a2, b1, b2, ab⟩ := hs
  have hcast : (a : Int) * (b : Int) = (n : Int) := by rw [← Int.natCast_mul, hn]
  rw [hn]
  obtain ⟨w1, hw1⟩ : ∃ w1, (w.alloc (.cells #[.int .i64 (a : Int), .int .i64 (b : Int), .func (.func f) #[] cap] 83)).alloc (.cells #[.int .i64 0, .int .i64 0, .slice none 0 0] 47) = w1 := ⟨_, rfl⟩
  have Q1 : Hid (Q w w1) := by rw [← hw1]; exact ((Q.refl w).cells _ _).cells _ _
  have S1 : w1.heap.size = w.heap.size + 1 + 1 := by rw [← hw1]; simp
  have z1 : w1.cell? ⟨w.heap.size, 0, none⟩ = some (.int .i64 (a : Int)) := by rw [← hw1]; simp [go_sem]
  have z2 : w1.cell? ⟨w.heap.size, 1, none⟩ = some (.int .i64 (b : Int)) := by rw [← hw1]; simp [go_sem]
  have z3 : w1.cell? ⟨w.heap.size, 2, none⟩ = some (.func (.func f) #[] cap) := by rw [← hw1]; simp [go_sem]
  have y1 : w1.cell? ⟨w.heap.size + 1, 0, none⟩ = some (.int .i64 0) := by rw [← hw1]; simp [go_sem]
  have y2 : w1.cell? ⟨w.heap.size + 1, 1, none⟩ = some (.int .i64 0) := by rw [← hw1]; simp [go_sem]
  have y3 : w1.cell? ⟨w.heap.size + 1, 2, none⟩ = some (.slice none 0 0) := by rw [← hw1]; simp [go_sem]
  have yf : ∀ j, w1.frozen? ⟨w.heap.size + 1, j, none⟩ = false := fun j => by rw [← hw1]; simp [go_sem]
  clear hf hfill ab hn
  go_enter Try.func42, Try.ntmps42
  go_wp2_with fail
  clear hw1
  have F0 : Hid (Fill w1 (w1.alloc (.cells M 27)) w1.heap.size n (fun i => G (i % a) (i / a)) 0) := by
    obtain ⟨p1, p2, p3, p4, p5⟩ := HFl.out w1
    exact ⟨p1, p2, fun i hi => absurd hi (Nat.not_lt_zero _), p4, p5⟩
  generalize w1.alloc _ = w2 at F0 ⊢
  rw [S1] at F0
  obtain ⟨g, hg⟩ : ∃ g, w.heap.size + 1 + 1 = g := ⟨_, rfl⟩
  rw [hg] at F0 ⊢
  go_loopg [15] b (fun m s15 wr => ∃ y : Nat, s15 = .int .i64 y ∧ y + m = b ∧ Hid (Fill w1 wr g n (fun i => G (i % a) (i / a)) (y * a)))
  case atStart => exact ⟨0, rfl, by omega, by rw [Nat.zero_mul]; exact F0⟩
  case round =>
    obtain ⟨y, rfl, hm, FY⟩ := hrel
    by_cases hyb : y < b
    · have c1 := FY.out.q.cell z1
      have hy0 : (0 : Int) ≤ (y : Int) := by omega
      have hy1 : (y : Int) < (b : Int) := by omega
      obtain ⟨ya, hya⟩ : ∃ ya, y * a = ya := ⟨_, rfl⟩
      have hya2 : ya + a ≤ n := by rw [← hya, ← HN.out, Nat.mul_comm a b, ← Nat.succ_mul]; exact Nat.mul_le_mul_right _ (by omega)
      have hya3 : ¬ n = ya := by omega
      have hya4 : ya ≤ n := by omega
      have hyc : (y : Int) * (a : Int) = (ya : Int) := by rw [← Int.natCast_mul, hya]
      have HY : Hid (y * a = ya) := hya
      rw [hya] at FY
      clear hya
      go_wp2_with fail
      go_loopg [26] a (fun m s26 wx => ∃ x : Nat, s26 = .int .i64 x ∧ x + m = a ∧ Hid (Fill w1 wx g n (fun i => G (i % a) (i / a)) (ya + x)))
      case atStart => exact ⟨0, rfl, by omega, FY⟩
      case round =>
        obtain ⟨x, rfl, hmx, FX⟩ := hrel
        by_cases hxa : x < a
        · have c3 := FX.out.q.cell z3
          obtain ⟨u, hu⟩ := FX.out.room (ya + x) (by omega)
          have fz := FX.out.free (ya + x)
          have hx0 : (0 : Int) ≤ (x : Int) := by omega
          have hx1 : (x : Int) < ((n - ya : Nat) : Int) := by omega
          have hx2 : (x : Int) < (a : Int) := by omega
          have C := HF.out x y wr hxa hyb (Q1.out.trans FX.out.q)
          have HG : Hid (G x y = G ((ya + x) % a) ((ya + x) / a)) := by
            show G x y = _
            rw [← HY.out, place_mod y hxa, place_div y hxa]
          go_wp2_with fail
          refine C.mono ?_
          rintro e wx ⟨rfl, qx⟩
          replace hu := qx.cell hu
          have fz' : wx.frozen? ⟨g, ya + x, none⟩ = false := by rw [qx.2]; exact fz
          have FX2 : Hid (Fill w1 (wx.setCell ⟨g, ya + x, none⟩ (.int .u32 (G x y : Nat))) g n (fun i => G (i % a) (i / a)) (ya + x + 1)) := (FX.out.next qx).step (by omega) HG.out
          generalize G x y = V at FX2 ⊢
          clear C HG FX fz
          go_wp2_with fail
          go_roundg (a - (x + 1))
          case measure => go_light; omega
          case rel => go_light; exact ⟨x + 1, by go_num, by omega, FX2⟩
        · have hxe : x = a := by omega
          go_wp2_with fail
          go_roundg (b - (y + 1))
          case measure => go_light; omega
          case rel =>
            go_light
            refine ⟨y + 1, by go_num, by omega, ?_⟩
            rw [Nat.succ_mul, HY.out]
            rw [hxe] at FX
            exact FX
    · have hye : y = b := by omega
      have FE : Hid (Own w wr g (tab a b G)) := by
        have f := FY.out
        rw [hye, Nat.mul_comm b a, HN.out] at f
        obtain ⟨h1, h2, h3, h4⟩ := Fill.own (S := tab a b G) f (by rw [tab_length]; exact HN.out) (fun i hi => by rw [← HN.out] at hi; exact tab_get hi)
        exact ⟨Q1.out.trans h1, by omega, h3, h4⟩
      have c1 := FY.out.q.cell z1
      have c2 := FY.out.q.cell z2
      have d1 := FY.out.q.cell y1
      have d2 := FY.out.q.cell y2
      have d3 := FY.out.q.cell y3
      have df : ∀ j, wr.frozen? ⟨w.heap.size + 1, j, none⟩ = false := fun j => by rw [FY.out.q.2]; exact yf j
      have hne : g ≠ w.heap.size + 1 := by omega
      clear FY z1 z2 z3 y1 y2 y3 yf
      go_wp2_with fail
      refine bodyPost_ret (v := .agg #[.int .i64 (a : Int), .int .i64 (b : Int), .slice (some ⟨g, 0, none⟩) n n]) (by simp [results, Try.results42, go_sem, d1, d2, d3]) rfl ⟨g, rfl, ?_⟩
      exact FE.out.set (by omega) (fun e => hne e.symm) |>.set (by omega) (fun e => hne e.symm) |>.set (by omega) (fun e => hne e.symm)
end Go.Proofs.Ytdempklpmggdoaa
/- Where samples come from: the function values of the program. -/
namespace Go.Proofs.Ytdempklpmggdoaa
open Go.RowKit
set_option linter.unusedVariables false
set_option linter.unusedSimpArgs false

set_option maxHeartbeats 1000000 in
set_option maxRecDepth 100000 in
theorem psample_any {a b : Nat} (hs : Size a b) {S : List Nat} (hl : S.length = a * b) {g o cap : Nat} (X Y : Int) {x y : Nat} (hX : X = x) (hY : Y = y) (hx : x < a) (hy : y < b) {w : World} (hu : UIs w g o S) :
    Calls Try.prog 41 #[.agg #[.int .i64 (a : Int), .int .i64 (b : Int), .slice (some ⟨g, o, none⟩) S.length cap], .int .i64 X, .int .i64 Y] w fun e w' => e = .returned (.int .u32 (smp S a x y : Nat)) ∧ Q w w' := by
  have hp := place_lt hx hy
  have hab := hs.ab
  rw [← hl] at hp hab
  have hc := hu _ hp
  have hS : S.getD (y * a + x) 0 = smp S a x y := rfl
  rw [hS] at hc
  generalize smp S a x y = V at *
  subst hX hY
  obtain ⟨ya, hya⟩ : ∃ ya, y * a = ya := ⟨_, rfl⟩
  rw [hya] at hp hc
  have hyc : (y : Int) * (a : Int) = (ya : Int) := by rw [← Int.natCast_mul, hya]
  have h1 : (0 : Int) ≤ (ya : Int) + (x : Int) := by omega
  have h2 : (ya : Int) + (x : Int) < (S.length : Int) := by omega
  have hw : IntKind.i64.wrap ((ya : Int) + (x : Int)) = (ya : Int) + (x : Int) := by rw [IntKind.wrap_i64]; omega
  have ht : ((ya : Int) + (x : Int)).toNat = ya + x := by omega
  have Q0 : Hid (∀ c t, Q w (w.alloc (.cells c t))) := fun c t => (Q.refl w).cells c t
  have hc' : ∀ c t, (w.alloc (.cells c t)).cell? ⟨g, o + (ya + x), none⟩ = some (.int .u32 (V : Nat)) := fun c t => (Q0.out c t).cell hc
  clear hu hs hl hya hS hx hy
  go_enter Try.func41, Try.ntmps41
  go_wp2_with fail
  go_ret
  exact ⟨rfl, Q0.out _ _⟩
/-- A plane in a variable. -/
structure PlBox (w : World) (B a b : Nat) (v : Value) : Prop where
  c0 : w.cell? ⟨B, 0, none⟩ = some (.int .i64 (a : Int))
  c1 : w.cell? ⟨B, 1, none⟩ = some (.int .i64 (b : Int))
  c2 : w.cell? ⟨B, 2, none⟩ = some v
theorem PlBox.next {w w' : World} {B a b : Nat} {v : Value} (h : PlBox w B a b v) (q : Q w w') : PlBox w' B a b v := ⟨q.cell h.c0, q.cell h.c1, q.cell h.c2⟩
theorem new1_any {B s : Nat} {x y : Int} {w : World} (hB : w.cell? ⟨B, 0, none⟩ = some (.int .u32 (s : Int))) :
    Calls Try.prog 56 #[.int .i64 x, .int .i64 y, .pointer (some ⟨B, 0, none⟩)] w fun e w' => e = .returned (.int .u32 (s : Nat)) ∧ Q w w' := by
  go_enter Try.func56, Try.ntmps56
  go_wp2_with fail
  go_ret
  exact ⟨rfl, Q.refl _⟩
set_option maxHeartbeats 1000000 in
set_option maxRecDepth 100000 in
theorem crop1_any {a b : Nat} (hs : Size a b) {S : List Nat} (hl : S.length = a * b) {g o cap B : Nat} {R x0 y0 : Nat} {x y : Nat} (hx : x0 + x < a) (hy : y0 + y < b) {w : World} (hB : PlBox w B a b (.slice (some ⟨g, o, none⟩) S.length cap)) (hu : UIs w g o S) (r0 : w.cell? ⟨R, 0, none⟩ = some (.int .i64 (x0 : Int))) (r1 : w.cell? ⟨R, 1, none⟩ = some (.int .i64 (y0 : Int))) :
    Calls Try.prog 40 #[.int .i64 (x : Int), .int .i64 (y : Int), .pointer (some ⟨B, 0, none⟩), .pointer (some ⟨R, 0, none⟩)] w fun e w' => e = .returned (.int .u32 (smp S a (x0 + x) (y0 + y) : Nat)) ∧ Q w w' := by
  obtain ⟨c0, c1, c2⟩ := hB
  have a2 := hs.a2
  have b2 := hs.b2
  have HS : Hid (Size a b) := hs
  have HL : Hid (S.length = a * b) := hl
  have HU : Hid (UIs w g o S) := hu
  clear hs hl hu
  go_enter Try.func40, Try.ntmps40
  go_wp2_with fail
  refine (psample_any HS.out HL.out _ _ (x := (x0 + x)) (y := (y0 + y)) (by omega) (by omega) (by omega) (by omega) HU.out).mono ?_
  rintro e w1 ⟨rfl, q1⟩
  go_wp2_with fail
  go_ret
  exact ⟨rfl, q1⟩
end Go.Proofs.Ytdempklpmggdoaa
/- Pasting and extending: where samples come from. -/
namespace Go.Proofs.Ytdempklpmggdoaa
open Go.RowKit
set_option linter.unusedVariables false
set_option linter.unusedSimpArgs false

def lieB (i s n : Int) : Bool := decide (s ≤ i) && decide (i - n < s)
theorem lieB_true {i s n : Int} : lieB i s n = true ↔ s ≤ i ∧ i - n < s := by unfold lieB; simp
/-- A sample of a plane that another is pasted on. -/
def pasV (S : List Nat) (a : Nat) (T : List Nat) (c d : Nat) (X Y : Int) (x y : Nat) : Nat :=
  if (lieB x X c && lieB y Y d) = true then smp T c ((x : Int) - X).toNat ((y : Int) - Y).toNat else smp S a x y
/-- A sample of a plane made greater. -/
def extV (S : List Nat) (a b : Nat) (k L T : Int) (x y : Nat) : Nat := smp S a (borV k a ((x : Int) - L)).toNat (borV k b ((y : Int) - T)).toNat
end Go.Proofs.Ytdempklpmggdoaa
/- Planes made and moved: the program's New, Get, Crop, Paste, Flip, Transpose. -/
namespace Go.Proofs.Ytdempklpmggdoaa
open Go.RowKit
set_option linter.unusedVariables false
set_option linter.unusedSimpArgs false

/-- An empty answer. -/
def noPl : Value := .agg #[.int .i64 0, .int .i64 0, .slice none 0 0]
/-- A plane in memory of its own, and no error. -/
def Made (w : World) (a b : Nat) (S : List Nat) (e : Ending) (w' : World) : Prop := ∃ g, e = .returned (.tuple #[.agg #[.int .i64 (a : Int), .int .i64 (b : Int), .slice (some ⟨g, 0, none⟩) (a * b) (a * b)], .int .i64 0]) ∧ Own w w' g S
/-- No plane, and an error. -/
def Fails (w : World) (r : Int) (e : Ending) (w' : World) : Prop := e = .returned (.tuple #[noPl, .int .i64 r]) ∧ Q w w'
theorem Q.put {w wr : World} (h : Q w wr) {c j : Nat} (hc : w.heap.size ≤ c) {v : Value} : Q w (wr.setCell ⟨c, j, none⟩ v) := h.set hc v
theorem Own.base {w0 w wr : World} {b : Nat} {S : List Nat} (h : Own w wr b S) (q : Q w0 w) : Own w0 wr b S := ⟨q.trans h.q, Nat.le_trans q.1.size h.new, h.cells, h.free⟩

set_option maxHeartbeats 1000000 in
set_option maxRecDepth 100000 in
theorem crop_bad (W H : Int) (a : Option Addr) (n c : Nat) (hn : n ≤ 9223372036854775807) {r : Int} (hr : chk W H n = r) (h0 : r ≠ 0) (x0 y0 x1 y1 : Int) (w : World) :
    Calls Try.prog 21 #[.agg #[.int .i64 W, .int .i64 H, .slice a n c], .agg #[.int .i64 x0, .int .i64 y0, .int .i64 x1, .int .i64 y1]] w (Fails w r) := by
  have hb : (r != 0) = true := by rw [bne_iff_ne]; exact h0
  obtain ⟨w1, hw1⟩ : ∃ w1, ((w.alloc (.cells #[.int .i64 W, .int .i64 H, .slice a n c] 47)).alloc (.cells #[.int .i64 x0, .int .i64 y0, .int .i64 x1, .int .i64 y1] 26)).alloc (.cells #[.int .i64 0, .int .i64 0, .slice none 0 0] 47) = w1 := ⟨_, rfl⟩
  have Q1 : Hid (Q w w1) := by rw [← hw1]; exact ((((Q.refl w).cells _ _).cells _ _).cells _ _)
  have S1 : w1.heap.size = w.heap.size + 1 + 1 + 1 := by rw [← hw1]; simp
  have z00 : w1.cell? ⟨w.heap.size, 0, none⟩ = some (.int .i64 W) := by rw [← hw1]; simp [go_sem]
  have z01 : w1.cell? ⟨w.heap.size, 1, none⟩ = some (.int .i64 H) := by rw [← hw1]; simp [go_sem]
  have z02 : w1.cell? ⟨w.heap.size, 2, none⟩ = some (.slice a n c) := by rw [← hw1]; simp [go_sem]
  have z10 : w1.cell? ⟨w.heap.size + 1, 0, none⟩ = some (.int .i64 x0) := by rw [← hw1]; simp [go_sem]
  have z11 : w1.cell? ⟨w.heap.size + 1, 1, none⟩ = some (.int .i64 y0) := by rw [← hw1]; simp [go_sem]
  have z12 : w1.cell? ⟨w.heap.size + 1, 2, none⟩ = some (.int .i64 x1) := by rw [← hw1]; simp [go_sem]
  have z13 : w1.cell? ⟨w.heap.size + 1, 3, none⟩ = some (.int .i64 y1) := by rw [← hw1]; simp [go_sem]
  have z20 : w1.cell? ⟨w.heap.size + 1 + 1, 0, none⟩ = some (.int .i64 0) := by rw [← hw1]; simp [go_sem]
  have z21 : w1.cell? ⟨w.heap.size + 1 + 1, 1, none⟩ = some (.int .i64 0) := by rw [← hw1]; simp [go_sem]
  have z22 : w1.cell? ⟨w.heap.size + 1 + 1, 2, none⟩ = some (.slice none 0 0) := by rw [← hw1]; simp [go_sem]
  have yf : ∀ j, w1.frozen? ⟨w.heap.size + 1 + 1, j, none⟩ = false := fun j => by rw [← hw1]; simp [go_sem]
  have A := check_any W H a n c hn w1
  rw [hr] at A
  clear hr hn
  go_enter Try.func21, Try.ntmps21
  go_wp2_with fail
  refine A.mono ?_
  rintro e w2 ⟨rfl, q2⟩
  replace z00 := q2.cell z00
  replace z01 := q2.cell z01
  replace z02 := q2.cell z02
  replace z10 := q2.cell z10
  replace z11 := q2.cell z11
  replace z12 := q2.cell z12
  replace z13 := q2.cell z13
  replace z20 := q2.cell z20
  replace z21 := q2.cell z21
  replace z22 := q2.cell z22
  have yg : ∀ j, w2.frozen? ⟨w.heap.size + 1 + 1, j, none⟩ = false := fun j => by rw [q2.2]; exact yf j
  clear hw1 A yf
  go_wp2_with fail
  refine bodyPost_ret (v := .tuple #[noPl, .int .i64 r]) (by simp [results, Try.results21, go_sem, noPl, z20, z21, z22]) rfl ⟨rfl, ?_⟩
  exact (((Q1.out.trans q2).put (by omega)).put (by omega)).put (by omega)
end Go.Proofs.Ytdempklpmggdoaa
/- Planes made and moved: the program's New, Get, Crop, Paste. -/
namespace Go.Proofs.Ytdempklpmggdoaa
open Go.RowKit
set_option linter.unusedVariables false
set_option linter.unusedSimpArgs false

/-- A rectangle within a plane. -/
structure Rct (a b x0 y0 c d : Nat) : Prop where
  c1 : 1 ≤ c
  c2 : x0 + c ≤ a
  d1 : 1 ≤ d
  d2 : y0 + d ≤ b
theorem Rct.size {a b x0 y0 c d : Nat} (h : Rct a b x0 y0 c d) (hs : Size a b) : Size c d := by
  have := h.c1; have := h.c2; have := h.d1; have := h.d2; have := hs.a2; have := hs.b2
  refine ⟨by omega, by omega, by omega, by omega, Nat.le_trans (Nat.mul_le_mul (by omega) (by omega)) hs.ab⟩
def wiB (x0 y0 x1 y1 a b : Int) : Bool := decide (0 ≤ x0) && (decide (x0 < x1) && (decide (x1 ≤ a) && (decide (0 ≤ y0) && (decide (y0 < y1) && decide (y1 ≤ b)))))
theorem wiB_true {x0 y0 x1 y1 : Int} {a b : Nat} : wiB x0 y0 x1 y1 a b = true ↔ ∃ X Y c d : Nat, x0 = X ∧ y0 = Y ∧ x1 = (X + c : Nat) ∧ y1 = (Y + d : Nat) ∧ Rct a b X Y c d := by
  unfold wiB
  simp only [Bool.and_eq_true, decide_eq_true_eq]
  constructor
  · rintro ⟨h1, h2, h3, h4, h5, h6⟩
    exact ⟨x0.toNat, y0.toNat, (x1 - x0).toNat, (y1 - y0).toNat, by omega, by omega, by omega, by omega, by omega, by omega, by omega, by omega⟩
  · rintro ⟨X, Y, c, d, rfl, rfl, rfl, rfl, h1, h2, h3, h4⟩
    omega
set_option maxHeartbeats 2000000 in
set_option maxRecDepth 100000 in
theorem isWithin_any (x0 y0 x1 y1 a b : Int) (w : World) : Calls Try.prog 39 #[.agg #[.int .i64 x0, .int .i64 y0, .int .i64 x1, .int .i64 y1], .int .i64 a, .int .i64 b] w fun e w' => e = .returned (.bool (wiB x0 y0 x1 y1 a b)) ∧ Q w w' := by
  have Q0 : Hid (∀ c t, Q w (w.alloc (.cells c t))) := fun c t => (Q.refl w).cells c t
  unfold wiB
  by_cases h1 : 0 ≤ x0
  · by_cases h2 : x0 < x1
    · by_cases h3 : x1 ≤ a
      · by_cases h4 : 0 ≤ y0
        · by_cases h5 : y0 < y1
          · have e : (decide (0 ≤ x0) && (decide (x0 < x1) && (decide (x1 ≤ a) && (decide (0 ≤ y0) && (decide (y0 < y1) && decide (y1 ≤ b)))))) = decide (y1 ≤ b) := by simp [h1, h2, h3, h4, h5]
            rw [e]
            clear e
            by_cases h6 : y1 ≤ b
            · rw [decide_eq_true h6]
              go_enter Try.func39, Try.ntmps39
              go_wp2_with fail
              go_ret
              exact ⟨rfl, Q0.out _ _⟩
            · rw [decide_eq_false h6]
              have h7 : decide (y1 ≤ b) = false := decide_eq_false h6
              go_enter Try.func39, Try.ntmps39
              go_wp2_with fail
              go_ret
              exact ⟨rfl, Q0.out _ _⟩
          · have e : (decide (0 ≤ x0) && (decide (x0 < x1) && (decide (x1 ≤ a) && (decide (0 ≤ y0) && (decide (y0 < y1) && decide (y1 ≤ b)))))) = false := by simp [h5]
            rw [e]
            clear e
            have h7 : decide (y0 < y1) = false := decide_eq_false h5
            go_enter Try.func39, Try.ntmps39
            go_wp2_with fail
            go_ret
            exact ⟨rfl, Q0.out _ _⟩
        · have e : (decide (0 ≤ x0) && (decide (x0 < x1) && (decide (x1 ≤ a) && (decide (0 ≤ y0) && (decide (y0 < y1) && decide (y1 ≤ b)))))) = false := by simp [h4]
          rw [e]
          clear e
          have h7 : decide (0 ≤ y0) = false := decide_eq_false h4
          go_enter Try.func39, Try.ntmps39
          go_wp2_with fail
          go_ret
          exact ⟨rfl, Q0.out _ _⟩
      · have e : (decide (0 ≤ x0) && (decide (x0 < x1) && (decide (x1 ≤ a) && (decide (0 ≤ y0) && (decide (y0 < y1) && decide (y1 ≤ b)))))) = false := by simp [h3]
        rw [e]
        clear e
        have h7 : decide (x1 ≤ a) = false := decide_eq_false h3
        go_enter Try.func39, Try.ntmps39
        go_wp2_with fail
        go_ret
        exact ⟨rfl, Q0.out _ _⟩
    · have e : (decide (0 ≤ x0) && (decide (x0 < x1) && (decide (x1 ≤ a) && (decide (0 ≤ y0) && (decide (y0 < y1) && decide (y1 ≤ b)))))) = false := by simp [h2]
      rw [e]
      clear e
      have h7 : decide (x0 < x1) = false := decide_eq_false h2
      go_enter Try.func39, Try.ntmps39
      go_wp2_with fail
      go_ret
      exact ⟨rfl, Q0.out _ _⟩
  · have e : (decide (0 ≤ x0) && (decide (x0 < x1) && (decide (x1 ≤ a) && (decide (0 ≤ y0) && (decide (y0 < y1) && decide (y1 ≤ b)))))) = false := by simp [h1]
    rw [e]
    clear e
    have h7 : decide (0 ≤ x0) = false := decide_eq_false h1
    go_enter Try.func39, Try.ntmps39
    go_wp2_with fail
    go_ret
    exact ⟨rfl, Q0.out _ _⟩

set_option maxHeartbeats 2000000 in
set_option maxRecDepth 100000 in
theorem crop_good {a b : Nat} (hs : Size a b) {S : List Nat} (hl : S.length = a * b) (g o cap : Nat) {x0 y0 c d : Nat} (hr : Rct a b x0 y0 c d) (XX YY : Int) (hXX : XX = (x0 + c : Nat)) (hYY : YY = (y0 + d : Nat)) (w : World) (hu : UIs w g o S) :
    Calls Try.prog 21 #[.agg #[.int .i64 (a : Int), .int .i64 (b : Int), .slice (some ⟨g, o, none⟩) S.length cap], .agg #[.int .i64 (x0 : Int), .int .i64 (y0 : Int), .int .i64 XX, .int .i64 YY]] w (Made w c d (tab c d (fun x y => smp S a (x0 + x) (y0 + y)))) := by
  have hb : ((0 : Int) != 0) = false := by decide
  have hn : S.length ≤ 9223372036854775807 := by have := hs.ab; omega
  obtain ⟨w1, hw1⟩ : ∃ w1, ((w.alloc (.cells #[.int .i64 (a : Int), .int .i64 (b : Int), .slice (some ⟨g, o, none⟩) S.length cap] 47)).alloc (.cells #[.int .i64 (x0 : Int), .int .i64 (y0 : Int), .int .i64 XX, .int .i64 YY] 26)).alloc (.cells #[.int .i64 0, .int .i64 0, .slice none 0 0] 47) = w1 := ⟨_, rfl⟩
  have Q1 : Hid (Q w w1) := by rw [← hw1]; exact ((((Q.refl w).cells _ _).cells _ _).cells _ _)
  have S1 : w1.heap.size = w.heap.size + 1 + 1 + 1 := by rw [← hw1]; simp
  have z00 : w1.cell? ⟨w.heap.size, 0, none⟩ = some (.int .i64 (a : Int)) := by rw [← hw1]; simp [go_sem]
  have z01 : w1.cell? ⟨w.heap.size, 1, none⟩ = some (.int .i64 (b : Int)) := by rw [← hw1]; simp [go_sem]
  have z02 : w1.cell? ⟨w.heap.size, 2, none⟩ = some (.slice (some ⟨g, o, none⟩) S.length cap) := by rw [← hw1]; simp [go_sem]
  have z10 : w1.cell? ⟨w.heap.size + 1, 0, none⟩ = some (.int .i64 (x0 : Int)) := by rw [← hw1]; simp [go_sem]
  have z11 : w1.cell? ⟨w.heap.size + 1, 1, none⟩ = some (.int .i64 (y0 : Int)) := by rw [← hw1]; simp [go_sem]
  have z12 : w1.cell? ⟨w.heap.size + 1, 2, none⟩ = some (.int .i64 XX) := by rw [← hw1]; simp [go_sem]
  have z13 : w1.cell? ⟨w.heap.size + 1, 3, none⟩ = some (.int .i64 YY) := by rw [← hw1]; simp [go_sem]
  have z20 : w1.cell? ⟨w.heap.size + 1 + 1, 0, none⟩ = some (.int .i64 0) := by rw [← hw1]; simp [go_sem]
  have z21 : w1.cell? ⟨w.heap.size + 1 + 1, 1, none⟩ = some (.int .i64 0) := by rw [← hw1]; simp [go_sem]
  have z22 : w1.cell? ⟨w.heap.size + 1 + 1, 2, none⟩ = some (.slice none 0 0) := by rw [← hw1]; simp [go_sem]
  have yf : ∀ j, w1.frozen? ⟨w.heap.size + 1 + 1, j, none⟩ = false := fun j => by rw [← hw1]; simp [go_sem]
  have A := check_any (a : Int) (b : Int) (some ⟨g, o, none⟩) S.length cap hn w1
  rw [show chk (a : Int) (b : Int) S.length = 0 by rw [hl]; exact chk_size hs] at A
  have HS : Hid (Size a b) := hs
  have HL : Hid (S.length = a * b) := hl
  have HU : Hid (UIs w g o S) := hu
  clear hs hl hu hn
  have B : ∀ w : World, Calls Try.prog 39 #[.agg #[.int .i64 (x0 : Int), .int .i64 (y0 : Int), .int .i64 XX, .int .i64 YY], .int .i64 (a : Int), .int .i64 (b : Int)] w fun e w' => e = .returned (.bool true) ∧ Q w w' := fun w => by
    have := isWithin_any (x0 : Int) (y0 : Int) XX YY (a : Int) (b : Int) w
    rw [wiB_true.2 ⟨x0, y0, c, d, rfl, rfl, hXX, hYY, hr⟩] at this
    exact this
  have HR : Hid (Rct a b x0 y0 c d) := hr
  have a2 := HS.out.a2
  have b2 := HS.out.b2
  have r2 := hr.c2
  have r4 := hr.d2
  have e1 : XX - (x0 : Int) = (c : Int) := by omega
  have e2 : YY - (y0 : Int) = (d : Int) := by omega
  clear hr hXX hYY
  go_enter Try.func21, Try.ntmps21
  go_wp2_with fail
  refine A.mono ?_
  rintro e w2 ⟨rfl, q2⟩
  replace z00 := q2.cell z00
  replace z01 := q2.cell z01
  replace z02 := q2.cell z02
  replace z10 := q2.cell z10
  replace z11 := q2.cell z11
  replace z12 := q2.cell z12
  replace z13 := q2.cell z13
  replace z20 := q2.cell z20
  replace z21 := q2.cell z21
  replace z22 := q2.cell z22
  have yg : ∀ j, w2.frozen? ⟨w.heap.size + 1 + 1, j, none⟩ = false := fun j => by rw [q2.2]; exact yf j
  clear hw1 A yf
  go_wp2_with fail
  refine (B _).mono ?_
  rintro e w3 ⟨rfl, q3⟩
  have t00 := q3.cell z00
  have t01 := q3.cell z01
  have t02 := q3.cell z02
  have t10 := q3.cell z10
  have t11 := q3.cell z11
  have t12 := q3.cell z12
  have t13 := q3.cell z13
  have t20 := q3.cell z20
  have t21 := q3.cell z21
  have t22 := q3.cell z22
  have yk : ∀ j, w3.frozen? ⟨w.heap.size + 1 + 1, j, none⟩ = false := fun j => by rw [q3.2]; exact yg j
  go_wp2_with fail
  refine (lay_any c d (HR.out.size HS.out) 40 #[.pointer (some ⟨w.heap.size, 0, none⟩), .pointer (some ⟨w.heap.size + 1, 0, none⟩)] (enters_of Try.func40 (by kernel_rfl) rfl) (fun x y => smp S a (x0 + x) (y0 + y)) w3 ?_).mono ?_
  · intro x y w' hx hy hq
    exact crop1_any HS.out HL.out (by have := HR.out.c2; omega) (by have := HR.out.d2; omega) (PlBox.next ⟨z00, z01, z02⟩ (q3.trans hq)) (HU.out.next (((Q1.out.trans q2).trans q3).trans hq)) ((q3.trans hq).cell z10) ((q3.trans hq).cell z11)
  rintro e w4 ⟨g3, rfl, O3⟩
  have q4 := O3.q
  replace z20 := q4.cell t20
  replace z21 := q4.cell t21
  replace z22 := q4.cell t22
  have yh : ∀ j, w4.frozen? ⟨w.heap.size + 1 + 1, j, none⟩ = false := fun j => by rw [q4.2]; exact yk j
  have hg : g3 ≠ w.heap.size + 1 + 1 := by
    have h1 := O3.new
    have h2 := q2.1.size
    have h3 := q3.1.size
    omega
  have HO : Hid (Own w w4 g3 (tab c d (fun x y => smp S a (x0 + x) (y0 + y)))) := O3.base ((Q1.out.trans q2).trans q3)
  clear O3 q4 yg yk t00 t01 t02 t10 t11 t12 t13 t20 t21 t22
  go_wp2_with fail
  refine bodyPost_ret (v := .tuple #[.agg #[.int .i64 ((c : Nat) : Int), .int .i64 ((d : Nat) : Int), .slice (some ⟨g3, 0, none⟩) (c * d) (c * d)], .int .i64 0]) (by simp [results, Try.results21, go_sem, z20, z21, z22]) rfl ⟨g3, rfl, ?_⟩
  exact ((HO.out.set (by omega) (fun e => hg e.symm)).set (by omega) (fun e => hg e.symm)).set (by omega) (fun e => hg e.symm)
set_option maxHeartbeats 1000000 in
set_option maxRecDepth 100000 in
theorem crop_out {a b : Nat} (hs : Size a b) {S : List Nat} (hl : S.length = a * b) (g o cap : Nat) (x0 y0 x1 y1 : Int) (hr : wiB x0 y0 x1 y1 a b = false) (w : World) :
    Calls Try.prog 21 #[.agg #[.int .i64 (a : Int), .int .i64 (b : Int), .slice (some ⟨g, o, none⟩) S.length cap], .agg #[.int .i64 x0, .int .i64 y0, .int .i64 x1, .int .i64 y1]] w (Fails w 52) := by
  have hb : ((0 : Int) != 0) = false := by decide
  have hn : S.length ≤ 9223372036854775807 := by have := hs.ab; omega
  obtain ⟨w1, hw1⟩ : ∃ w1, ((w.alloc (.cells #[.int .i64 (a : Int), .int .i64 (b : Int), .slice (some ⟨g, o, none⟩) S.length cap] 47)).alloc (.cells #[.int .i64 x0, .int .i64 y0, .int .i64 x1, .int .i64 y1] 26)).alloc (.cells #[.int .i64 0, .int .i64 0, .slice none 0 0] 47) = w1 := ⟨_, rfl⟩
  have Q1 : Hid (Q w w1) := by rw [← hw1]; exact ((((Q.refl w).cells _ _).cells _ _).cells _ _)
  have S1 : w1.heap.size = w.heap.size + 1 + 1 + 1 := by rw [← hw1]; simp
  have z00 : w1.cell? ⟨w.heap.size, 0, none⟩ = some (.int .i64 (a : Int)) := by rw [← hw1]; simp [go_sem]
  have z01 : w1.cell? ⟨w.heap.size, 1, none⟩ = some (.int .i64 (b : Int)) := by rw [← hw1]; simp [go_sem]
  have z02 : w1.cell? ⟨w.heap.size, 2, none⟩ = some (.slice (some ⟨g, o, none⟩) S.length cap) := by rw [← hw1]; simp [go_sem]
  have z10 : w1.cell? ⟨w.heap.size + 1, 0, none⟩ = some (.int .i64 x0) := by rw [← hw1]; simp [go_sem]
  have z11 : w1.cell? ⟨w.heap.size + 1, 1, none⟩ = some (.int .i64 y0) := by rw [← hw1]; simp [go_sem]
  have z12 : w1.cell? ⟨w.heap.size + 1, 2, none⟩ = some (.int .i64 x1) := by rw [← hw1]; simp [go_sem]
  have z13 : w1.cell? ⟨w.heap.size + 1, 3, none⟩ = some (.int .i64 y1) := by rw [← hw1]; simp [go_sem]
  have z20 : w1.cell? ⟨w.heap.size + 1 + 1, 0, none⟩ = some (.int .i64 0) := by rw [← hw1]; simp [go_sem]
  have z21 : w1.cell? ⟨w.heap.size + 1 + 1, 1, none⟩ = some (.int .i64 0) := by rw [← hw1]; simp [go_sem]
  have z22 : w1.cell? ⟨w.heap.size + 1 + 1, 2, none⟩ = some (.slice none 0 0) := by rw [← hw1]; simp [go_sem]
  have yf : ∀ j, w1.frozen? ⟨w.heap.size + 1 + 1, j, none⟩ = false := fun j => by rw [← hw1]; simp [go_sem]
  have A := check_any (a : Int) (b : Int) (some ⟨g, o, none⟩) S.length cap hn w1
  rw [show chk (a : Int) (b : Int) S.length = 0 by rw [hl]; exact chk_size hs] at A
  have B : ∀ w : World, Calls Try.prog 39 #[.agg #[.int .i64 x0, .int .i64 y0, .int .i64 x1, .int .i64 y1], .int .i64 (a : Int), .int .i64 (b : Int)] w fun e w' => e = .returned (.bool false) ∧ Q w w' := fun w => by
    have := isWithin_any x0 y0 x1 y1 (a : Int) (b : Int) w
    rw [hr] at this
    exact this
  clear hs hl hn hr
  go_enter Try.func21, Try.ntmps21
  go_wp2_with fail
  refine A.mono ?_
  rintro e w2 ⟨rfl, q2⟩
  replace z00 := q2.cell z00
  replace z01 := q2.cell z01
  replace z02 := q2.cell z02
  replace z10 := q2.cell z10
  replace z11 := q2.cell z11
  replace z12 := q2.cell z12
  replace z13 := q2.cell z13
  replace z20 := q2.cell z20
  replace z21 := q2.cell z21
  replace z22 := q2.cell z22
  have yg : ∀ j, w2.frozen? ⟨w.heap.size + 1 + 1, j, none⟩ = false := fun j => by rw [q2.2]; exact yf j
  clear hw1 A yf
  go_wp2_with fail
  refine (B _).mono ?_
  rintro e w3 ⟨rfl, q3⟩
  replace z00 := q3.cell z00
  replace z01 := q3.cell z01
  replace z02 := q3.cell z02
  replace z10 := q3.cell z10
  replace z11 := q3.cell z11
  replace z12 := q3.cell z12
  replace z13 := q3.cell z13
  replace z20 := q3.cell z20
  replace z21 := q3.cell z21
  replace z22 := q3.cell z22
  have yk : ∀ j, w3.frozen? ⟨w.heap.size + 1 + 1, j, none⟩ = false := fun j => by rw [q3.2]; exact yg j
  clear B yg
  go_wp2_with fail
  refine bodyPost_ret (v := .tuple #[noPl, .int .i64 52]) (by simp [results, Try.results21, go_sem, noPl, z20, z21, z22]) rfl ⟨rfl, ?_⟩
  exact ((((Q1.out.trans q2).trans q3).put (by omega)).put (by omega)).put (by omega)
set_option maxHeartbeats 1000000 in
set_option maxRecDepth 100000 in
theorem new_bad (W H : Int) (hr : sizeB W H = false) (s : Nat) (w : World) :
    Calls Try.prog 35 #[.int .i64 W, .int .i64 H, .int .u32 (s : Int)] w (Fails w 50) := by
  obtain ⟨w1, hw1⟩ : ∃ w1, (w.alloc (.cells #[.int .u32 (s : Int)] 27)).alloc (.cells #[.int .i64 0, .int .i64 0, .slice none 0 0] 47) = w1 := ⟨_, rfl⟩
  have Q1 : Hid (Q w w1) := by rw [← hw1]; exact (((Q.refl w).cells _ _).cells _ _)
  have S1 : w1.heap.size = w.heap.size + 1 + 1 := by rw [← hw1]; simp
  have z00 : w1.cell? ⟨w.heap.size, 0, none⟩ = some (.int .u32 (s : Int)) := by rw [← hw1]; simp [go_sem]
  have z10 : w1.cell? ⟨w.heap.size + 1, 0, none⟩ = some (.int .i64 0) := by rw [← hw1]; simp [go_sem]
  have z11 : w1.cell? ⟨w.heap.size + 1, 1, none⟩ = some (.int .i64 0) := by rw [← hw1]; simp [go_sem]
  have z12 : w1.cell? ⟨w.heap.size + 1, 2, none⟩ = some (.slice none 0 0) := by rw [← hw1]; simp [go_sem]
  have yf : ∀ j, w1.frozen? ⟨w.heap.size + 1, j, none⟩ = false := fun j => by rw [← hw1]; simp [go_sem]
  have B := isSize_any W H w1
  rw [hr] at B
  clear hr
  go_enter Try.func35, Try.ntmps35
  go_wp2_with fail
  refine B.mono ?_
  rintro e w3 ⟨rfl, rfl⟩
  clear hw1
  go_wp2_with fail
  refine bodyPost_ret (v := .tuple #[noPl, .int .i64 50]) (by simp [results, Try.results35, go_sem, noPl, z10, z11, z12]) rfl ⟨rfl, ?_⟩
  exact ((Q1.out.put (by omega)).put (by omega)).put (by omega)
set_option maxHeartbeats 1000000 in
set_option maxRecDepth 100000 in
theorem new_good {a b : Nat} (hs : Size a b) (s : Nat) (w : World) :
    Calls Try.prog 35 #[.int .i64 (a : Int), .int .i64 (b : Int), .int .u32 (s : Int)] w (Made w a b (tab a b fun _ _ => s)) := by
  obtain ⟨w1, hw1⟩ : ∃ w1, (w.alloc (.cells #[.int .u32 (s : Int)] 27)).alloc (.cells #[.int .i64 0, .int .i64 0, .slice none 0 0] 47) = w1 := ⟨_, rfl⟩
  have Q1 : Hid (Q w w1) := by rw [← hw1]; exact (((Q.refl w).cells _ _).cells _ _)
  have S1 : w1.heap.size = w.heap.size + 1 + 1 := by rw [← hw1]; simp
  have z00 : w1.cell? ⟨w.heap.size, 0, none⟩ = some (.int .u32 (s : Int)) := by rw [← hw1]; simp [go_sem]
  have z10 : w1.cell? ⟨w.heap.size + 1, 0, none⟩ = some (.int .i64 0) := by rw [← hw1]; simp [go_sem]
  have z11 : w1.cell? ⟨w.heap.size + 1, 1, none⟩ = some (.int .i64 0) := by rw [← hw1]; simp [go_sem]
  have z12 : w1.cell? ⟨w.heap.size + 1, 2, none⟩ = some (.slice none 0 0) := by rw [← hw1]; simp [go_sem]
  have yf : ∀ j, w1.frozen? ⟨w.heap.size + 1, j, none⟩ = false := fun j => by rw [← hw1]; simp [go_sem]
  have B := isSize_any (a : Int) (b : Int) w1
  rw [sizeB_true.2 hs.b] at B
  have HS : Hid (Size a b) := hs
  clear hs
  go_enter Try.func35, Try.ntmps35
  go_wp2_with fail
  refine B.mono ?_
  rintro e w3 ⟨rfl, rfl⟩
  clear hw1
  go_wp2_with fail
  refine (lay_any a b HS.out 56 #[.pointer (some ⟨w.heap.size, 0, none⟩)] (enters_of Try.func56 (by kernel_rfl) rfl) (fun _ _ => s) w3 ?_).mono ?_
  · intro x y w' hx hy hq
    exact new1_any (hq.cell z00)
  rintro e w4 ⟨g3, rfl, O3⟩
  have q3 := O3.q
  replace z10 := q3.cell z10
  replace z11 := q3.cell z11
  replace z12 := q3.cell z12
  have yh : ∀ j, w4.frozen? ⟨w.heap.size + 1, j, none⟩ = false := fun j => by rw [q3.2]; exact yf j
  have hg : g3 ≠ w.heap.size + 1 := by
    have h1 := O3.new
    omega
  have HO : Hid (Own w w4 g3 (tab a b fun _ _ => s)) := O3.base Q1.out
  clear O3 q3 yf
  go_wp2_with fail
  refine bodyPost_ret (v := .tuple #[.agg #[.int .i64 (a : Int), .int .i64 (b : Int), .slice (some ⟨g3, 0, none⟩) (a * b) (a * b)], .int .i64 0]) (by simp [results, Try.results35, go_sem, z10, z11, z12]) rfl ⟨g3, rfl, ?_⟩
  exact ((HO.out.set (by omega) (fun e => hg e.symm)).set (by omega) (fun e => hg e.symm)).set (by omega) (fun e => hg e.symm)
end Go.Proofs.Ytdempklpmggdoaa
/- New. -/
namespace Go.Proofs.Ytdempklpmggdoaa
open Go.RowKit
set_option linter.unusedVariables false
set_option linter.unusedSimpArgs false

def noPic : Value := .agg #[.int .i64 0, .slice none 0 0]
set_option maxHeartbeats 1000000 in
set_option maxRecDepth 100000 in
theorem new8_80 (sp n W H : Int) (s : Nat) (h : numB n = false) (w : World) :
    Calls Try.prog 15 #[.int .i64 sp, .int .i64 n, .int .i64 W, .int .i64 H, .int .u32 (s : Int)] w fun e w' => e = .returned (.tuple #[.agg #[.int .i64 0, .slice none 0 0], .int .i64 80]) ∧ Q w w' := by
  have A : ∀ w : World, Calls Try.prog 17 #[.int .i64 n] w fun e w' => e = .returned (.bool false) ∧ w' = w := fun w => h ▸ isnumber_any n w
  have qa : Hid (∀ c t, Q w (w.alloc (.cells c t))) := fun c t => (Q.refl w).cells c t
  clear h
  go_enter Try.func15, Try.ntmps15
  go_wp2_with fail
  refine (A _).mono ?_
  rintro e w1 ⟨rfl, rfl⟩
  go_wp2_with fail
  refine bodyPost_ret (v := .tuple #[.agg #[.int .i64 0, .slice none 0 0], .int .i64 80]) (by simp [results, Try.results15, go_sem]) rfl ⟨rfl, ?_⟩
  exact qa.out _ _
set_option maxHeartbeats 1000000 in
set_option maxRecDepth 100000 in
theorem new8_81 (sp n : Int) {a b : Nat} (hs : Size a b) (s : Nat) (h : numB n = true) (hsp : spcB sp n = false) (w : World) :
    Calls Try.prog 15 #[.int .i64 sp, .int .i64 n, .int .i64 (a : Int), .int .i64 (b : Int), .int .u32 (s : Int)] w fun e w' => e = .returned (.tuple #[.agg #[.int .i64 0, .slice none 0 0], .int .i64 81]) ∧ Q w w' := by
  have A : ∀ w : World, Calls Try.prog 17 #[.int .i64 n] w fun e w' => e = .returned (.bool true) ∧ w' = w := fun w => h ▸ isnumber_any n w
  have B : Hid (∀ w : World, Calls Try.prog 20 #[.int .i64 sp, .int .i64 n] w fun e w' => e = .returned (.bool false) ∧ w' = w) := fun w => hsp ▸ isspace8_any sp n w
  have HS : Hid (Size a b) := hs
  have qa : Hid (∀ c t, Q w (w.alloc (.cells c t))) := fun c t => (Q.refl w).cells c t
  clear h hsp hs
  go_enter Try.func15, Try.ntmps15
  go_wp2_with fail
  refine (A _).mono ?_
  rintro e w1 ⟨rfl, rfl⟩
  go_wp2_with fail
  refine (new_good HS.out s _).mono ?_
  rintro e w2 ⟨g, rfl, ho⟩
  have q2 := ho.q
  have HQ : Hid (Q w w2) := (qa.out _ _).trans q2
  have r0 : w2.cell? ⟨w.heap.size, 0, none⟩ = some (.int .i64 0) := q2.cell (by simp [go_sem])
  have r1 : w2.cell? ⟨w.heap.size, 1, none⟩ = some (.slice none 0 0) := q2.cell (by simp [go_sem])
  have rf : ∀ j, w2.frozen? ⟨w.heap.size, j, none⟩ = false := fun j => (q2.2 _).trans (by simp [go_sem])
  have r0' := fun c t => ((Q.refl w2).cells c t).cell r0
  have r1' := fun c t => ((Q.refl w2).cells c t).cell r1
  have rf' : ∀ c t j, (w2.alloc (.cells c t)).frozen? ⟨w.heap.size, j, none⟩ = false := fun c t j => (((Q.refl w2).cells c t).2 _).trans (rf j)
  clear ho q2
  go_wp2_with fail
  refine (B.out _).mono ?_
  rintro e w3 ⟨rfl, rfl⟩
  go_wp2_with fail
  refine bodyPost_ret (v := .tuple #[.agg #[.int .i64 0, .slice none 0 0], .int .i64 81]) (by simp [results, Try.results15, go_sem, r0', r1']) rfl ⟨rfl, ?_⟩
  exact ((HQ.out.cells _ _).set (Nat.le_refl _) _).set (Nat.le_refl _) _
def sameS (a b s : Nat) : List Nat := tab a b fun _ _ => s
theorem sameS_lt {a b s : Nat} (h : s < 4294967296) (i : Nat) : (sameS a b s).getD i 0 < 4294967296 := tab_lt (by decide) (fun _ _ => h) i
set_option maxHeartbeats 4000000 in
set_option maxRecDepth 100000 in
theorem new8_good (sp : Int) (n a b : Nat) (hs : Size a b) (s : Nat) (hsl : s < 4294967296) (n1 : 1 ≤ n) (n4 : n ≤ 4) (hsp : spcB sp n = true) (w : World) :
    Calls Try.prog 15 #[.int .i64 sp, .int .i64 (n : Int), .int .i64 (a : Int), .int .i64 (b : Int), .int .u32 (s : Int)] w fun e w' => ∃ g' cap' M, e = .returned (.tuple #[.agg #[.int .i64 sp, .slice (some ⟨g', 0, none⟩) n cap'], .int .i64 0]) ∧ M.map PL.S = List.replicate n (sameS a b s) ∧ Hid (Nw w.heap.size w' g' cap' a b M) ∧ Q w w' := by
  have h : numB n = true := by unfold numB; simp; omega
  have A : ∀ w : World, Calls Try.prog 17 #[.int .i64 (n : Int)] w fun e w' => e = .returned (.bool true) ∧ w' = w := fun w => h ▸ isnumber_any n w
  have B : Hid (∀ w : World, Calls Try.prog 20 #[.int .i64 sp, .int .i64 (n : Int)] w fun e w' => e = .returned (.bool true) ∧ w' = w) := fun w => hsp ▸ isspace8_any sp n w
  have HSZ : Hid (Size a b) := hs
  have qa : Hid (∀ c t, Q w (w.alloc (.cells c t))) := fun c t => (Q.refl w).cells c t
  have l1 := enters_of Try.func36 (by kernel_rfl) rfl
  clear h hsp hs
  go_enter Try.func15, Try.ntmps15
  go_wp2_with fail
  refine (A _).mono ?_
  rintro e w1 ⟨rfl, rfl⟩
  go_wp2_with fail
  refine (new_good HSZ.out s _).mono ?_
  rintro e w2 ⟨gq, rfl, ho⟩
  have q2 := ho.q
  have HQ2 : Hid (Q w w2) := (qa.out _ _).trans q2
  have hS : (sameS a b s).length = a * b := tab_length _ _ _
  have HX : Hid (Gd w2 (a * b) ⟨gq, 0, a * b, sameS a b s⟩) := ⟨hS, by show (sameS a b s).length ≤ a * b; omega, ho.cells, sameS_lt hsl⟩
  have r0 : w2.cell? ⟨w.heap.size, 0, none⟩ = some (.int .i64 0) := q2.cell (by simp [go_sem])
  have r1 : w2.cell? ⟨w.heap.size, 1, none⟩ = some (.slice none 0 0) := q2.cell (by simp [go_sem])
  have rf : ∀ j, w2.frozen? ⟨w.heap.size, j, none⟩ = false := fun j => (q2.2 _).trans (by simp [go_sem])
  obtain ⟨NN, hNN⟩ : ∃ NN, a * b = NN := ⟨_, rfl⟩
  have HNN : Hid (a * b = NN ∧ (sameS a b s).length = NN) := ⟨hNN, by rw [hS, hNN]⟩
  rw [hNN]
  clear ho q2 hS hNN
  go_wp2_with fail
  refine (B.out _).mono ?_
  rintro e w3 ⟨rfl, rfl⟩
  go_wp2_with fail
  have q23 : Q w2 ((w2.alloc (Obj.cells #[Value.int IntKind.i64 ↑a, Value.int IntKind.i64 ↑b, Value.slice (some { block := gq, off := 0 }) NN NN] 47)).alloc (Obj.cells #[Value.int IntKind.i64 sp, Value.slice none 0 0] 24)) := ((Q.refl w2).cells _ _).cells _ _
  have hz3 : ((w2.alloc (Obj.cells #[Value.int IntKind.i64 ↑a, Value.int IntKind.i64 ↑b, Value.slice (some { block := gq, off := 0 }) NN NN] 47)).alloc (Obj.cells #[Value.int IntKind.i64 sp, Value.slice none 0 0] 24)).heap.size = w2.heap.size + 2 := by simp
  have k0 : ((w2.alloc (Obj.cells #[Value.int IntKind.i64 ↑a, Value.int IntKind.i64 ↑b, Value.slice (some { block := gq, off := 0 }) NN NN] 47)).alloc (Obj.cells #[Value.int IntKind.i64 sp, Value.slice none 0 0] 24)).cell? ⟨w2.heap.size, 0, none⟩ = some (.int .i64 (a : Int)) := by simp [go_sem]
  have k1 : ((w2.alloc (Obj.cells #[Value.int IntKind.i64 ↑a, Value.int IntKind.i64 ↑b, Value.slice (some { block := gq, off := 0 }) NN NN] 47)).alloc (Obj.cells #[Value.int IntKind.i64 sp, Value.slice none 0 0] 24)).cell? ⟨w2.heap.size, 1, none⟩ = some (.int .i64 (b : Int)) := by simp [go_sem]
  have k2 : ((w2.alloc (Obj.cells #[Value.int IntKind.i64 ↑a, Value.int IntKind.i64 ↑b, Value.slice (some { block := gq, off := 0 }) NN NN] 47)).alloc (Obj.cells #[Value.int IntKind.i64 sp, Value.slice none 0 0] 24)).cell? ⟨w2.heap.size, 2, none⟩ = some (.slice (some ⟨gq, 0, none⟩) NN NN) := by simp [go_sem]
  have HB : Hid (Bld (w2.heap.size + 2) ((w2.alloc (Obj.cells #[Value.int IntKind.i64 ↑a, Value.int IntKind.i64 ↑b, Value.slice (some { block := gq, off := 0 }) NN NN] 47)).alloc (Obj.cells #[Value.int IntKind.i64 sp, Value.slice none 0 0] 24)) (w2.heap.size + 1) sp (.slice none 0 0) a b []) := Bld.start (by simp [go_sem]) (by simp [go_sem]) (fun j => by simp [go_sem]) (by omega) a b
  generalize ((w2.alloc (Obj.cells #[Value.int IntKind.i64 ↑a, Value.int IntKind.i64 ↑b, Value.slice (some { block := gq, off := 0 }) NN NN] 47)).alloc (Obj.cells #[Value.int IntKind.i64 sp, Value.slice none 0 0] 24)) = w4 at *
  have HQ4 : Hid (Q w w4) := HQ2.out.trans q23
  have hlt2 : w.heap.size < w2.heap.size := cell_in r0
  replace r0 := q23.cell r0
  replace r1 := q23.cell r1
  replace rf : ∀ j, w4.frozen? ⟨w.heap.size, j, none⟩ = false := fun j => (q23.2 _).trans (rf j)
  go_loopg [40] n (fun m s40 wx => ∃ (i : Nat) (v : Value) (M : List PL), s40 = .int .i64 i ∧ i + m = n ∧ Hid (M.map PL.S = List.replicate i (sameS a b s)) ∧ Hid (Bld (w2.heap.size + 2) wx (w2.heap.size + 1) sp v a b M) ∧ Hid (Q w wx) ∧ Hid (Q w2 wx) ∧ Hid (Fr w4 wx (fun b => b ≠ w2.heap.size + 1 ∧ b < w2.heap.size + 2)))
  case atStart => exact ⟨0, _, [], rfl, by omega, rfl, HB, HQ4, q23, Fr.refl _ _⟩
  case round =>
    obtain ⟨i, v, M, rfl, him, HS, HB, HQ, HQ2r, HF⟩ := hrel
    have hml : M.length = i := by have := congrArg List.length HS.out; rw [List.length_map, List.length_replicate] at this; exact this
    by_cases hi : i < n
    · have hi0 : (0 : Int) ≤ (i : Int) := by omega
      have hi1 : (i : Int) < (n : Int) := by omega
      have k0r := HF.out.cell k0 ⟨by show w2.heap.size ≠ _; omega, by show w2.heap.size < _; omega⟩
      have k1r := HF.out.cell k1 ⟨by show w2.heap.size ≠ _; omega, by show w2.heap.size < _; omega⟩
      have k2r := HF.out.cell k2 ⟨by show w2.heap.size ≠ _; omega, by show w2.heap.size < _; omega⟩
      have t1 := HB.out.c1
      have f1 := qw_cell t1
      have f2 := qw_cell k0r
      have f3 := qw_cell k1r
      have f4 := qw_cell k2r
      have n0 := qw_some wr
      go_wp2_with fail
      refine wp_region_mk [0, 1, 2] [[3, 4, 5, 6, 7]] 5 _ (by kernel_rfl) (by kernel_rfl) rfl (by kernel_rfl) ?_
      simp only [List.filterMap_cons, List.filterMap_nil, List.getElem?_cons_zero, List.getElem?_cons_succ]
      repeat (first | go_big_quiet_step (fail) | quiet_step (fail))
      refine wpQuiet_nil ?_
      intro x4 hx4
      clear f1 f2 f3 f4 n0 k0r k1r k2r
      refine tree_call 3 rfl rfl (run_fn 36 #[.tmp 44] _ rfl l1 (vs := #[plV a b ⟨gq, 0, a * b, sameS a b s⟩]) (by simp [Act.eval, plV, PL.v, HNN.out.1, HNN.out.2])) (copiedp_u x4 a b ⟨gq, 0, a * b, sameS a b s⟩ (HX.out.next (HQ2r.out.trans hx4)) HSZ.out) ?_
      rintro u w5 ⟨y, rfl, hy, hm, hq5⟩
      have hq35 : Q wr w5 := hx4.trans hq5
      have HY : Hid (y.S = sameS a b s) := hy
      clear hy
      refine ⟨hq35, ?_⟩
      have HB5 := HB.out.next (hq35.cells #[.int .i64 (a : Int), .int .i64 (b : Int), .slice (some ⟨y.g, y.o, none⟩) y.S.length y.cap] 47)
      have hz4 : w2.heap.size + 2 ≤ wr.heap.size := by have := HF.out.size; omega
      have hlow := hm.out.low
      have hs34 := hx4.1.size
      obtain ⟨g7, cap7, w7, hr7, ct7, cf7, HB7, HQ7, HF7⟩ := HB5.app (HQ.out.trans (hq35.cells _ _)) (by have := HQ2.out.1.size; omega) (by have := hq35.1.size; simp; omega) (y := y) ((hm.out.next ((Q.refl w5).cells _ _)).mono (by omega)) (fun e => by have := (own_lt HB.out.row.own e).2; omega) (fun z hz' e => by have := (HB.out.row.it z hz').1.high; omega) (by omega) (ad := ⟨w5.heap.size, 0, none⟩) (c := 1) (one_pl a b y)
      refine tree_run 4 rfl rfl (v := .slice (some ⟨w5.heap.size, 0, none⟩) 1 1) (x' := w5.alloc (.cells #[.int .i64 (a : Int), .int .i64 (b : Int), .slice (some ⟨y.g, y.o, none⟩) y.S.length y.cap] 47)) (by simp [execOp, go_sem]) (hq35.cells _ _) ?_
      refine tree_runF 5 rfl rfl rfl (x' := w7) (run_appop rfl (v := v) (v' := .slice (some ⟨w5.heap.size, 0, none⟩) 1 1) (by simp [Act.eval, Act.put]) (by simp [Act.eval, Act.put]) hr7) ?_
      refine tree_runF 6 rfl rfl rfl (v := .pointer (some ⟨w2.heap.size + 1, 1, none⟩)) (x' := w7) (by simp [execOp, go_sem]) ?_
      refine tree_skipF 7 rfl rfl rfl (x' := w7.setCell ⟨w2.heap.size + 1, 1, none⟩ (.slice (some ⟨g7, 0, none⟩) (M.length + 1) cap7)) (by simp [execOp, go_sem, ct7, cf7]) ?_
      refine tree_nil ?_
      have HM : Hid ((M ++ [y]).map PL.S = List.replicate (i + 1) (sameS a b s)) := by
        show _ = _
        rw [List.map_append, HS.out, List.replicate_succ', List.map_cons, List.map_nil, HY.out]
      have HF8 : Hid (Fr w4 (w7.setCell ⟨w2.heap.size + 1, 1, none⟩ (.slice (some ⟨g7, 0, none⟩) (M.length + 1) cap7)) (fun b => b ≠ w2.heap.size + 1 ∧ b < w2.heap.size + 2)) := (HF.out.trans ((hq35.cells _ _).fr _)).trans (HF7.out.mono (fun z hz' _ => ⟨hz'.1, fun e => by have := (own_lt HB.out.row.own e).1; omega⟩))
      have HQ28 : Hid (Q w2 (w7.setCell ⟨w2.heap.size + 1, 1, none⟩ (.slice (some ⟨g7, 0, none⟩) (M.length + 1) cap7))) := (HF7.out.mono (R' := fun b => b < w2.heap.size) (fun z hz' _ => ⟨by omega, fun e => by have := (own_lt HB.out.row.own e).1; omega⟩)).q (HQ2r.out.trans (hq35.cells _ _)) (fun b hb => hb)
      generalize w7.setCell ⟨w2.heap.size + 1, 1, none⟩ (.slice (some ⟨g7, 0, none⟩) (M.length + 1) cap7) = w8 at *
      clear hr7 ct7 cf7 HB5 hm hq5 hq35 hx4 t1
      go_wp2_with fail
      go_roundg (n - (i + 1))
      case measure => go_light; omega
      case rel => go_light; exact ⟨i + 1, _, _, by go_num, by omega, HM, HB7, HQ7, HQ28, HF8⟩
    · have hie : i = n := by omega
      have HM : Hid (M.map PL.S = List.replicate n (sameS a b s)) := by rw [hie] at HS; exact HS
      have t0 := HB.out.c0
      have t1 := HB.out.c1
      have r0r := HF.out.cell r0 ⟨by show w.heap.size ≠ _; omega, by show w.heap.size < _; omega⟩
      have r1r := HF.out.cell r1 ⟨by show w.heap.size ≠ _; omega, by show w.heap.size < _; omega⟩
      have rfr : ∀ j, wr.frozen? ⟨w.heap.size, j, none⟩ = false := fun j => (HF.out.frz _).trans (rf j)
      obtain ⟨hvo, ⟨hv1, hv2⟩ | ⟨gv, capv, cur, hv1, hv2⟩⟩ := HB.out.row.own
      · omega
      · subst hv1
        have HW : Hid (Nw (w2.heap.size + 2) wr gv capv a b M) := HB.out.row.nw HSZ.out (by omega) (by omega)
        rw [hml, hie] at t1
        clear hv2 hvo
        go_wp2_with fail
        have F9 : Fr wr ((wr.setCell ⟨w.heap.size, 0, none⟩ (.int .i64 sp)).setCell ⟨w.heap.size, 1, none⟩ (.slice (some ⟨gv, 0, none⟩) n capv)) (fun b => b ≠ w.heap.size) := ((Fr.refl wr _).set (fun h => h rfl) _).set (fun h => h rfl) _
        refine bodyPost_ret (v := .tuple #[.agg #[.int .i64 sp, .slice (some ⟨gv, 0, none⟩) n capv], .int .i64 0]) (by simp [results, Try.results15, go_sem, r0r, r1r]) rfl ⟨gv, capv, M, rfl, HM.out, (HW.out.keep F9 (by have := HW.out.low; omega) (fun x hx => by have := (HW.out.it x hx).1.low; omega)).mono (by omega), (HQ.out.set (Nat.le_refl _) _).set (Nat.le_refl _) _⟩
end Go.Proofs.Ytdempklpmggdoaa
/- Pictures that are the same. -/
namespace Go.Proofs.Ytdempklpmggdoaa
open Go.RowKit
set_option linter.unusedVariables false
set_option linter.unusedSimpArgs false

set_option maxHeartbeats 4000000 in
set_option maxRecDepth 100000 in
theorem words_yes (v v' : Value) (xs : List Nat) (w : World) (h : USl w v xs) (h' : USl w v' xs) (hn : xs.length ≤ 9223372036854775807) :
    Calls Try.prog 58 #[v, v'] w fun e w' => e = .returned (.bool true) ∧ Q w w' := by
  obtain ⟨a, cap, ev⟩ := h.form
  obtain ⟨a', cap', ev'⟩ := h'.form
  subst ev ev'
  have HS : Hid (USl w (.slice a xs.length cap) xs) := h
  have HT : Hid (USl w (.slice a' xs.length cap') xs) := h'
  obtain ⟨n, en⟩ : ∃ n, xs.length = n := ⟨_, rfl⟩
  have HN : Hid (xs.length = n) := en
  rw [en] at HS HT hn ⊢
  have hnn : ((n : Int) == (n : Int)) = true := by simp
  clear h h' en
  go_enter Try.func58, Try.ntmps58
  go_wp2_with fail
  go_loopg [5] n (fun m s5 wx => ∃ i : Nat, s5 = .int .i64 i ∧ i + m = n ∧ Hid (Q w wx))
  case atStart => exact ⟨0, rfl, by omega, Q.refl w⟩
  case round =>
    obtain ⟨i, rfl, him, HQ⟩ := hrel
    by_cases hi : i < n
    · have hi0 : (0 : Int) ≤ (i : Int) := by omega
      have hi1 : (i : Int) < (n : Int) := by omega
      obtain ⟨g, o, c, e1, e2, e3⟩ := HS.out.some (by rw [HN.out]; omega)
      obtain ⟨g', o', c', f1, f2, f3⟩ := HT.out.some (by rw [HN.out]; omega)
      injection e1 with e1 hh1 hh2
      clear hh1 hh2
      injection f1 with f1 hh1 hh2
      clear hh1 hh2
      subst e1 f1
      have c1 := HQ.out.cell (e3 i (by rw [HN.out]; exact hi))
      have c2 := HQ.out.cell (f3 i (by rw [HN.out]; exact hi))
      obtain ⟨z, hz⟩ : ∃ z, xs.getD i 0 = z := ⟨_, rfl⟩
      rw [hz] at c1 c2
      have hzz : ((z : Int) == (z : Int)) = true := by simp
      have n0 := qw_some wr
      have d1 := qw_cell c1
      have d2 := qw_cell c2
      clear hz e2 e3 f2 f3
      go_wp2_with fail
      refine wp_region_quiet_Q (by kernel_rfl) (by kernel_rfl) ?_
      repeat (first | go_big_quiet_step (fail) | quiet_step (fail))
      refine wpQuiet_nil ?_
      intro w4 hw'
      have hq4 := qw_out hw'
      have HQ4 : Hid (Q w w4) := HQ.out.trans hq4
      clear hw' n0 d1 d2
      go_wp2_with fail
      go_roundg (n - (i + 1))
      case measure => go_light; omega
      case rel => go_light; exact ⟨i + 1, by go_num, by omega, HQ4⟩
    · have hie : i = n := by omega
      go_wp2_with fail
      go_ret
      exact ⟨rfl, HQ.out⟩
set_option maxHeartbeats 2000000 in
set_option maxRecDepth 100000 in
theorem planes_yes (a b : Int) (p q : Option Addr) (n c d : Nat) (S : List Nat) (w : World) (h : USl w (.slice p n c) S) (h' : USl w (.slice q n d) S) (hn : S.length ≤ 9223372036854775807) :
    Calls Try.prog 37 #[.agg #[.int .i64 a, .int .i64 b, .slice p n c], .agg #[.int .i64 a, .int .i64 b, .slice q n d]] w fun e w' => e = .returned (.bool true) ∧ Q w w' := by
  have H1 : Hid (USl w (.slice p n c) S) := h
  have H2 : Hid (USl w (.slice q n d) S) := h'
  clear h h'
  have qa : Hid (∀ a b c d, Q w ((w.alloc (.cells a b)).alloc (.cells c d))) := fun a b c d => ((Q.refl w).cells _ _).cells _ _
  go_enter Try.func37, Try.ntmps37
  go_wp2_with fail
  refine (words_yes _ _ S _ (H1.out.next (qa.out _ _ _ _)) (H2.out.next (qa.out _ _ _ _)) hn).mono ?_
  rintro e w1 ⟨rfl, q1⟩
  go_wp2_with fail
  go_ret
  exact ⟨rfl, (qa.out _ _ _ _).trans q1⟩
def PD.same (x y : PD) : Prop := x.W = y.W ∧ x.H = y.H ∧ x.S = y.S
set_option maxHeartbeats 4000000 in
set_option maxRecDepth 100000 in
theorem pics_yes (sp : Int) (v v' : Value) (D D' : List PD) (w : World) (h : DSl w v D) (h' : DSl w v' D') (hl : D.length = D'.length) (hs : ∀ (i : Nat) (x y : PD), D[i]? = some x → D'[i]? = some y → x.same y) (hb : ∀ x ∈ D, x.S.length ≤ 9223372036854775807) (hD : D.length ≤ 9223372036854775807) :
    Calls Try.prog 16 #[.agg #[.int .i64 sp, v], .agg #[.int .i64 sp, v']] w fun e w' => e = .returned (.bool true) ∧ Q w w' := by
  obtain ⟨ad, cap, rfl⟩ := h.form
  obtain ⟨ad', cap', rfl⟩ := h'.form
  have H1 : Hid (DSl w (.slice ad D.length cap) D) := h
  have H2 : Hid (DSl w (.slice ad' D'.length cap') D') := h'
  have HS : Hid (∀ (i : Nat) (x y : PD), D[i]? = some x → D'[i]? = some y → x.same y) := hs
  have HB : Hid (∀ x ∈ D, x.S.length ≤ 9223372036854775807) := hb
  obtain ⟨n, hn⟩ : ∃ n, D.length = n := ⟨_, rfl⟩
  have hn' : D'.length = n := by omega
  have HN : Hid (D.length = n ∧ D'.length = n) := ⟨hn, hn'⟩
  rw [hn] at H1 hD ⊢
  rw [hn'] at H2 ⊢
  clear h h' hs hb hn hn' hl
  go_enter Try.func16, Try.ntmps16
  go_wp2_with fail
  have HQ1 : Hid (Q w ((w.alloc (Obj.cells #[Value.int IntKind.i64 sp, Value.slice ad n cap] 24)).alloc (Obj.cells #[Value.int IntKind.i64 sp, Value.slice ad' n cap'] 24))) := ((Q.refl w).cells _ _).cells _ _
  have b0 : ((w.alloc (Obj.cells #[Value.int IntKind.i64 sp, Value.slice ad n cap] 24)).alloc (Obj.cells #[Value.int IntKind.i64 sp, Value.slice ad' n cap'] 24)).cell? ⟨w.heap.size, 1, none⟩ = some (.slice ad n cap) := by simp [go_sem]
  have b1 : ((w.alloc (Obj.cells #[Value.int IntKind.i64 sp, Value.slice ad n cap] 24)).alloc (Obj.cells #[Value.int IntKind.i64 sp, Value.slice ad' n cap'] 24)).cell? ⟨w.heap.size + 1, 1, none⟩ = some (.slice ad' n cap') := by simp [go_sem]
  generalize ((w.alloc (Obj.cells #[Value.int IntKind.i64 sp, Value.slice ad n cap] 24)).alloc (Obj.cells #[Value.int IntKind.i64 sp, Value.slice ad' n cap'] 24)) = w1 at *
  go_loopg [5] n (fun m s5 wx => ∃ i : Nat, s5 = .int .i64 i ∧ i + m = n ∧ Hid (Q w1 wx))
  case atStart => exact ⟨0, rfl, by omega, Q.refl _⟩
  case round =>
    obtain ⟨i, rfl, him, HQ⟩ := hrel
    have p0 := HQ.out.cell b0
    have p1 := HQ.out.cell b1
    by_cases hi : i < n
    · have hi0 : (0 : Int) ≤ (i : Int) := by omega
      have hi1 : (i : Int) < (n : Int) := by omega
      obtain ⟨g, o, c, e1, e2, e3⟩ := H1.out.some (by rw [HN.out.1]; omega)
      obtain ⟨g', o', c', e1', e2', e3'⟩ := H2.out.some (by rw [HN.out.2]; omega)
      injection e1 with e1 e4 e5
      injection e1' with e1' e4' e5'
      subst e1 e5 e1' e5'
      clear e4 e4' e2 e2'
      obtain ⟨x, hx⟩ : ∃ x, D[i]? = some x := ⟨_, List.getElem?_eq_getElem (by rw [HN.out.1]; exact hi)⟩
      obtain ⟨y, hy⟩ : ∃ y, D'[i]? = some y := ⟨_, List.getElem?_eq_getElem (by rw [HN.out.2]; exact hi)⟩
      obtain ⟨s1, s2, s3⟩ := HS.out i x y hx hy
      obtain ⟨c0, c1, c2, cu⟩ := (e3.next (HQ1.out.trans HQ.out)) i x hx
      obtain ⟨d0, d1, d2, du⟩ := (e3'.next (HQ1.out.trans HQ.out)) i y hy
      unfold PD.sv at cu du
      rw [← s1] at d0
      rw [← s2] at d1
      rw [← s3] at d2 du
      have hb := HB.out x (List.mem_of_getElem? hx)
      have HO : Hid (∀ z : World, Q wr z → Calls Try.prog 37 #[.agg #[.int .i64 x.W, .int .i64 x.H, .slice x.ad x.S.length x.cap], .agg #[.int .i64 x.W, .int .i64 x.H, .slice y.ad x.S.length y.cap]] z fun e w' => e = .returned (.bool true) ∧ Q z w') := fun z hz => planes_yes x.W x.H x.ad y.ad x.S.length x.cap y.cap x.S z (cu.next hz) (du.next hz) hb
      have n0 := qw_some wr
      have f0 := qw_cell c0
      have f1 := qw_cell c1
      have f2 := qw_cell c2
      have f3 := qw_cell d0
      have f4 := qw_cell d1
      have f5 := qw_cell d2
      have f6 := qw_cell p0
      have f7 := qw_cell p1
      clear hx hy s1 s2 s3 e3 e3' cu du c0 c1 c2 d0 d1 d2
      go_wp2_with fail
      refine wp_region_quiet_Q (by kernel_rfl) (by kernel_rfl) ?_
      repeat (first | go_big_quiet_step (first | (go_at_call 37; exact calls_qw (HO.out _ (QW.q _)))) | quiet_step (first | (go_at_call 37; exact calls_qw (HO.out _ (QW.q _)))))
      refine wpQuiet_nil ?_
      intro w4 hw'
      have HQ4 : Hid (Q w1 w4) := HQ.out.trans (qw_out hw')
      clear hw' f0 f1 f2 f3 f4 f5 f6 f7 n0
      go_wp2_with fail
      go_roundg (n - (i + 1))
      case measure => go_light; omega
      case rel => go_light; exact ⟨i + 1, by go_num, by omega, HQ4⟩
    · go_wp2_with fail
      go_ret
      exact ⟨rfl, HQ1.out.trans HQ.out⟩
end Go.Proofs.Ytdempklpmggdoaa

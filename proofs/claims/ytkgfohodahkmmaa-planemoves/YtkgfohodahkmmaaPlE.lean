/- A plane that is made of where its samples come from. -/
import Derived.Test.YtkgfohodahkmmaaPlD
import Derived.Laws.EntriesVeiled
namespace Go.Proofs.Ytkgfohodahkmmaa
open Go.RowKit
set_option linter.unusedVariables false
set_option linter.unusedSimpArgs false

theorem Own.set {w wr : World} {b : Nat} {S : List Nat} (h : Own w wr b S) {c j : Nat} (hc : w.heap.size ≤ c) (hb : c ≠ b) {v : Value} : Own w (wr.setCell ⟨c, j, none⟩ v) b S := by
  refine ⟨h.q.set hc v, h.new, fun i hi => ?_, fun i => ?_⟩
  · rw [World.cell?_setCell_other _ _ _ _ (fun e => hb (by injection e))]; exact h.cells i hi
  · rw [World.frozen?_setCell]; exact h.free i
set_option maxHeartbeats 4000000 in
set_option maxRecDepth 100000 in
theorem lay_any (a b : Nat) (hs : Size a b) (f : Nat) (cap : Array Value) (E : ∀ (args : Array Value) (w : World), (callFunc f args).run Try.prog w = .ok (.enter f args) w) (G : Nat → Nat → Nat) (w : World)
    (hf : ∀ (x y : Nat) (w' : World), x < a → y < b → Q w w' → Calls Try.prog f (#[.int .i64 (x : Int), .int .i64 (y : Int)] ++ cap) w' fun e w'' => e = .returned (.int .u32 (G x y : Nat)) ∧ Q w' w'') :
    Calls Try.prog 44 #[.agg #[.int .i64 (a : Int), .int .i64 (b : Int), .func (.func f) #[] cap]] w fun e w' => ∃ g, e = .returned (.agg #[.int .i64 (a : Int), .int .i64 (b : Int), .slice (some ⟨g, 0, none⟩) (a * b) (a * b)]) ∧ Own w w' g (tab a b G) := by
  obtain ⟨n, hn⟩ : ∃ n, a * b = n := ⟨_, rfl⟩
  have HN : Hid (a * b = n) := hn
  have n2 : n ≤ 65536 := by rw [← hn]; exact hs.ab
  obtain ⟨M, hmk, hfill⟩ := make_u32 n (by omega)
  have HF : Hid (∀ (x y : Nat) (w' : World), x < a → y < b → Q w w' → Calls Try.prog f (#[.int .i64 (x : Int), .int .i64 (y : Int)] ++ cap) w' fun e w'' => e = .returned (.int .u32 (G x y : Nat)) ∧ Q w' w'') := hf
  have HFl : Hid (∀ w : World, Fill w (w.alloc (.cells M 22)) w.heap.size n (fun _ => 0) n) := hfill
  obtain ⟨a1, a2, b1, b2, ab⟩ := hs
  have hcast : (a : Int) * (b : Int) = (n : Int) := by rw [← Int.natCast_mul, hn]
  rw [hn]
  obtain ⟨w1, hw1⟩ : ∃ w1, (w.alloc (.cells #[.int .i64 (a : Int), .int .i64 (b : Int), .func (.func f) #[] cap] 85)).alloc (.cells #[.int .i64 0, .int .i64 0, .slice none 0 0] 25) = w1 := ⟨_, rfl⟩
  have Q1 : Hid (Q w w1) := by rw [← hw1]; exact ((Q.refl w).cells _ _).cells _ _
  have S1 : w1.heap.size = w.heap.size + 1 + 1 := by rw [← hw1]; simp
  have z1 : w1.cell? ⟨w.heap.size, 0, none⟩ = some (.int .i64 (a : Int)) := by rw [← hw1]; simp [go_sem]
  have z2 : w1.cell? ⟨w.heap.size, 1, none⟩ = some (.int .i64 (b : Int)) := by rw [← hw1]; simp [go_sem]
  have z3 : w1.cell? ⟨w.heap.size, 2, none⟩ = some (.func (.func f) #[] cap) := by rw [← hw1]; simp [go_sem]
  have y1 : w1.cell? ⟨w.heap.size + 1, 0, none⟩ = some (.int .i64 0) := by rw [← hw1]; simp [go_sem]
  have y2 : w1.cell? ⟨w.heap.size + 1, 1, none⟩ = some (.int .i64 0) := by rw [← hw1]; simp [go_sem]
  have y3 : w1.cell? ⟨w.heap.size + 1, 2, none⟩ = some (.slice none 0 0) := by rw [← hw1]; simp [go_sem]
  have yf : ∀ j, w1.frozen? ⟨w.heap.size + 1, j, none⟩ = false := fun j => by rw [← hw1]; simp [go_sem]
  clear hf hfill ab hn
  go_enter Try.func44, Try.ntmps44
  go_wp2_with fail
  clear hw1
  have F0 : Hid (Fill w1 (w1.alloc (.cells M 22)) w1.heap.size n (fun i => G (i % a) (i / a)) 0) := by
    obtain ⟨p1, p2, p3, p4, p5⟩ := HFl.out w1
    exact ⟨p1, p2, fun i hi => absurd hi (Nat.not_lt_zero _), p4, p5⟩
  generalize w1.alloc _ = w2 at F0 ⊢
  rw [S1] at F0
  obtain ⟨g, hg⟩ : ∃ g, w.heap.size + 1 + 1 = g := ⟨_, rfl⟩
  rw [hg] at F0 ⊢
  go_loopg [15] b (fun m s15 wr => ∃ y : Nat, s15 = .int .i64 y ∧ y + m = b ∧ Hid (Fill w1 wr g n (fun i => G (i % a) (i / a)) (y * a)))
  case atStart => exact ⟨0, rfl, by omega, by rw [Nat.zero_mul]; exact F0⟩
  case round =>
    obtain ⟨y, rfl, hm, FY⟩ := hrel
    by_cases hyb : y < b
    · have c1 := FY.out.q.cell z1
      have hy0 : (0 : Int) ≤ (y : Int) := by omega
      have hy1 : (y : Int) < (b : Int) := by omega
      obtain ⟨ya, hya⟩ : ∃ ya, y * a = ya := ⟨_, rfl⟩
      have hya2 : ya + a ≤ n := by rw [← hya, ← HN.out, Nat.mul_comm a b, ← Nat.succ_mul]; exact Nat.mul_le_mul_right _ (by omega)
      have hya3 : ¬ n = ya := by omega
      have hya4 : ya ≤ n := by omega
      have hyc : (y : Int) * (a : Int) = (ya : Int) := by rw [← Int.natCast_mul, hya]
      have HY : Hid (y * a = ya) := hya
      rw [hya] at FY
      clear hya
      go_wp2_with fail
      go_loopg [26] a (fun m s26 wx => ∃ x : Nat, s26 = .int .i64 x ∧ x + m = a ∧ Hid (Fill w1 wx g n (fun i => G (i % a) (i / a)) (ya + x)))
      case atStart => exact ⟨0, rfl, by omega, FY⟩
      case round =>
        obtain ⟨x, rfl, hmx, FX⟩ := hrel
        by_cases hxa : x < a
        · have c3 := FX.out.q.cell z3
          obtain ⟨u, hu⟩ := FX.out.room (ya + x) (by omega)
          have fz := FX.out.free (ya + x)
          have hx0 : (0 : Int) ≤ (x : Int) := by omega
          have hx1 : (x : Int) < ((n - ya : Nat) : Int) := by omega
          have hx2 : (x : Int) < (a : Int) := by omega
          have C := HF.out x y wr hxa hyb (Q1.out.trans FX.out.q)
          have HG : Hid (G x y = G ((ya + x) % a) ((ya + x) / a)) := by
            show G x y = _
            rw [← HY.out, place_mod y hxa, place_div y hxa]
          go_wp2_with fail
          refine C.mono ?_
          rintro e wx ⟨rfl, qx⟩
          replace hu := qx.cell hu
          have fz' : wx.frozen? ⟨g, ya + x, none⟩ = false := by rw [qx.2]; exact fz
          have FX2 : Hid (Fill w1 (wx.setCell ⟨g, ya + x, none⟩ (.int .u32 (G x y : Nat))) g n (fun i => G (i % a) (i / a)) (ya + x + 1)) := (FX.out.next qx).step (by omega) HG.out
          generalize G x y = V at FX2 ⊢
          clear C HG FX fz
          go_wp2_with fail
          go_roundg (a - (x + 1))
          case measure => go_light; omega
          case rel => go_light; exact ⟨x + 1, by go_num, by omega, FX2⟩
        · have hxe : x = a := by omega
          go_wp2_with fail
          go_roundg (b - (y + 1))
          case measure => go_light; omega
          case rel =>
            go_light
            refine ⟨y + 1, by go_num, by omega, ?_⟩
            rw [Nat.succ_mul, HY.out]
            rw [hxe] at FX
            exact FX
    · have hye : y = b := by omega
      have FE : Hid (Own w wr g (tab a b G)) := by
        have f := FY.out
        rw [hye, Nat.mul_comm b a, HN.out] at f
        obtain ⟨h1, h2, h3, h4⟩ := Fill.own (S := tab a b G) f (by rw [tab_length]; exact HN.out) (fun i hi => by rw [← HN.out] at hi; exact tab_get hi)
        exact ⟨Q1.out.trans h1, by omega, h3, h4⟩
      have c1 := FY.out.q.cell z1
      have c2 := FY.out.q.cell z2
      have d1 := FY.out.q.cell y1
      have d2 := FY.out.q.cell y2
      have d3 := FY.out.q.cell y3
      have df : ∀ j, wr.frozen? ⟨w.heap.size + 1, j, none⟩ = false := fun j => by rw [FY.out.q.2]; exact yf j
      have hne : g ≠ w.heap.size + 1 := by omega
      clear FY z1 z2 z3 y1 y2 y3 yf
      go_wp2_with fail
      refine bodyPost_ret (v := .agg #[.int .i64 (a : Int), .int .i64 (b : Int), .slice (some ⟨g, 0, none⟩) n n]) (by simp [results, Try.results44, go_sem, d1, d2, d3]) rfl ⟨g, rfl, ?_⟩
      exact FE.out.set (by omega) (fun e => hne e.symm) |>.set (by omega) (fun e => hne e.symm) |>.set (by omega) (fun e => hne e.symm)
end Go.Proofs.Ytkgfohodahkmmaa

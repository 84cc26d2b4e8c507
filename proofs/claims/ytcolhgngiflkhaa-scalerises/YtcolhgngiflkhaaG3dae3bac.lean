/- The laws' own helpers: finite, small. -/
import Derived.Test.YtcolhgngiflkhaaG0cd87887
import Derived.Test.YtcolhgngiflkhaaG12cbb692
import Derived.Test.YtcolhgngiflkhaaGdd1d90b8
namespace Go.Proofs.Ytcolhgngiflkhaa
open Go.RowKit
set_option linter.unusedVariables false
set_option linter.unusedSimpArgs false

theorem and_31k (s : Int) (h0 : 0 ≤ s) (h1 : s ≤ 4294967295) : bits .and .u32 s 2147483647 = s % 2147483648 := by go_bits2
theorem and_rung {x : Nat} (hx : x < 4294967296) : bits .and .u32 (x : Int) 2147483647 = ((rung32 x : Nat) : Int) := by
  rw [and_31k _ (by omega) (by omega)]
  unfold rung32
  omega
set_option maxHeartbeats 2000000 in
set_option maxRecDepth 100000 in
theorem finite_any (x : Nat) (hx : x < 4294967296) (w : World) :
    Calls Try.prog 9 #[.int .u32 (x : Int)] w fun e w' => e = .returned (.bool (decide (rung32 x < 2139095040))) ∧ w' = w := by
  have h1 := and_rung hx
  rcases Nat.lt_or_ge (rung32 x) 2139095040 with h | h
  · rw [decide_eq_true h]
    have h2 : ((rung32 x : Nat) : Int) < 2139095040 := by omega
    generalize rung32 x = r at *
    go_enter Try.func9, Try.ntmps9
    go_wp2_with fail
    go_ret
    exact ⟨rfl, rfl⟩
  · rw [decide_eq_false (by omega)]
    have h2 : ¬ ((rung32 x : Nat) : Int) < 2139095040 := by omega
    generalize rung32 x = r at *
    go_enter Try.func9, Try.ntmps9
    go_wp2_with fail
    go_ret
    exact ⟨rfl, rfl⟩
def smlB (W H : Int) : Bool := decide (W < 1 ∨ H < 1 ∨ W > 6000 ∨ H > 6000 ∨ W * H ≤ 3000)
set_option maxHeartbeats 2000000 in
set_option maxRecDepth 100000 in
theorem small_any (W H : Int) (w : World) :
    Calls Try.prog 7 #[.agg #[.int .i64 0, .int .i64 0, .slice none 0 0], .int .i64 W, .int .i64 H] w fun e w' => e = .returned (.bool (smlB W H)) ∧ Q w w' := by
  have HQ : Hid (Q w (w.alloc (.cells #[.int .i64 0, .int .i64 0, .slice none 0 0] 24))) := (Q.refl w).cells _ _
  have E : Hid (smlB W H = decide (W < 1 ∨ H < 1 ∨ W > 6000 ∨ H > 6000 ∨ W * H ≤ 3000)) := rfl
  generalize smlB W H = b at *
  rcases Int.lt_or_le W 1 with h1 | h1
  · obtain rfl : b = true := by rw [E.out]; exact decide_eq_true (Or.inl h1)
    clear E
    go_enter Try.func7, Try.ntmps7
    go_wp2_with fail
    exact bodyPost_ret (v := .bool true) (by simp [results, Try.results7, go_sem]) rfl ⟨rfl, HQ.out⟩
  rcases Int.lt_or_le H 1 with h2 | h2
  · obtain rfl : b = true := by rw [E.out]; exact decide_eq_true (Or.inr (Or.inl h2))
    clear E
    go_enter Try.func7, Try.ntmps7
    go_wp2_with fail
    exact bodyPost_ret (v := .bool true) (by simp [results, Try.results7, go_sem]) rfl ⟨rfl, HQ.out⟩
  rcases Int.lt_or_le 6000 W with h3 | h3
  · obtain rfl : b = true := by rw [E.out]; exact decide_eq_true (Or.inr (Or.inr (Or.inl h3)))
    clear E
    go_enter Try.func7, Try.ntmps7
    go_wp2_with fail
    exact bodyPost_ret (v := .bool true) (by simp [results, Try.results7, go_sem]) rfl ⟨rfl, HQ.out⟩
  rcases Int.lt_or_le 6000 H with h4 | h4
  · obtain rfl : b = true := by rw [E.out]; exact decide_eq_true (Or.inr (Or.inr (Or.inr (Or.inl h4))))
    clear E
    go_enter Try.func7, Try.ntmps7
    go_wp2_with fail
    exact bodyPost_ret (v := .bool true) (by simp [results, Try.results7, go_sem]) rfl ⟨rfl, HQ.out⟩
  have hb1 : 0 ≤ W * H := Int.mul_nonneg (by omega) (by omega)
  have hb2 : W * H ≤ 36000000 := Int.le_trans (Int.mul_le_mul h3 h4 (by omega) (by omega)) (by decide)
  rcases Int.lt_or_le 3000 (W * H) with h5 | h5
  · obtain rfl : b = false := by rw [E.out]; exact decide_eq_false (by omega)
    clear E
    go_enter Try.func7, Try.ntmps7
    go_wp2_with fail
    exact bodyPost_ret (v := .bool false) (by simp [results, Try.results7, go_sem]; exact ⟨⟨⟨⟨h1, h2⟩, h3⟩, h4⟩, h5⟩) rfl ⟨rfl, HQ.out⟩
  · obtain rfl : b = true := by rw [E.out]; exact decide_eq_true (by omega)
    clear E
    go_enter Try.func7, Try.ntmps7
    go_wp2_with fail
    exact bodyPost_ret (v := .bool true) (by simp [results, Try.results7, go_sem]) rfl ⟨rfl, HQ.out⟩
end Go.Proofs.Ytcolhgngiflkhaa
/- The laws' own helpers: key, small of any plane. -/
namespace Go.Proofs.Ytcolhgngiflkhaa
open Go.RowKit
set_option linter.unusedVariables false
set_option linter.unusedSimpArgs false

theorem srung_lowq {x : Nat} (h : x < 2147483648) : srung32 x = x := by
  unfold srung32 sgn32 rung32
  rw [show (x / 2147483648 % 2 == 1) = false from by rw [beq_eq_false_iff_ne]; omega, if_neg (by decide)]
  omega
theorem srung_highq {a : Nat} (h : ¬ a < 2147483648) (ha : a < 4294967296) : srung32 a = -((a : Int) % 2147483648) := by
  unfold srung32 sgn32 rung32
  rw [show (a / 2147483648 % 2 == 1) = true from by rw [beq_iff_eq]; omega, if_pos rfl]
  omega
set_option maxHeartbeats 400000 in
theorem key10_any (a : Nat) (ha : a < 4294967296) (w : World) : Calls Try.prog 10 #[.int .u32 (a : Int)] w fun e w' => e = .returned (.int .i64 (srung32 a)) ∧ w' = w := by
  by_cases h : a < 2147483648
  · have e1 : ((a : Int) / 2147483648 == 1) = false := by rw [beq_eq_false_iff_ne]; omega
    rw [srung_lowq h]
    go_enter Try.func10, Try.ntmps10
    go_wp2
    go_ret
    exact ⟨rfl, rfl⟩
  · have e1 : ((a : Int) / 2147483648 == 1) = true := by rw [beq_iff_eq]; omega
    have e2 := and_31k a (by omega) (by omega)
    rw [srung_highq h ha]
    go_enter Try.func10, Try.ntmps10
    go_wp2
    go_ret
    exact ⟨rfl, rfl⟩
def smlP (pw ph : Int) (n : Nat) (W H : Int) : Bool := decide (((n : Int) ≤ 3000 ∧ pw ≤ 6000 ∧ ph ≤ 6000) ∧ (W < 1 ∨ H < 1 ∨ W > 6000 ∨ H > 6000 ∨ W * H ≤ 3000))
set_option maxHeartbeats 2000000 in
set_option maxRecDepth 100000 in
theorem smallp_any (pw ph : Int) (ad : Option Addr) (n c : Nat) (W H : Int) (w : World) :
    Calls Try.prog 7 #[.agg #[.int .i64 pw, .int .i64 ph, .slice ad n c], .int .i64 W, .int .i64 H] w fun e w' => e = .returned (.bool (smlP pw ph n W H)) ∧ Q w w' := by
  have HQ : Hid (Q w (w.alloc (.cells #[.int .i64 pw, .int .i64 ph, .slice ad n c] 24))) := (Q.refl w).cells _ _
  have E : Hid (smlP pw ph n W H = decide (((n : Int) ≤ 3000 ∧ pw ≤ 6000 ∧ ph ≤ 6000) ∧ (W < 1 ∨ H < 1 ∨ W > 6000 ∨ H > 6000 ∨ W * H ≤ 3000))) := rfl
  generalize smlP pw ph n W H = b at *
  obtain ⟨w1, hw1⟩ : ∃ w1, w.alloc (.cells #[.int .i64 pw, .int .i64 ph, .slice ad n c] 24) = w1 := ⟨_, rfl⟩
  have k0 : w1.cell? ⟨w.heap.size, 0, none⟩ = some (.int .i64 pw) := by rw [← hw1]; simp [go_sem]
  have k1 : w1.cell? ⟨w.heap.size, 1, none⟩ = some (.int .i64 ph) := by rw [← hw1]; simp [go_sem]
  have k2 : w1.cell? ⟨w.heap.size, 2, none⟩ = some (.slice ad n c) := by rw [← hw1]; simp [go_sem]
  rcases Int.lt_or_le 3000 (n : Int) with a0 | a0
  · obtain rfl : b = false := by rw [E.out]; exact decide_eq_false (by omega)
    clear E
    go_enter Try.func7, Try.ntmps7
    go_wp2_with fail
    rw [hw1] at HQ
    exact bodyPost_ret (v := .bool false) (by simp [results, Try.results7, go_sem] <;> omega) rfl ⟨rfl, HQ.out⟩
  rcases Int.lt_or_le 6000 pw with a1 | a1
  · obtain rfl : b = false := by rw [E.out]; exact decide_eq_false (by omega)
    clear E
    go_enter Try.func7, Try.ntmps7
    go_wp2_with fail
    rw [hw1] at HQ
    exact bodyPost_ret (v := .bool false) (by simp [results, Try.results7, go_sem] <;> omega) rfl ⟨rfl, HQ.out⟩
  rcases Int.lt_or_le 6000 ph with a2 | a2
  · obtain rfl : b = false := by rw [E.out]; exact decide_eq_false (by omega)
    clear E
    go_enter Try.func7, Try.ntmps7
    go_wp2_with fail
    rw [hw1] at HQ
    exact bodyPost_ret (v := .bool false) (by simp [results, Try.results7, go_sem] <;> omega) rfl ⟨rfl, HQ.out⟩
  rcases Int.lt_or_le W 1 with h0 | h0
  · obtain rfl : b = true := by rw [E.out]; exact decide_eq_true ⟨⟨a0, a1, a2⟩, Or.inl h0⟩
    clear E
    go_enter Try.func7, Try.ntmps7
    go_wp2_with fail
    rw [hw1] at HQ
    exact bodyPost_ret (v := .bool true) (by simp [results, Try.results7, go_sem] <;> omega) rfl ⟨rfl, HQ.out⟩
  rcases Int.lt_or_le H 1 with h1 | h1
  · obtain rfl : b = true := by rw [E.out]; exact decide_eq_true ⟨⟨a0, a1, a2⟩, Or.inr (Or.inl h1)⟩
    clear E
    go_enter Try.func7, Try.ntmps7
    go_wp2_with fail
    rw [hw1] at HQ
    exact bodyPost_ret (v := .bool true) (by simp [results, Try.results7, go_sem] <;> omega) rfl ⟨rfl, HQ.out⟩
  rcases Int.lt_or_le 6000 W with h2 | h2
  · obtain rfl : b = true := by rw [E.out]; exact decide_eq_true ⟨⟨a0, a1, a2⟩, Or.inr (Or.inr (Or.inl h2))⟩
    clear E
    go_enter Try.func7, Try.ntmps7
    go_wp2_with fail
    rw [hw1] at HQ
    exact bodyPost_ret (v := .bool true) (by simp [results, Try.results7, go_sem] <;> omega) rfl ⟨rfl, HQ.out⟩
  rcases Int.lt_or_le 6000 H with h3 | h3
  · obtain rfl : b = true := by rw [E.out]; exact decide_eq_true ⟨⟨a0, a1, a2⟩, Or.inr (Or.inr (Or.inr (Or.inl h3)))⟩
    clear E
    go_enter Try.func7, Try.ntmps7
    go_wp2_with fail
    rw [hw1] at HQ
    exact bodyPost_ret (v := .bool true) (by simp [results, Try.results7, go_sem] <;> omega) rfl ⟨rfl, HQ.out⟩
  have hb1 : 0 ≤ W * H := Int.mul_nonneg (by omega) (by omega)
  have hb2 : W * H ≤ 36000000 := Int.le_trans (Int.mul_le_mul h2 h3 (by omega) (by omega)) (by decide)
  rcases Int.lt_or_le 3000 (W * H) with h4 | h4
  · obtain rfl : b = false := by rw [E.out]; exact decide_eq_false (by omega)
    clear E
    go_enter Try.func7, Try.ntmps7
    go_wp2_with fail
    rw [hw1] at HQ
    exact bodyPost_ret (v := .bool false) (by simp [results, Try.results7, go_sem] <;> omega) rfl ⟨rfl, HQ.out⟩
  · obtain rfl : b = true := by rw [E.out]; exact decide_eq_true ⟨⟨a0, a1, a2⟩, by omega⟩
    clear E
    go_enter Try.func7, Try.ntmps7
    go_wp2_with fail
    rw [hw1] at HQ
    exact bodyPost_ret (v := .bool true) (by simp [results, Try.results7, go_sem] <;> omega) rfl ⟨rfl, HQ.out⟩
end Go.Proofs.Ytcolhgngiflkhaa
/- A plane in a box whose samples are appended one by one. -/
namespace Go.Proofs.Ytcolhgngiflkhaa
open Go.RowKit
set_option linter.unusedVariables false
set_option linter.unusedSimpArgs false

theorem uInfo : ∃ i, Try.prog.info? 31 = some i ∧ i.size = 1 ∧ i.bytes = 4 ∧ i.zero = some (.int .u32 0) := info_of (by kernel_rfl) (by kernel_rfl)
def newsS (S : List Nat) : List Value := S.map fun (x : Nat) => .int .u32 (x : Int)
structure Gp (w0 wr : World) (B : Nat) (pa pb : Int) (v : Value) (L : List Nat) (n : Nat) : Prop where
  len : n = L.length
  own : wr.ownsRow w0.heap.size 31 1 v n (newsS L)
  ap : v.ownBlock ≠ some B
  c0 : wr.cell? ⟨B, 0, none⟩ = some (.int .i64 pa)
  c1 : wr.cell? ⟨B, 1, none⟩ = some (.int .i64 pb)
  c2 : wr.cell? ⟨B, 2, none⟩ = some v
  fz : ∀ j, wr.frozen? ⟨B, j, none⟩ = false
  q : Q w0 wr
  lo : w0.heap.size ≤ B
theorem own_setS {w : World} {base n : Nat} {v : Value} {xs : List Value} (h : w.ownsRow base 31 1 v n xs) {p : Addr} (hp : v.ownBlock ≠ some p.block) (z : Value) : (w.setCell p z).ownsRow base 31 1 v n xs := by
  refine ⟨h.1, ?_⟩
  rcases h.2 with c | ⟨g, cap, cur, h1, h2, h3, h4⟩
  · exact Or.inl c
  · refine Or.inr ⟨g, cap, cur, h1, h2, ?_, h4⟩
    rw [Below.heap_setCell _ _ _ _ (fun e => hp (by rw [h1, e]; rfl))]
    exact h3
theorem own_uslS {w : World} {base n : Nat} {v : Value} {L : List Nat} (h : w.ownsRow base 31 1 v n (newsS L)) (hn : n = L.length) : USl w v L := by
  obtain ⟨_, ⟨rfl, h0⟩ | ⟨g, cap, cur, rfl, _, hh, hc, _, hsz, ht⟩⟩ := h
  · exact Or.inr ⟨_, _, rfl, List.eq_nil_of_length_eq_zero (by omega)⟩
  · subst hn
    refine Or.inl ⟨g, 0, cap, rfl, hc, fun i hi => ?_⟩
    have hg : cur.toList[i]? = some (.int .u32 ((L.getD i 0 : Nat) : Int)) := by
      have e : (cur.toList.take (L.length * 1))[i]? = (newsS L)[i]? := by rw [ht]
      rw [List.getElem?_take, if_pos (by omega)] at e
      rw [e]
      unfold newsS
      rw [List.getElem?_map, List.getElem?_eq_getElem hi, List.getD_eq_getElem?_getD, List.getElem?_eq_getElem hi]
      rfl
    rw [Nat.zero_add]
    unfold World.cell?
    rw [hh]
    rw [Array.getElem?_toList] at hg
    exact hg
theorem Gp.app {w0 wr : World} {B : Nat} {pa pb : Int} {v : Value} {L : List Nat} {n : Nat} (h : Gp w0 wr B pa pb v L n) (u : Nat) (hn : n ≤ 100000) :
    ∃ g c x2, (Builtin.append_ #[22, 22] 22 #[v, .slice (some ⟨wr.heap.size, 0, none⟩) 1 1]).run Try.prog (wr.alloc (.cells #[.int .u32 (u : Int)] 31)) = .ok (.slice (some ⟨g, 0, none⟩) (n + 1) c) x2 ∧
      x2.cell? ⟨B, 2, none⟩ = some v ∧ (∀ j, x2.frozen? ⟨B, j, none⟩ = false) ∧ Gp w0 (x2.setCell ⟨B, 2, none⟩ (.slice (some ⟨g, 0, none⟩) (n + 1) c)) B pa pb (.slice (some ⟨g, 0, none⟩) (n + 1) c) (L ++ [u]) (n + 1) := by
  obtain ⟨iu, i1, i2, i3, i4⟩ := uInfo
  have hq1 : Q w0 (wr.alloc (.cells #[.int .u32 (u : Int)] 31)) := h.q.cells _ _
  have hqa : Q wr (wr.alloc (.cells #[.int .u32 (u : Int)] 31)) := (Q.refl wr).cells _ _
  have hBw : B < wr.heap.size := World.block_lt_of_cell? _ _ h.c0
  obtain ⟨g, c, x2, r1, o1, q1, gb1, gg1⟩ := run_app_qg (P := Try.prog) (wr.alloc (.cells #[.int .u32 (u : Int)] 31)) w0 hq1 22 22 31 iu _ 1 4 Try.underlying22 i1 i4 i2 i3 rfl (by decide) v n _ (h.own.alloc _) ⟨wr.heap.size, 0, none⟩ 1 1 [.int .u32 (u : Int)] rfl (fun j z hz => by
    cases j with
    | zero => cases hz; show (wr.alloc (.cells #[.int .u32 (u : Int)] 31)).cell? ⟨wr.heap.size, 0, none⟩ = _; simp [go_sem]
    | succ j => cases hz) (fun z hz => by rw [List.mem_singleton.1 hz]; rfl) (by decide) (by unfold maxLen; omega) (by omega)
  have hgB : g ≠ B := by
    rcases gg1 with e | e
    · intro k; exact h.ap (by rw [e, k])
    · have : (wr.alloc (.cells #[.int .u32 (u : Int)] 31)).heap.size = wr.heap.size + 1 := by simp
      omega
  have hcell : ∀ {j z}, wr.cell? ⟨B, j, none⟩ = some z → x2.cell? ⟨B, j, none⟩ = some z := fun {j z} hz => by
    have h1 := hqa.cell hz
    have h2 := gb1.block B (by have := hqa.1.size; omega) (fun e => h.ap e.symm)
    exact (World.cell?_of_block h2).trans h1
  have hfz : ∀ j, x2.frozen? ⟨B, j, none⟩ = false := fun j => by rw [q1.2, ← h.q.2]; exact h.fz j
  have hap : newsS (L ++ [u]) = newsS L ++ [.int .u32 (u : Int)] := by simp [newsS]
  rw [← hap] at o1
  refine ⟨g, c, x2, r1, hcell h.c2, hfz, ?_⟩
  have hne : (Value.slice (some ⟨g, 0, none⟩) (n + 1) c).ownBlock ≠ some B := fun e => hgB (by cases e; rfl)
  exact ⟨by rw [List.length_append, h.len]; rfl, own_setS o1 hne _, hne,
    (World.cell?_setCell_other _ _ _ _ (fun e => by injection e with _ e; cases e)).trans (hcell h.c0),
    (World.cell?_setCell_other _ _ _ _ (fun e => by injection e with _ e; cases e)).trans (hcell h.c1),
    World.cell?_setCell_same _ _ _ (hcell h.c2), fun j => by rw [World.frozen?_setCell]; exact hfz j, q1.set h.lo _, h.lo⟩
end Go.Proofs.Ytcolhgngiflkhaa
/- Part, Need. -/
namespace Go.Proofs.Ytcolhgngiflkhaa
open Go.RowKit
set_option linter.unusedVariables false
set_option linter.unusedSimpArgs false

set_option maxHeartbeats 1000000 in
set_option maxRecDepth 100000 in
theorem isspan_any (lo hi n : Int) (w : World) (h1 : 0 ≤ lo) (h2 : lo < hi) (h3 : hi ≤ n) : Calls Try.prog 19 #[.int .i64 lo, .int .i64 hi, .int .i64 n] w fun e w' => e = .returned (.bool true) ∧ w' = w := by
  go_enter Try.func19, Try.ntmps19
  go_wp2_with fail
  go_ret
  exact ⟨by first | rfl | simp, rfl⟩
set_option maxHeartbeats 1000000 in
set_option maxRecDepth 100000 in
theorem within_any (x0 y0 x1 y1 W H : Int) (w : World) (h1 : 0 ≤ x0) (h2 : x0 < x1) (h3 : x1 ≤ W) (h4 : 0 ≤ y0) (h5 : y0 < y1) (h6 : y1 ≤ H) : Calls Try.prog 23 #[.agg #[.int .i64 x0, .int .i64 y0, .int .i64 x1, .int .i64 y1], .int .i64 W, .int .i64 H] w fun e w' => e = .returned (.bool true) ∧ Q w w' := by
  obtain ⟨w1, hw1⟩ : ∃ w1, w.alloc (.cells #[.int .i64 x0, .int .i64 y0, .int .i64 x1, .int .i64 y1] 40) = w1 := ⟨_, rfl⟩
  have q1 : Q w w1 := by rw [← hw1]; exact (Q.refl w).cells _ _
  have k0 : w1.cell? ⟨w.heap.size, 0, none⟩ = some (.int .i64 x0) := by rw [← hw1]; simp [go_sem]
  have k1 : w1.cell? ⟨w.heap.size, 1, none⟩ = some (.int .i64 y0) := by rw [← hw1]; simp [go_sem]
  have k2 : w1.cell? ⟨w.heap.size, 2, none⟩ = some (.int .i64 x1) := by rw [← hw1]; simp [go_sem]
  have k3 : w1.cell? ⟨w.heap.size, 3, none⟩ = some (.int .i64 y1) := by rw [← hw1]; simp [go_sem]
  have C1 := isspan_any x0 x1 W w1 h1 h2 h3
  have C2 := isspan_any y0 y1 H w1 h4 h5 h6
  have HQ : Hid (Q w w1) := q1
  clear q1 h1 h2 h3 h4 h5 h6
  go_enter Try.func23, Try.ntmps23
  go_wp2_with fail
  refine C1.mono ?_
  rintro e w2 ⟨rfl, hw2⟩
  obtain rfl := hw2.symm
  go_wp2_with fail
  refine C2.mono ?_
  rintro e w3 ⟨rfl, hw3⟩
  obtain rfl := hw3.symm
  go_wp2_with fail
  go_ret
  exact ⟨rfl, HQ.out⟩
set_option maxHeartbeats 2000000 in
set_option maxRecDepth 100000 in
theorem part_good (kind : Int) (pa pb W H x0 y0 nx ny : Nat) (x1 y1 : Int) (sv : Value) (S : List Nat) (w : World) (hsv : USl w sv S) (hS : S.length = pa * pb) (hb : ∀ i, S.getD i 0 < 4294967296) (hE : plnE pa pb S.length kind W H = 0) (hsz : Size pa pb) (hWH : Size W H)
    (hx : x1 = ((x0 + nx : Nat) : Int)) (hy : y1 = ((y0 + ny : Nat) : Int)) (hx1 : 1 ≤ nx) (hy1 : 1 ≤ ny) (hxW : x0 + nx ≤ W) (hyH : y0 + ny ≤ H) :
    Calls Try.prog 13 #[.agg #[.int .i64 (pa : Int), .int .i64 (pb : Int), sv], .int .i64 kind, .int .i64 (W : Int), .int .i64 (H : Int), .agg #[.int .i64 (x0 : Int), .int .i64 (y0 : Int), .int .i64 x1, .int .i64 y1]] w fun e w' => ∃ g, e = .returned (.tuple #[.agg #[.int .i64 (nx : Int), .int .i64 (ny : Int), .slice (some ⟨g, 0, none⟩) (nx * ny) (nx * ny)], .int .i64 0]) ∧ URow w' g (tabN (nx * ny) fun i => whlV kind pa pb W H S (x0 + i % nx) (y0 + i / nx)) ∧ w.heap.size ≤ g ∧ Q w w' := by
  obtain ⟨ad, c, rfl⟩ := hsv.form
  have hE1 : tapE kind pa W 0 = 0 ∧ tapE kind pb H 0 = 0 := by
    unfold plnE at hE
    split at hE
    · split at hE
      · split at hE
        · rename_i h; exact ⟨h, hE⟩
        · rename_i h; exact absurd hE h
      · cases hE
    · rename_i h; exact absurd hE h
  have hSl : S.length ≤ 65536 := by rw [hS]; exact hsz.ab
  obtain ⟨w1, hw1⟩ : ∃ w1, ((w.alloc (.cells #[.int .i64 (pa : Int), .int .i64 (pb : Int), .slice ad S.length c] 24)).alloc (.cells #[.int .i64 (x0 : Int), .int .i64 (y0 : Int), .int .i64 x1, .int .i64 y1] 40)).alloc (.cells #[.int .i64 0, .int .i64 0, .slice none 0 0] 24) = w1 := ⟨_, rfl⟩
  have q1 : Q w w1 := by rw [← hw1]; exact (((Q.refl w).cells _ _).cells _ _).cells _ _
  have k0 : w1.cell? ⟨w.heap.size, 0, none⟩ = some (.int .i64 (pa : Int)) := by rw [← hw1]; simp [go_sem]
  have k1 : w1.cell? ⟨w.heap.size, 1, none⟩ = some (.int .i64 (pb : Int)) := by rw [← hw1]; simp [go_sem]
  have k2 : w1.cell? ⟨w.heap.size, 2, none⟩ = some (.slice ad S.length c) := by rw [← hw1]; simp [go_sem]
  have r0 : w1.cell? ⟨w.heap.size + 1, 0, none⟩ = some (.int .i64 (x0 : Int)) := by rw [← hw1]; simp [go_sem]
  have r1 : w1.cell? ⟨w.heap.size + 1, 1, none⟩ = some (.int .i64 (y0 : Int)) := by rw [← hw1]; simp [go_sem]
  have r2 : w1.cell? ⟨w.heap.size + 1, 2, none⟩ = some (.int .i64 x1) := by rw [← hw1]; simp [go_sem]
  have r3 : w1.cell? ⟨w.heap.size + 1, 3, none⟩ = some (.int .i64 y1) := by rw [← hw1]; simp [go_sem]
  have HR : Hid (w1.cell? ⟨w.heap.size + 1 + 1, 0, none⟩ = some (.int .i64 0) ∧ w1.cell? ⟨w.heap.size + 1 + 1, 1, none⟩ = some (.int .i64 0) ∧ w1.cell? ⟨w.heap.size + 1 + 1, 2, none⟩ = some (.slice none 0 0) ∧ (∀ j, w1.frozen? ⟨w.heap.size + 1 + 1, j, none⟩ = false) ∧ w1.heap.size = w.heap.size + 3) := by
    rw [← hw1]
    exact ⟨by simp [go_sem], by simp [go_sem], by simp [go_sem], fun j => by simp [go_sem], by simp⟩
  have C1 := refplane_any pa pb ad S.length c kind W H (by omega) w1
  rw [hE] at C1
  have HCw : Hid (∀ x : World, Calls Try.prog 23 #[.agg #[.int .i64 (x0 : Int), .int .i64 (y0 : Int), .int .i64 x1, .int .i64 y1], .int .i64 (W : Int), .int .i64 (H : Int)] x fun e w' => e = .returned (.bool true) ∧ Q x w') := fun x => within_any x0 y0 x1 y1 W H x (by omega) (by omega) (by omega) (by omega) (by omega) (by omega)
  have HC2 : Hid (∀ x : World, Q w x → Calls Try.prog 17 #[.agg #[.int .i64 (pa : Int), .int .i64 (pb : Int), .slice ad S.length c], .int .i64 kind, .int .i64 (W : Int), .int .i64 (H : Int), .agg #[.int .i64 (x0 : Int), .int .i64 (y0 : Int), .int .i64 x1, .int .i64 y1]] x fun e w' => ∃ g, e = .returned (.agg #[.int .i64 (nx : Int), .int .i64 (ny : Int), .slice (some ⟨g, 0, none⟩) (nx * ny) (nx * ny)]) ∧ URow w' g (tabN (nx * ny) fun i => whlV kind pa pb W H S (x0 + i % nx) (y0 + i / nx)) ∧ x.heap.size ≤ g ∧ Q x w') := fun x q => piece_rect kind pa pb W H x0 y0 nx ny x1 y1 (.slice ad S.length c) S x (hsv.next q) hsz hS hb hE1.1 hE1.2 hx hy hx1 hy1 hxW hyH hWH.a2 hWH.b2
  have HQ1 : Hid (Q w w1) := q1
  have HK : Hid (w1.cell? ⟨w.heap.size, 0, none⟩ = some (.int .i64 (pa : Int)) ∧ w1.cell? ⟨w.heap.size, 1, none⟩ = some (.int .i64 (pb : Int)) ∧ w1.cell? ⟨w.heap.size, 2, none⟩ = some (.slice ad S.length c)) := ⟨k0, k1, k2⟩
  have HK2 : Hid (w1.cell? ⟨w.heap.size + 1, 0, none⟩ = some (.int .i64 (x0 : Int)) ∧ w1.cell? ⟨w.heap.size + 1, 1, none⟩ = some (.int .i64 (y0 : Int)) ∧ w1.cell? ⟨w.heap.size + 1, 2, none⟩ = some (.int .i64 x1) ∧ w1.cell? ⟨w.heap.size + 1, 3, none⟩ = some (.int .i64 y1)) := ⟨r0, r1, r2, r3⟩
  obtain ⟨FL, hFL⟩ : ∃ FL, (tabN (nx * ny) fun i => whlV kind pa pb W H S (x0 + i % nx) (y0 + i / nx)) = FL := ⟨_, rfl⟩
  rw [hFL] at HC2 ⊢
  obtain ⟨n, hn⟩ : ∃ n, nx * ny = n := ⟨_, rfl⟩
  rw [hn] at HC2 ⊢
  generalize S.length = sl at *
  clear q1 hsv hS hb hE hE1 hsz hWH hFL hn hSl hx hy hx1 hy1 hxW hyH
  go_enter Try.func13, Try.ntmps13
  go_wp2_with fail
  refine C1.mono ?_
  rintro e w2 ⟨rfl, q2⟩
  clear C1 k0 k1 k2 r0 r1 r2 r3
  have r0 := q2.cell HK2.out.1
  have r1 := q2.cell HK2.out.2.1
  have r2 := q2.cell HK2.out.2.2.1
  have r3 := q2.cell HK2.out.2.2.2
  have HQ2 : Hid (Q w1 w2) := q2
  clear q2 hw1
  go_wp2_with fail
  refine (HCw.out w2).mono ?_
  rintro e w2b ⟨rfl, q2b⟩
  clear r0 r1 r2 r3
  have HQ2b : Hid (Q w1 w2b) := HQ2.out.trans q2b
  clear q2b
  have k0 := HQ2b.out.cell HK.out.1
  have k1 := HQ2b.out.cell HK.out.2.1
  have k2 := HQ2b.out.cell HK.out.2.2
  have r0 := HQ2b.out.cell HK2.out.1
  have r1 := HQ2b.out.cell HK2.out.2.1
  have r2 := HQ2b.out.cell HK2.out.2.2.1
  have r3 := HQ2b.out.cell HK2.out.2.2.2
  go_wp2_with fail
  refine (HC2.out w2b (HQ1.out.trans HQ2b.out)).mono ?_
  rintro e w3 ⟨g, rfl, hu, hl, q3⟩
  have o0 := (HQ2b.out.trans q3).cell HR.out.1
  have o1 := (HQ2b.out.trans q3).cell HR.out.2.1
  have o2 := (HQ2b.out.trans q3).cell HR.out.2.2.1
  have fo : ∀ j, w3.frozen? ⟨w.heap.size + 1 + 1, j, none⟩ = false := fun j => by rw [(HQ2b.out.trans q3).2]; exact HR.out.2.2.2.1 j
  have fo0 := fo 0
  have fo1 := fo 1
  have fo2 := fo 2
  obtain ⟨w9, hw9⟩ : ∃ w9, ((w3.setCell ⟨w.heap.size + 1 + 1, 0, none⟩ (.int .i64 (nx : Int))).setCell ⟨w.heap.size + 1 + 1, 1, none⟩ (.int .i64 (ny : Int))).setCell ⟨w.heap.size + 1 + 1, 2, none⟩ (.slice (some ⟨g, 0, none⟩) n n) = w9 := ⟨_, rfl⟩
  have hgg : w.heap.size + 1 + 1 ≠ g := by
    have := HQ2b.out.1.size
    have := HR.out.2.2.2.2
    omega
  have HW : Hid (URow w9 g FL ∧ w.heap.size ≤ g ∧ Q w w9) := by
    refine ⟨?_, ?_, ?_⟩
    · rw [← hw9]
      exact ((hu.other (p := ⟨w.heap.size + 1 + 1, 0, none⟩) hgg _).other (p := ⟨w.heap.size + 1 + 1, 1, none⟩) hgg _).other (p := ⟨w.heap.size + 1 + 1, 2, none⟩) hgg _
    · have := (HQ1.out.trans HQ2b.out).1.size
      omega
    · rw [← hw9]
      have hl' : w.heap.size ≤ w.heap.size + 1 + 1 := by omega
      exact (((HQ1.out.trans (HQ2b.out.trans q3)).set hl' _).set hl' _).set hl' _
  have v0 : w9.cell? ⟨w.heap.size + 1 + 1, 0, none⟩ = some (.int .i64 (nx : Int)) := by
    rw [← hw9, World.cell?_setCell_other _ _ _ _ (fun e => by injection e with _ e; cases e), World.cell?_setCell_other _ _ _ _ (fun e => by injection e with _ e; cases e)]; exact World.cell?_setCell_same _ _ _ o0
  have v1 : w9.cell? ⟨w.heap.size + 1 + 1, 1, none⟩ = some (.int .i64 (ny : Int)) := by
    rw [← hw9, World.cell?_setCell_other _ _ _ _ (fun e => by injection e with _ e; cases e)]; exact World.cell?_setCell_same _ _ _ ((World.cell?_setCell_other _ _ _ _ (fun e => by injection e with _ e; cases e)).trans o1)
  have v2 : w9.cell? ⟨w.heap.size + 1 + 1, 2, none⟩ = some (.slice (some ⟨g, 0, none⟩) n n) := by
    rw [← hw9]; exact World.cell?_setCell_same _ _ _ ((World.cell?_setCell_other _ _ _ _ (fun e => by injection e with _ e; cases e)).trans ((World.cell?_setCell_other _ _ _ _ (fun e => by injection e with _ e; cases e)).trans o2))
  have HW9 : Hid _ := hw9
  clear fo hu hl q3 hw9 k0 k1 k2 r0 r1 r2 r3
  go_wp2_with fail
  rw [HW9.out]
  exact bodyPost_ret (v := .tuple #[.agg #[.int .i64 (nx : Int), .int .i64 (ny : Int), .slice (some ⟨g, 0, none⟩) n n], .int .i64 0]) (by simp [results, Try.results13, go_sem, v0, v1, v2]) rfl ⟨g, rfl, HW.out.1, HW.out.2.1, HW.out.2.2⟩
set_option maxHeartbeats 2000000 in
set_option maxRecDepth 100000 in
theorem need_good (kind : Int) (F T lo n : Nat) (hi : Int) (w : World) (hhi : hi = ((lo + n : Nat) : Int)) (hE : tapE kind F T 0 = 0) (hn : 1 ≤ n) (hT : lo + n ≤ T) (hF1 : 1 ≤ F) (hF2 : F ≤ 1024) (hT2 : T ≤ 1024) :
    Calls Try.prog 12 #[.int .i64 kind, .int .i64 (F : Int), .int .i64 (T : Int), .int .i64 (lo : Int), .int .i64 hi] w fun e w' => e = .returned (.tuple #[.int .i64 (fstS ((List.range n).map fun (k : Nat) => tpA kind F T ((lo + k : Nat) : Int)) n), .int .i64 (endS ((List.range n).map fun (k : Nat) => tpA kind F T ((lo + k : Nat) : Int)) n), .int .i64 0]) ∧ Q w w' := by
  have HR : Hid (∀ (k : Int) (W : World), 1 ≤ k → k ≤ 1024 → Calls Try.prog 18 #[.int .i64 k] W fun e w' => e = .returned (.bool true) ∧ w' = W) := fun k W h1 h2 => by have := sside_any k W; rw [decide_eq_true ⟨h1, h2⟩] at this; exact this
  have Csp := isspan_any lo hi T w (by omega) (by omega) (by omega)
  have C := refusal_any kind F T w
  rw [hE] at C
  have HC2 : Hid (∀ x : World, Calls Try.prog 21 #[.int .i64 kind, .int .i64 (F : Int), .int .i64 (T : Int), .int .i64 (lo : Int), .int .i64 hi] x fun e x' => ∃ v, e = .returned v ∧ LnJ x.heap.size x'.heap.size x' v ((List.range n).map fun (k : Nat) => tpA kind F T ((lo + k : Nat) : Int)) ∧ Q x x') := fun x => line_j kind F T lo n hi hhi hE hn hT hT2 x
  have HC3 : Hid (∀ (v : Value) (x : World), LnX x v ((List.range n).map fun (k : Nat) => tpA kind F T ((lo + k : Nat) : Int)) → Calls Try.prog 22 #[v] x fun e w' => e = .returned (.tuple #[.int .i64 (fstS ((List.range n).map fun (k : Nat) => tpA kind F T ((lo + k : Nat) : Int)) n), .int .i64 (endS ((List.range n).map fun (k : Nat) => tpA kind F T ((lo + k : Nat) : Int)) n)]) ∧ Q x w') := fun v x hv => by
    have := span_any v _ F x hv (by rw [List.length_map, List.length_range]; omega) hF2 (fun L hL => by
      obtain ⟨k, hk, rfl⟩ := List.mem_map.1 hL
      have := List.mem_range.1 hk
      have h1 := tpA_tok (tapE_at hE (k := lo + k) (by omega))
      rw [Int.toNat_natCast] at h1
      exact h1)
    rw [List.length_map, List.length_range] at this
    exact this
  generalize (List.range n).map (fun (k : Nat) => tpA kind F T ((lo + k : Nat) : Int)) = Ls at *
  generalize fstS Ls n = f1 at *
  generalize endS Ls n = e1 at *
  have a1 : (1 : Int) ≤ (F : Int) := by omega
  have a2 : (F : Int) ≤ 1024 := by omega
  have b1 : (1 : Int) ≤ (T : Int) := by omega
  have b2 : (T : Int) ≤ 1024 := by omega
  clear hE hhi hn hT hF1 hF2 hT2
  go_enter Try.func12, Try.ntmps12
  go_wp2_with (first | (go_at_call 18; first | (refine (HR.out F _ a1 a2).mono ?_; rintro e w' ⟨rfl, hw⟩; obtain rfl := hw.symm) | (refine (HR.out T _ b1 b2).mono ?_; rintro e w' ⟨rfl, hw⟩; obtain rfl := hw.symm)) | (go_at_call 19; refine Csp.mono ?_; rintro e w' ⟨rfl, hw⟩; obtain rfl := hw.symm))
  refine C.mono ?_
  rintro e w1 ⟨rfl, q1⟩
  clear C Csp
  have HQ : Hid (Q w w1) := q1
  clear q1
  go_wp2_with fail
  refine (HC2.out w1).mono ?_
  rintro e w2 ⟨v2, rfl, l2, q2⟩
  have C3 := HC3.out v2 w2 l2.x
  have HQ2 : Hid (Q w w2) := HQ.out.trans q2
  clear l2 q2
  go_wp2_with fail
  refine C3.mono ?_
  rintro e w3 ⟨rfl, q3⟩
  clear C3
  have HQ3 : Hid (Q w w3) := HQ2.out.trans q3
  clear q3
  go_wp2_with fail
  go_ret3
  exact ⟨rfl, HQ3.out⟩
end Go.Proofs.Ytcolhgngiflkhaa

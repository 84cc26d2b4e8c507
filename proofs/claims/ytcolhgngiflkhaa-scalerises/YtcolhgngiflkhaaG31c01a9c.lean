/- The laws' own helpers: key, small of any plane. -/
import Derived.Test.YtcolhgngiflkhaaG3e6525f2
import Derived.Test.YtcolhgngiflkhaaGae8318a2
import Derived.Test.YtcolhgngiflkhaaG9907aa2c
namespace Go.Proofs.Ytcolhgngiflkhaa
open Go.RowKit
set_option linter.unusedVariables false
set_option linter.unusedSimpArgs false

theorem srung_lowq {x : Nat} (h : x < 2147483648) : srung32 x = x := by
  unfold srung32 sgn32 rung32
  rw [show (x / 2147483648 % 2 == 1) = false from by rw [beq_eq_false_iff_ne]; omega, if_neg (by decide)]
  omega
theorem srung_highq {a : Nat} (h : ¬ a < 2147483648) (ha : a < 4294967296) : srung32 a = -((a : Int) % 2147483648) := by
  unfold srung32 sgn32 rung32
  rw [show (a / 2147483648 % 2 == 1) = true from by rw [beq_iff_eq]; omega, if_pos rfl]
  omega
set_option maxHeartbeats 400000 in
theorem key10_any (a : Nat) (ha : a < 4294967296) (w : World) : Calls Try.prog 10 #[.int .u32 (a : Int)] w fun e w' => e = .returned (.int .i64 (srung32 a)) ∧ w' = w := by
  by_cases h : a < 2147483648
  · have e1 : ((a : Int) / 2147483648 == 1) = false := by rw [beq_eq_false_iff_ne]; omega
    rw [srung_lowq h]
    go_enter Try.func10, Try.ntmps10
    go_wp2
    go_ret
    exact ⟨rfl, rfl⟩
  · have e1 : ((a : Int) / 2147483648 == 1) = true := by rw [beq_iff_eq]; omega
    have e2 := and_31k a (by omega) (by omega)
    rw [srung_highq h ha]
    go_enter Try.func10, Try.ntmps10
    go_wp2
    go_ret
    exact ⟨rfl, rfl⟩
def smlP (pw ph : Int) (n : Nat) (W H : Int) : Bool := decide (((n : Int) ≤ 3000 ∧ pw ≤ 6000 ∧ ph ≤ 6000) ∧ (W < 1 ∨ H < 1 ∨ W > 6000 ∨ H > 6000 ∨ W * H ≤ 3000))
set_option maxHeartbeats 2000000 in
set_option maxRecDepth 100000 in
theorem smallp_any (pw ph : Int) (ad : Option Addr) (n c : Nat) (W H : Int) (w : World) :
    Calls Try.prog 7 #[.agg #[.int .i64 pw, .int .i64 ph, .slice ad n c], .int .i64 W, .int .i64 H] w fun e w' => e = .returned (.bool (smlP pw ph n W H)) ∧ Q w w' := by
  have HQ : Hid (Q w (w.alloc (.cells #[.int .i64 pw, .int .i64 ph, .slice ad n c] 24))) := (Q.refl w).cells _ _
  have E : Hid (smlP pw ph n W H = decide (((n : Int) ≤ 3000 ∧ pw ≤ 6000 ∧ ph ≤ 6000) ∧ (W < 1 ∨ H < 1 ∨ W > 6000 ∨ H > 6000 ∨ W * H ≤ 3000))) := rfl
  generalize smlP pw ph n W H = b at *
  obtain ⟨w1, hw1⟩ : ∃ w1, w.alloc (.cells #[.int .i64 pw, .int .i64 ph, .slice ad n c] 24) = w1 := ⟨_, rfl⟩
  have k0 : w1.cell? ⟨w.heap.size, 0, none⟩ = some (.int .i64 pw) := by rw [← hw1]; simp [go_sem]
  have k1 : w1.cell? ⟨w.heap.size, 1, none⟩ = some (.int .i64 ph) := by rw [← hw1]; simp [go_sem]
  have k2 : w1.cell? ⟨w.heap.size, 2, none⟩ = some (.slice ad n c) := by rw [← hw1]; simp [go_sem]
  rcases Int.lt_or_le 3000 (n : Int) with a0 | a0
  · obtain rfl : b = false := by rw [E.out]; exact decide_eq_false (by omega)
    clear E
    go_enter Try.func7, Try.ntmps7
    go_wp2_with fail
    rw [hw1] at HQ
    exact bodyPost_ret (v := .bool false) (by simp [results, Try.results7, go_sem] <;> omega) rfl ⟨rfl, HQ.out⟩
  rcases Int.lt_or_le 6000 pw with a1 | a1
  · obtain rfl : b = false := by rw [E.out]; exact decide_eq_false (by omega)
    clear E
    go_enter Try.func7, Try.ntmps7
    go_wp2_with fail
    rw [hw1] at HQ
    exact bodyPost_ret (v := .bool false) (by simp [results, Try.results7, go_sem] <;> omega) rfl ⟨rfl, HQ.out⟩
  rcases Int.lt_or_le 6000 ph with a2 | a2
  · obtain rfl : b = false := by rw [E.out]; exact decide_eq_false (by omega)
    clear E
    go_enter Try.func7, Try.ntmps7
    go_wp2_with fail
    rw [hw1] at HQ
    exact bodyPost_ret (v := .bool false) (by simp [results, Try.results7, go_sem] <;> omega) rfl ⟨rfl, HQ.out⟩
  rcases Int.lt_or_le W 1 with h0 | h0
  · obtain rfl : b = true := by rw [E.out]; exact decide_eq_true ⟨⟨a0, a1, a2⟩, Or.inl h0⟩
    clear E
    go_enter Try.func7, Try.ntmps7
    go_wp2_with fail
    rw [hw1] at HQ
    exact bodyPost_ret (v := .bool true) (by simp [results, Try.results7, go_sem] <;> omega) rfl ⟨rfl, HQ.out⟩
  rcases Int.lt_or_le H 1 with h1 | h1
  · obtain rfl : b = true := by rw [E.out]; exact decide_eq_true ⟨⟨a0, a1, a2⟩, Or.inr (Or.inl h1)⟩
    clear E
    go_enter Try.func7, Try.ntmps7
    go_wp2_with fail
    rw [hw1] at HQ
    exact bodyPost_ret (v := .bool true) (by simp [results, Try.results7, go_sem] <;> omega) rfl ⟨rfl, HQ.out⟩
  rcases Int.lt_or_le 6000 W with h2 | h2
  · obtain rfl : b = true := by rw [E.out]; exact decide_eq_true ⟨⟨a0, a1, a2⟩, Or.inr (Or.inr (Or.inl h2))⟩
    clear E
    go_enter Try.func7, Try.ntmps7
    go_wp2_with fail
    rw [hw1] at HQ
    exact bodyPost_ret (v := .bool true) (by simp [results, Try.results7, go_sem] <;> omega) rfl ⟨rfl, HQ.out⟩
  rcases Int.lt_or_le 6000 H with h3 | h3
  · obtain rfl : b = true := by rw [E.out]; exact decide_eq_true ⟨⟨a0, a1, a2⟩, Or.inr (Or.inr (Or.inr (Or.inl h3)))⟩
    clear E
    go_enter Try.func7, Try.ntmps7
    go_wp2_with fail
    rw [hw1] at HQ
    exact bodyPost_ret (v := .bool true) (by simp [results, Try.results7, go_sem] <;> omega) rfl ⟨rfl, HQ.out⟩
  have hb1 : 0 ≤ W * H := Int.mul_nonneg (by omega) (by omega)
  have hb2 : W * H ≤ 36000000 := Int.le_trans (Int.mul_le_mul h2 h3 (by omega) (by omega)) (by decide)
  rcases Int.lt_or_le 3000 (W * H) with h4 | h4
  · obtain rfl : b = false := by rw [E.out]; exact decide_eq_false (by omega)
    clear E
    go_enter Try.func7, Try.ntmps7
    go_wp2_with fail
    rw [hw1] at HQ
    exact bodyPost_ret (v := .bool false) (by simp [results, Try.results7, go_sem] <;> omega) rfl ⟨rfl, HQ.out⟩
  · obtain rfl : b = true := by rw [E.out]; exact decide_eq_true ⟨⟨a0, a1, a2⟩, by omega⟩
    clear E
    go_enter Try.func7, Try.ntmps7
    go_wp2_with fail
    rw [hw1] at HQ
    exact bodyPost_ret (v := .bool true) (by simp [results, Try.results7, go_sem] <;> omega) rfl ⟨rfl, HQ.out⟩
end Go.Proofs.Ytcolhgngiflkhaa
/- A plane in a box whose samples are appended one by one. -/
namespace Go.Proofs.Ytcolhgngiflkhaa
open Go.RowKit
set_option linter.unusedVariables false
set_option linter.unusedSimpArgs false

theorem uInfo : ∃ i, Try.prog.info? 31 = some i ∧ i.size = 1 ∧ i.bytes = 4 ∧ i.zero = some (.int .u32 0) := info_of (by kernel_rfl) (by kernel_rfl)
def newsS (S : List Nat) : List Value := S.map fun (x : Nat) => .int .u32 (x : Int)
structure Gp (w0 wr : World) (B : Nat) (pa pb : Int) (v : Value) (L : List Nat) (n : Nat) : Prop where
  len : n = L.length
  own : wr.ownsRow w0.heap.size 31 1 v n (newsS L)
  ap : v.ownBlock ≠ some B
  c0 : wr.cell? ⟨B, 0, none⟩ = some (.int .i64 pa)
  c1 : wr.cell? ⟨B, 1, none⟩ = some (.int .i64 pb)
  c2 : wr.cell? ⟨B, 2, none⟩ = some v
  fz : ∀ j, wr.frozen? ⟨B, j, none⟩ = false
  q : Q w0 wr
  lo : w0.heap.size ≤ B
theorem own_setS {w : World} {base n : Nat} {v : Value} {xs : List Value} (h : w.ownsRow base 31 1 v n xs) {p : Addr} (hp : v.ownBlock ≠ some p.block) (z : Value) : (w.setCell p z).ownsRow base 31 1 v n xs := by
  refine ⟨h.1, ?_⟩
  rcases h.2 with c | ⟨g, cap, cur, h1, h2, h3, h4⟩
  · exact Or.inl c
  · refine Or.inr ⟨g, cap, cur, h1, h2, ?_, h4⟩
    rw [Below.heap_setCell _ _ _ _ (fun e => hp (by rw [h1, e]; rfl))]
    exact h3
theorem own_uslS {w : World} {base n : Nat} {v : Value} {L : List Nat} (h : w.ownsRow base 31 1 v n (newsS L)) (hn : n = L.length) : USl w v L := by
  obtain ⟨_, ⟨rfl, h0⟩ | ⟨g, cap, cur, rfl, _, hh, hc, _, hsz, ht⟩⟩ := h
  · exact Or.inr ⟨_, _, rfl, List.eq_nil_of_length_eq_zero (by omega)⟩
  · subst hn
    refine Or.inl ⟨g, 0, cap, rfl, hc, fun i hi => ?_⟩
    have hg : cur.toList[i]? = some (.int .u32 ((L.getD i 0 : Nat) : Int)) := by
      have e : (cur.toList.take (L.length * 1))[i]? = (newsS L)[i]? := by rw [ht]
      rw [List.getElem?_take, if_pos (by omega)] at e
      rw [e]
      unfold newsS
      rw [List.getElem?_map, List.getElem?_eq_getElem hi, List.getD_eq_getElem?_getD, List.getElem?_eq_getElem hi]
      rfl
    rw [Nat.zero_add]
    unfold World.cell?
    rw [hh]
    rw [Array.getElem?_toList] at hg
    exact hg
theorem Gp.app {w0 wr : World} {B : Nat} {pa pb : Int} {v : Value} {L : List Nat} {n : Nat} (h : Gp w0 wr B pa pb v L n) (u : Nat) (hn : n ≤ 100000) :
    ∃ g c x2, (Builtin.append_ #[22, 22] 22 #[v, .slice (some ⟨wr.heap.size, 0, none⟩) 1 1]).run Try.prog (wr.alloc (.cells #[.int .u32 (u : Int)] 31)) = .ok (.slice (some ⟨g, 0, none⟩) (n + 1) c) x2 ∧
      x2.cell? ⟨B, 2, none⟩ = some v ∧ (∀ j, x2.frozen? ⟨B, j, none⟩ = false) ∧ Gp w0 (x2.setCell ⟨B, 2, none⟩ (.slice (some ⟨g, 0, none⟩) (n + 1) c)) B pa pb (.slice (some ⟨g, 0, none⟩) (n + 1) c) (L ++ [u]) (n + 1) := by
  obtain ⟨iu, i1, i2, i3, i4⟩ := uInfo
  have hq1 : Q w0 (wr.alloc (.cells #[.int .u32 (u : Int)] 31)) := h.q.cells _ _
  have hqa : Q wr (wr.alloc (.cells #[.int .u32 (u : Int)] 31)) := (Q.refl wr).cells _ _
  have hBw : B < wr.heap.size := World.block_lt_of_cell? _ _ h.c0
  obtain ⟨g, c, x2, r1, o1, q1, gb1, gg1⟩ := run_app_qg (P := Try.prog) (wr.alloc (.cells #[.int .u32 (u : Int)] 31)) w0 hq1 22 22 31 iu _ 1 4 Try.underlying22 i1 i4 i2 i3 rfl (by decide) v n _ (h.own.alloc _) ⟨wr.heap.size, 0, none⟩ 1 1 [.int .u32 (u : Int)] rfl (fun j z hz => by
    cases j with
    | zero => cases hz; show (wr.alloc (.cells #[.int .u32 (u : Int)] 31)).cell? ⟨wr.heap.size, 0, none⟩ = _; simp [go_sem]
    | succ j => cases hz) (fun z hz => by rw [List.mem_singleton.1 hz]; rfl) (by decide) (by unfold maxLen; omega) (by omega)
  have hgB : g ≠ B := by
    rcases gg1 with e | e
    · intro k; exact h.ap (by rw [e, k])
    · have : (wr.alloc (.cells #[.int .u32 (u : Int)] 31)).heap.size = wr.heap.size + 1 := by simp
      omega
  have hcell : ∀ {j z}, wr.cell? ⟨B, j, none⟩ = some z → x2.cell? ⟨B, j, none⟩ = some z := fun {j z} hz => by
    have h1 := hqa.cell hz
    have h2 := gb1.block B (by have := hqa.1.size; omega) (fun e => h.ap e.symm)
    exact (World.cell?_of_block h2).trans h1
  have hfz : ∀ j, x2.frozen? ⟨B, j, none⟩ = false := fun j => by rw [q1.2, ← h.q.2]; exact h.fz j
  have hap : newsS (L ++ [u]) = newsS L ++ [.int .u32 (u : Int)] := by simp [newsS]
  rw [← hap] at o1
  refine ⟨g, c, x2, r1, hcell h.c2, hfz, ?_⟩
  have hne : (Value.slice (some ⟨g, 0, none⟩) (n + 1) c).ownBlock ≠ some B := fun e => hgB (by cases e; rfl)
  exact ⟨by rw [List.length_append, h.len]; rfl, own_setS o1 hne _, hne,
    (World.cell?_setCell_other _ _ _ _ (fun e => by injection e with _ e; cases e)).trans (hcell h.c0),
    (World.cell?_setCell_other _ _ _ _ (fun e => by injection e with _ e; cases e)).trans (hcell h.c1),
    World.cell?_setCell_same _ _ _ (hcell h.c2), fun j => by rw [World.frozen?_setCell]; exact hfz j, q1.set h.lo _, h.lo⟩
end Go.Proofs.Ytcolhgngiflkhaa
/- Part, Need. -/
namespace Go.Proofs.Ytcolhgngiflkhaa
open Go.RowKit
set_option linter.unusedVariables false
set_option linter.unusedSimpArgs false

set_option maxHeartbeats 1000000 in
set_option maxRecDepth 100000 in
theorem isspan_any (lo hi n : Int) (w : World) (h1 : 0 ≤ lo) (h2 : lo < hi) (h3 : hi ≤ n) : Calls Try.prog 19 #[.int .i64 lo, .int .i64 hi, .int .i64 n] w fun e w' => e = .returned (.bool true) ∧ w' = w := by
  go_enter Try.func19, Try.ntmps19
  go_wp2_with fail
  go_ret
  exact ⟨by first | rfl | simp, rfl⟩
set_option maxHeartbeats 1000000 in
set_option maxRecDepth 100000 in
theorem within_any (x0 y0 x1 y1 W H : Int) (w : World) (h1 : 0 ≤ x0) (h2 : x0 < x1) (h3 : x1 ≤ W) (h4 : 0 ≤ y0) (h5 : y0 < y1) (h6 : y1 ≤ H) : Calls Try.prog 23 #[.agg #[.int .i64 x0, .int .i64 y0, .int .i64 x1, .int .i64 y1], .int .i64 W, .int .i64 H] w fun e w' => e = .returned (.bool true) ∧ Q w w' := by
  obtain ⟨w1, hw1⟩ : ∃ w1, w.alloc (.cells #[.int .i64 x0, .int .i64 y0, .int .i64 x1, .int .i64 y1] 40) = w1 := ⟨_, rfl⟩
  have q1 : Q w w1 := by rw [← hw1]; exact (Q.refl w).cells _ _
  have k0 : w1.cell? ⟨w.heap.size, 0, none⟩ = some (.int .i64 x0) := by rw [← hw1]; simp [go_sem]
  have k1 : w1.cell? ⟨w.heap.size, 1, none⟩ = some (.int .i64 y0) := by rw [← hw1]; simp [go_sem]
  have k2 : w1.cell? ⟨w.heap.size, 2, none⟩ = some (.int .i64 x1) := by rw [← hw1]; simp [go_sem]
  have k3 : w1.cell? ⟨w.heap.size, 3, none⟩ = some (.int .i64 y1) := by rw [← hw1]; simp [go_sem]
  have C1 := isspan_any x0 x1 W w1 h1 h2 h3
  have C2 := isspan_any y0 y1 H w1 h4 h5 h6
  have HQ : Hid (Q w w1) := q1
  clear q1 h1 h2 h3 h4 h5 h6
  go_enter Try.func23, Try.ntmps23
  go_wp2_with fail
  refine C1.mono ?_
  rintro e w2 ⟨rfl, hw2⟩
  obtain rfl := hw2.symm
  go_wp2_with fail
  refine C2.mono ?_
  rintro e w3 ⟨rfl, hw3⟩
  obtain rfl := hw3.symm
  go_wp2_with fail
  go_ret
  exact ⟨rfl, HQ.out⟩
set_option maxHeartbeats 2000000 in
set_option maxRecDepth 100000 in
theorem part_good (kind : Int) (pa pb W H x0 y0 nx ny : Nat) (x1 y1 : Int) (sv : Value) (S : List Nat) (w : World) (hsv : USl w sv S) (hS : S.length = pa * pb) (hb : ∀ i, S.getD i 0 < 4294967296) (hE : plnE pa pb S.length kind W H = 0) (hsz : Size pa pb) (hWH : Size W H)
    (hx : x1 = ((x0 + nx : Nat) : Int)) (hy : y1 = ((y0 + ny : Nat) : Int)) (hx1 : 1 ≤ nx) (hy1 : 1 ≤ ny) (hxW : x0 + nx ≤ W) (hyH : y0 + ny ≤ H) :
    Calls Try.prog 13 #[.agg #[.int .i64 (pa : Int), .int .i64 (pb : Int), sv], .int .i64 kind, .int .i64 (W : Int), .int .i64 (H : Int), .agg #[.int .i64 (x0 : Int), .int .i64 (y0 : Int), .int .i64 x1, .int .i64 y1]] w fun e w' => ∃ g, e = .returned (.tuple #[.agg #[.int .i64 (nx : Int), .int .i64 (ny : Int), .slice (some ⟨g, 0, none⟩) (nx * ny) (nx * ny)], .int .i64 0]) ∧ URow w' g (tabN (nx * ny) fun i => whlV kind pa pb W H S (x0 + i % nx) (y0 + i / nx)) ∧ w.heap.size ≤ g ∧ Q w w' := by
  obtain ⟨ad, c, rfl⟩ := hsv.form
  have hE1 : tapE kind pa W 0 = 0 ∧ tapE kind pb H 0 = 0 := by
    unfold plnE at hE
    split at hE
    · split at hE
      · split at hE
        · rename_i h; exact ⟨h, hE⟩
        · rename_i h; exact absurd hE h
      · cases hE
    · rename_i h; exact absurd hE h
  have hSl : S.length ≤ 65536 := by rw [hS]; exact hsz.ab
  obtain ⟨w1, hw1⟩ : ∃ w1, ((w.alloc (.cells #[.int .i64 (pa : Int), .int .i64 (pb : Int), .slice ad S.length c] 24)).alloc (.cells #[.int .i64 (x0 : Int), .int .i64 (y0 : Int), .int .i64 x1, .int .i64 y1] 40)).alloc (.cells #[.int .i64 0, .int .i64 0, .slice none 0 0] 24) = w1 := ⟨_, rfl⟩
  have q1 : Q w w1 := by rw [← hw1]; exact (((Q.refl w).cells _ _).cells _ _).cells _ _
  have k0 : w1.cell? ⟨w.heap.size, 0, none⟩ = some (.int .i64 (pa : Int)) := by rw [← hw1]; simp [go_sem]
  have k1 : w1.cell? ⟨w.heap.size, 1, none⟩ = some (.int .i64 (pb : Int)) := by rw [← hw1]; simp [go_sem]
  have k2 : w1.cell? ⟨w.heap.size, 2, none⟩ = some (.slice ad S.length c) := by rw [← hw1]; simp [go_sem]
  have r0 : w1.cell? ⟨w.heap.size + 1, 0, none⟩ = some (.int .i64 (x0 : Int)) := by rw [← hw1]; simp [go_sem]
  have r1 : w1.cell? ⟨w.heap.size + 1, 1, none⟩ = some (.int .i64 (y0 : Int)) := by rw [← hw1]; simp [go_sem]
  have r2 : w1.cell? ⟨w.heap.size + 1, 2, none⟩ = some (.int .i64 x1) := by rw [← hw1]; simp [go_sem]
  have r3 : w1.cell? ⟨w.heap.size + 1, 3, none⟩ = some (.int .i64 y1) := by rw [← hw1]; simp [go_sem]
  have HR : Hid (w1.cell? ⟨w.heap.size + 1 + 1, 0, none⟩ = some (.int .i64 0) ∧ w1.cell? ⟨w.heap.size + 1 + 1, 1, none⟩ = some (.int .i64 0) ∧ w1.cell? ⟨w.heap.size + 1 + 1, 2, none⟩ = some (.slice none 0 0) ∧ (∀ j, w1.frozen? ⟨w.heap.size + 1 + 1, j, none⟩ = false) ∧ w1.heap.size = w.heap.size + 3) := by
    rw [← hw1]
    exact ⟨by simp [go_sem], by simp [go_sem], by simp [go_sem], fun j => by simp [go_sem], by simp⟩
  have C1 := refplane_any pa pb ad S.length c kind W H (by omega) w1
  rw [hE] at C1
  have HCw : Hid (∀ x : World, Calls Try.prog 23 #[.agg #[.int .i64 (x0 : Int), .int .i64 (y0 : Int), .int .i64 x1, .int .i64 y1], .int .i64 (W : Int), .int .i64 (H : Int)] x fun e w' => e = .returned (.bool true) ∧ Q x w') := fun x => within_any x0 y0 x1 y1 W H x (by omega) (by omega) (by omega) (by omega) (by omega) (by omega)
  have HC2 : Hid (∀ x : World, Q w x → Calls Try.prog 17 #[.agg #[.int .i64 (pa : Int), .int .i64 (pb : Int), .slice ad S.length c], .int .i64 kind, .int .i64 (W : Int), .int .i64 (H : Int), .agg #[.int .i64 (x0 : Int), .int .i64 (y0 : Int), .int .i64 x1, .int .i64 y1]] x fun e w' => ∃ g, e = .returned (.agg #[.int .i64 (nx : Int), .int .i64 (ny : Int), .slice (some ⟨g, 0, none⟩) (nx * ny) (nx * ny)]) ∧ URow w' g (tabN (nx * ny) fun i => whlV kind pa pb W H S (x0 + i % nx) (y0 + i / nx)) ∧ x.heap.size ≤ g ∧ Q x w') := fun x q => piece_rect kind pa pb W H x0 y0 nx ny x1 y1 (.slice ad S.length c) S x (hsv.next q) hsz hS hb hE1.1 hE1.2 hx hy hx1 hy1 hxW hyH hWH.a2 hWH.b2
  have HQ1 : Hid (Q w w1) := q1
  have HK : Hid (w1.cell? ⟨w.heap.size, 0, none⟩ = some (.int .i64 (pa : Int)) ∧ w1.cell? ⟨w.heap.size, 1, none⟩ = some (.int .i64 (pb : Int)) ∧ w1.cell? ⟨w.heap.size, 2, none⟩ = some (.slice ad S.length c)) := ⟨k0, k1, k2⟩
  have HK2 : Hid (w1.cell? ⟨w.heap.size + 1, 0, none⟩ = some (.int .i64 (x0 : Int)) ∧ w1.cell? ⟨w.heap.size + 1, 1, none⟩ = some (.int .i64 (y0 : Int)) ∧ w1.cell? ⟨w.heap.size + 1, 2, none⟩ = some (.int .i64 x1) ∧ w1.cell? ⟨w.heap.size + 1, 3, none⟩ = some (.int .i64 y1)) := ⟨r0, r1, r2, r3⟩
  obtain ⟨FL, hFL⟩ : ∃ FL, (tabN (nx * ny) fun i => whlV kind pa pb W H S (x0 + i % nx) (y0 + i / nx)) = FL := ⟨_, rfl⟩
  rw [hFL] at HC2 ⊢
  obtain ⟨n, hn⟩ : ∃ n, nx * ny = n := ⟨_, rfl⟩
  rw [hn] at HC2 ⊢
  generalize S.length = sl at *
  clear q1 hsv hS hb hE hE1 hsz hWH hFL hn hSl hx hy hx1 hy1 hxW hyH
  go_enter Try.func13, Try.ntmps13
  go_wp2_with fail
  refine C1.mono ?_
  rintro e w2 ⟨rfl, q2⟩
  clear C1 k0 k1 k2 r0 r1 r2 r3
  have r0 := q2.cell HK2.out.1
  have r1 := q2.cell HK2.out.2.1
  have r2 := q2.cell HK2.out.2.2.1
  have r3 := q2.cell HK2.out.2.2.2
  have HQ2 : Hid (Q w1 w2) := q2
  clear q2 hw1
  go_wp2_with fail
  refine (HCw.out w2).mono ?_
  rintro e w2b ⟨rfl, q2b⟩
  clear r0 r1 r2 r3
  have HQ2b : Hid (Q w1 w2b) := HQ2.out.trans q2b
  clear q2b
  have k0 := HQ2b.out.cell HK.out.1
  have k1 := HQ2b.out.cell HK.out.2.1
  have k2 := HQ2b.out.cell HK.out.2.2
  have r0 := HQ2b.out.cell HK2.out.1
  have r1 := HQ2b.out.cell HK2.out.2.1
  have r2 := HQ2b.out.cell HK2.out.2.2.1
  have r3 := HQ2b.out.cell HK2.out.2.2.2
  go_wp2_with fail
  refine (HC2.out w2b (HQ1.out.trans HQ2b.out)).mono ?_
  rintro e w3 ⟨g, rfl, hu, hl, q3⟩
  have o0 := (HQ2b.out.trans q3).cell HR.out.1
  have o1 := (HQ2b.out.trans q3).cell HR.out.2.1
  have o2 := (HQ2b.out.trans q3).cell HR.out.2.2.1
  have fo : ∀ j, w3.frozen? ⟨w.heap.size + 1 + 1, j, none⟩ = false := fun j => by rw [(HQ2b.out.trans q3).2]; exact HR.out.2.2.2.1 j
  have fo0 := fo 0
  have fo1 := fo 1
  have fo2 := fo 2
  obtain ⟨w9, hw9⟩ : ∃ w9, ((w3.setCell ⟨w.heap.size + 1 + 1, 0, none⟩ (.int .i64 (nx : Int))).setCell ⟨w.heap.size + 1 + 1, 1, none⟩ (.int .i64 (ny : Int))).setCell ⟨w.heap.size + 1 + 1, 2, none⟩ (.slice (some ⟨g, 0, none⟩) n n) = w9 := ⟨_, rfl⟩
  have hgg : w.heap.size + 1 + 1 ≠ g := by
    have := HQ2b.out.1.size
    have := HR.out.2.2.2.2
    omega
  have HW : Hid (URow w9 g FL ∧ w.heap.size ≤ g ∧ Q w w9) := by
    refine ⟨?_, ?_, ?_⟩
    · rw [← hw9]
      exact ((hu.other (p := ⟨w.heap.size + 1 + 1, 0, none⟩) hgg _).other (p := ⟨w.heap.size + 1 + 1, 1, none⟩) hgg _).other (p := ⟨w.heap.size + 1 + 1, 2, none⟩) hgg _
    · have := (HQ1.out.trans HQ2b.out).1.size
      omega
    · rw [← hw9]
      have hl' : w.heap.size ≤ w.heap.size + 1 + 1 := by omega
      exact (((HQ1.out.trans (HQ2b.out.trans q3)).set hl' _).set hl' _).set hl' _
  have v0 : w9.cell? ⟨w.heap.size + 1 + 1, 0, none⟩ = some (.int .i64 (nx : Int)) := by
    rw [← hw9, World.cell?_setCell_other _ _ _ _ (fun e => by injection e with _ e; cases e), World.cell?_setCell_other _ _ _ _ (fun e => by injection e with _ e; cases e)]; exact World.cell?_setCell_same _ _ _ o0
  have v1 : w9.cell? ⟨w.heap.size + 1 + 1, 1, none⟩ = some (.int .i64 (ny : Int)) := by
    rw [← hw9, World.cell?_setCell_other _ _ _ _ (fun e => by injection e with _ e; cases e)]; exact World.cell?_setCell_same _ _ _ ((World.cell?_setCell_other _ _ _ _ (fun e => by injection e with _ e; cases e)).trans o1)
  have v2 : w9.cell? ⟨w.heap.size + 1 + 1, 2, none⟩ = some (.slice (some ⟨g, 0, none⟩) n n) := by
    rw [← hw9]; exact World.cell?_setCell_same _ _ _ ((World.cell?_setCell_other _ _ _ _ (fun e => by injection e with _ e; cases e)).trans ((World.cell?_setCell_other _ _ _ _ (fun e => by injection e with _ e; cases e)).trans o2))
  have HW9 : Hid _ := hw9
  clear fo hu hl q3 hw9 k0 k1 k2 r0 r1 r2 r3
  go_wp2_with fail
  rw [HW9.out]
  exact bodyPost_ret (v := .tuple #[.agg #[.int .i64 (nx : Int), .int .i64 (ny : Int), .slice (some ⟨g, 0, none⟩) n n], .int .i64 0]) (by simp [results, Try.results13, go_sem, v0, v1, v2]) rfl ⟨g, rfl, HW.out.1, HW.out.2.1, HW.out.2.2⟩
set_option maxHeartbeats 2000000 in
set_option maxRecDepth 100000 in
theorem need_good (kind : Int) (F T lo n : Nat) (hi : Int) (w : World) (hhi : hi = ((lo + n : Nat) : Int)) (hE : tapE kind F T 0 = 0) (hn : 1 ≤ n) (hT : lo + n ≤ T) (hF1 : 1 ≤ F) (hF2 : F ≤ 1024) (hT2 : T ≤ 1024) :
    Calls Try.prog 12 #[.int .i64 kind, .int .i64 (F : Int), .int .i64 (T : Int), .int .i64 (lo : Int), .int .i64 hi] w fun e w' => e = .returned (.tuple #[.int .i64 (fstS ((List.range n).map fun (k : Nat) => tpA kind F T ((lo + k : Nat) : Int)) n), .int .i64 (endS ((List.range n).map fun (k : Nat) => tpA kind F T ((lo + k : Nat) : Int)) n), .int .i64 0]) ∧ Q w w' := by
  have HR : Hid (∀ (k : Int) (W : World), 1 ≤ k → k ≤ 1024 → Calls Try.prog 18 #[.int .i64 k] W fun e w' => e = .returned (.bool true) ∧ w' = W) := fun k W h1 h2 => by have := sside_any k W; rw [decide_eq_true ⟨h1, h2⟩] at this; exact this
  have Csp := isspan_any lo hi T w (by omega) (by omega) (by omega)
  have C := refusal_any kind F T w
  rw [hE] at C
  have HC2 : Hid (∀ x : World, Calls Try.prog 21 #[.int .i64 kind, .int .i64 (F : Int), .int .i64 (T : Int), .int .i64 (lo : Int), .int .i64 hi] x fun e x' => ∃ v, e = .returned v ∧ LnJ x.heap.size x'.heap.size x' v ((List.range n).map fun (k : Nat) => tpA kind F T ((lo + k : Nat) : Int)) ∧ Q x x') := fun x => line_j kind F T lo n hi hhi hE hn hT hT2 x
  have HC3 : Hid (∀ (v : Value) (x : World), LnX x v ((List.range n).map fun (k : Nat) => tpA kind F T ((lo + k : Nat) : Int)) → Calls Try.prog 22 #[v] x fun e w' => e = .returned (.tuple #[.int .i64 (fstS ((List.range n).map fun (k : Nat) => tpA kind F T ((lo + k : Nat) : Int)) n), .int .i64 (endS ((List.range n).map fun (k : Nat) => tpA kind F T ((lo + k : Nat) : Int)) n)]) ∧ Q x w') := fun v x hv => by
    have := span_any v _ F x hv (by rw [List.length_map, List.length_range]; omega) hF2 (fun L hL => by
      obtain ⟨k, hk, rfl⟩ := List.mem_map.1 hL
      have := List.mem_range.1 hk
      have h1 := tpA_tok (tapE_at hE (k := lo + k) (by omega))
      rw [Int.toNat_natCast] at h1
      exact h1)
    rw [List.length_map, List.length_range] at this
    exact this
  generalize (List.range n).map (fun (k : Nat) => tpA kind F T ((lo + k : Nat) : Int)) = Ls at *
  generalize fstS Ls n = f1 at *
  generalize endS Ls n = e1 at *
  have a1 : (1 : Int) ≤ (F : Int) := by omega
  have a2 : (F : Int) ≤ 1024 := by omega
  have b1 : (1 : Int) ≤ (T : Int) := by omega
  have b2 : (T : Int) ≤ 1024 := by omega
  clear hE hhi hn hT hF1 hF2 hT2
  go_enter Try.func12, Try.ntmps12
  go_wp2_with (first | (go_at_call 18; first | (refine (HR.out F _ a1 a2).mono ?_; rintro e w' ⟨rfl, hw⟩; obtain rfl := hw.symm) | (refine (HR.out T _ b1 b2).mono ?_; rintro e w' ⟨rfl, hw⟩; obtain rfl := hw.symm)) | (go_at_call 19; refine Csp.mono ?_; rintro e w' ⟨rfl, hw⟩; obtain rfl := hw.symm))
  refine C.mono ?_
  rintro e w1 ⟨rfl, q1⟩
  clear C Csp
  have HQ : Hid (Q w w1) := q1
  clear q1
  go_wp2_with fail
  refine (HC2.out w1).mono ?_
  rintro e w2 ⟨v2, rfl, l2, q2⟩
  have C3 := HC3.out v2 w2 l2.x
  have HQ2 : Hid (Q w w2) := HQ.out.trans q2
  clear l2 q2
  go_wp2_with fail
  refine C3.mono ?_
  rintro e w3 ⟨rfl, q3⟩
  clear C3
  have HQ3 : Hid (Q w w3) := HQ2.out.trans q3
  clear q3
  go_wp2_with fail
  go_ret3
  exact ⟨rfl, HQ3.out⟩
end Go.Proofs.Ytcolhgngiflkhaa
/- Lists of samples that are the same. -/
namespace Go.Proofs.Ytcolhgngiflkhaa
open Go.RowKit
set_option linter.unusedVariables false
set_option linter.unusedSimpArgs false

set_option maxHeartbeats 4000000 in
set_option maxRecDepth 100000 in
theorem words_eq (v v' : Value) (xs : List Nat) (w : World) (h : USl w v xs) (h' : USl w v' xs) (hn : xs.length ≤ 9223372036854775807) :
    Calls Try.prog 15 #[v, v'] w fun e w' => e = .returned (.bool true) ∧ Q w w' := by
  obtain ⟨a, cap, ev⟩ := h.form
  obtain ⟨a', cap', ev'⟩ := h'.form
  subst ev ev'
  have HS : Hid (USl w (.slice a xs.length cap) xs) := h
  have HT : Hid (USl w (.slice a' xs.length cap') xs) := h'
  obtain ⟨n, en⟩ : ∃ n, xs.length = n := ⟨_, rfl⟩
  have HN : Hid (xs.length = n) := en
  rw [en] at HS HT hn ⊢
  have hnn : ((n : Int) == (n : Int)) = true := by simp
  clear h h' en
  go_enter Try.func15, Try.ntmps15
  go_wp2_with fail
  go_loopg [5] n (fun m s5 wx => ∃ i : Nat, s5 = .int .i64 i ∧ i + m = n ∧ Hid (Q w wx))
  case atStart => exact ⟨0, rfl, by omega, Q.refl w⟩
  case round =>
    obtain ⟨i, rfl, him, HQ⟩ := hrel
    by_cases hi : i < n
    · have hi0 : (0 : Int) ≤ (i : Int) := by omega
      have hi1 : (i : Int) < (n : Int) := by omega
      obtain ⟨g, o, c, e1, e2, e3⟩ := HS.out.some (by rw [HN.out]; omega)
      obtain ⟨g', o', c', f1, f2, f3⟩ := HT.out.some (by rw [HN.out]; omega)
      injection e1 with e1 hh1 hh2
      clear hh1 hh2
      injection f1 with f1 hh1 hh2
      clear hh1 hh2
      subst e1 f1
      have c1 := HQ.out.cell (e3 i (by rw [HN.out]; exact hi))
      have c2 := HQ.out.cell (f3 i (by rw [HN.out]; exact hi))
      obtain ⟨z, hz⟩ : ∃ z, xs.getD i 0 = z := ⟨_, rfl⟩
      rw [hz] at c1 c2
      have hzz : ((z : Int) == (z : Int)) = true := by simp
      have n0 := qw_some wr
      have d1 := qw_cell c1
      have d2 := qw_cell c2
      clear hz e2 e3 f2 f3
      go_wp2_with fail
      refine wp_region_quiet_Q (by kernel_rfl) (by kernel_rfl) ?_
      repeat (first | go_big_quiet_step (fail) | quiet_step (fail))
      refine wpQuiet_nil ?_
      intro w4 hw'
      have hq4 := qw_out hw'
      have HQ4 : Hid (Q w w4) := HQ.out.trans hq4
      clear hw' n0 d1 d2
      go_wp2_with fail
      go_roundg (n - (i + 1))
      case measure => go_light; omega
      case rel => go_light; exact ⟨i + 1, by go_num, by omega, HQ4⟩
    · have hie : i = n := by omega
      go_wp2_with fail
      go_ret
      exact ⟨rfl, HQ.out⟩
end Go.Proofs.Ytcolhgngiflkhaa
/- The chapter's examples: what they come to. -/
namespace Go.Proofs.Ytcolhgngiflkhaa
open Go.RowKit
set_option linter.unusedVariables false
set_option linter.unusedSimpArgs false

theorem tp_eq {kind F T i : Int} {L M : List (Int × Int)} {S : Int} (hE : tapE kind F T i = 0) (hw : wlsV kind F.toNat T.toNat i.toNat = L) (hs : sumF (zf (L.map Prod.snd)) L.length = S) (hm : missV (zf (L.map Prod.snd)) S L.length = 0) (hM : tpK L (flo (zf (L.map Prod.snd)) S) L.length = M) : tpA kind F T i = M := by
  unfold tpA
  rw [if_pos hE, hw]
  unfold tapsL
  have e : shrV (zf (L.map Prod.snd)) L.length = flo (zf (L.map Prod.snd)) S := by
    funext k
    unfold shrV; rw [hs, hm]; exact shrK_zero _ _ _ _
  rw [e, hM]
theorem t240 : tpA 2 2 4 0 = [(0, 65536)] := tp_eq (L := [(0, 8)]) (S := 8) (by decide) (by decide) (by decide) (by decide) (by decide)
theorem t241 : tpA 2 2 4 1 = [(0, 49152), (1, 16384)] := tp_eq (L := [(0, 6), (1, 2)]) (S := 8) (by decide) (by decide) (by decide) (by decide) (by decide)
theorem t242 : tpA 2 2 4 2 = [(0, 16384), (1, 49152)] := tp_eq (L := [(0, 2), (1, 6)]) (S := 8) (by decide) (by decide) (by decide) (by decide) (by decide)
theorem t243 : tpA 2 2 4 3 = [(1, 65536)] := tp_eq (L := [(1, 8)]) (S := 8) (by decide) (by decide) (by decide) (by decide) (by decide)
theorem b320 : tpA 1 3 2 0 = [(0, 65536)] := tp_eq (L := [(0, 1)]) (S := 1) (by decide) (by decide) (by decide) (by decide) (by decide)
theorem b321 : tpA 1 3 2 1 = [(1, 32768), (2, 32768)] := tp_eq (L := [(1, 1), (2, 1)]) (S := 2) (by decide) (by decide) (by decide) (by decide) (by decide)
theorem b210 : tpA 1 2 1 0 = [(0, 32768), (1, 32768)] := tp_eq (L := [(0, 1), (1, 1)]) (S := 2) (by decide) (by decide) (by decide) (by decide) (by decide)
theorem t110 : tpA 2 1 1 0 = [(0, 65536)] := tp_eq (L := [(0, 2)]) (S := 2) (by decide) (by decide) (by decide) (by decide) (by decide)
theorem row1 : rowL [0, 1065353216] 2 4 = [0, 1048576000, 1061158912, 1065353216] := by
  unfold rowL
  show [smpV (tpA 2 2 4 0) [0, 1065353216], smpV (tpA 2 2 4 1) [0, 1065353216], smpV (tpA 2 2 4 2) [0, 1065353216], smpV (tpA 2 2 4 3) [0, 1065353216]] = _
  rw [t240, t241, t242, t243]
  decide +kernel
theorem row2 : rowL [1065353216, 1073741824, 1082130432] 1 2 = [1065353216, 1077936128] := by
  unfold rowL
  show [smpV (tpA 1 3 2 0) [1065353216, 1073741824, 1082130432], smpV (tpA 1 3 2 1) [1065353216, 1073741824, 1082130432]] = _
  rw [b320, b321]
  decide +kernel
theorem pln1 : (tabN (1 * 1) fun i => whlV 1 2 2 1 1 [0, 1065353216, 1073741824, 1077936128] (i % 1) (i / 1)) = [1069547520] := by
  show [whlV 1 2 2 1 1 [0, 1065353216, 1073741824, 1077936128] 0 0] = _
  unfold whlV colV
  show [smpV (tpA 1 2 1 0) (tabN 2 fun y => smpV (tpA 1 2 1 0) (List.drop (y * 2) [0, 1065353216, 1073741824, 1077936128]))] = _
  rw [b210]
  decide +kernel
theorem prt1 : (tabN (2 * 1) fun i => whlV 2 2 1 4 1 [0, 1065353216] (1 + i % 2) (0 + i / 2)) = [1048576000, 1061158912] := by
  show [whlV 2 2 1 4 1 [0, 1065353216] 1 0, whlV 2 2 1 4 1 [0, 1065353216] 2 0] = _
  unfold whlV colV
  show [smpV (tpA 2 1 1 0) (tabN 1 fun y => smpV (tpA 2 2 4 1) (List.drop (y * 2) [0, 1065353216])), smpV (tpA 2 1 1 0) (tabN 1 fun y => smpV (tpA 2 2 4 2) (List.drop (y * 2) [0, 1065353216]))] = _
  rw [t110, t241, t242]
  decide +kernel
theorem ned1 : fstS ((List.range 2).map fun (k : Nat) => tpA 2 2 4 ((0 + k : Nat) : Int)) 2 = 0 ∧ endS ((List.range 2).map fun (k : Nat) => tpA 2 2 4 ((0 + k : Nat) : Int)) 2 = 2 := by
  have e : ((List.range 2).map fun (k : Nat) => tpA 2 2 4 ((0 + k : Nat) : Int)) = [[(0, 65536)], [(0, 49152), (1, 16384)]] := by
    show [tpA 2 2 4 0, tpA 2 2 4 1] = _
    rw [t240, t241]
  rw [e]
  decide
end Go.Proofs.Ytcolhgngiflkhaa
/- The chapter's examples: known. -/
namespace Go.Proofs.Ytcolhgngiflkhaa
open Go.RowKit
set_option linter.unusedVariables false
set_option linter.unusedSimpArgs false

theorem usl_lit {W w' : World} {M : Array Value} {t : TypeId} {xs : List Nat} (hM : M = (xs.map fun x : Nat => Value.int .u32 (x : Nat)).toArray) (q : Q (W.alloc (.cells M t)) w') : USl w' (.slice (some ⟨W.heap.size, 0, none⟩) xs.length xs.length) xs := by
  have hb : (W.alloc (.cells M t)).heap[W.heap.size]? = some (.cells M t (0, 0)) := heap_alloc_new W _
  have h : UIs (W.alloc (.cells M t)) W.heap.size 0 xs := fun i hi => by
    rw [Nat.zero_add, cell_of_row _ _ i _ t (0, 0) hb, hM, List.getElem?_toArray, List.getElem?_map, List.getElem?_eq_getElem hi, List.getD_eq_getElem?_getD, List.getElem?_eq_getElem hi]
    rfl
  exact (h.next q).usl (Nat.le_refl _)
theorem lit_bd {xs : List Nat} (h : ∀ x ∈ xs, x < 4294967296) (i : Nat) : xs.getD i 0 < 4294967296 := by
  rw [List.getD_eq_getElem?_getD]
  cases g : xs[i]? with
  | none => show 0 < 4294967296; decide
  | some x => exact h x (List.mem_of_getElem? g)
set_option maxHeartbeats 4000000 in
set_option maxRecDepth 100000 in
theorem known10_any (w : World) : Calls Try.prog 6 #[] w fun e w' => e = .returned (.bool true) ∧ Q w w' := by
  have HC1 : Hid (∀ W : World, Calls Try.prog 14 #[.slice (some ⟨W.heap.size, 0, none⟩) 2 2, .int .i64 2, .int .i64 4] (W.alloc (.cells #[.int .u32 0, .int .u32 1065353216] 31)) fun e w' => ∃ b, e = .returned (.tuple #[.slice (some ⟨b, 0, none⟩) 4 4, .int .i64 0]) ∧ Own (W.alloc (.cells #[.int .u32 0, .int .u32 1065353216] 31)) w' b [0, 1048576000, 1061158912, 1065353216]) := fun W => by
    have := row_good (.slice (some ⟨W.heap.size, 0, none⟩) 2 2) [0, 1065353216] 2 4 (W.alloc (.cells #[.int .u32 0, .int .u32 1065353216] 31)) (usl_lit (xs := [0, 1065353216]) rfl (Q.refl _)) (lit_bd (by decide)) (by decide)
    rw [row1] at this
    exact this
  have HC2 : Hid (∀ W : World, Calls Try.prog 14 #[.slice (some ⟨W.heap.size, 0, none⟩) 3 3, .int .i64 1, .int .i64 2] (W.alloc (.cells #[.int .u32 1065353216, .int .u32 1073741824, .int .u32 1082130432] 31)) fun e w' => ∃ b, e = .returned (.tuple #[.slice (some ⟨b, 0, none⟩) 2 2, .int .i64 0]) ∧ Own (W.alloc (.cells #[.int .u32 1065353216, .int .u32 1073741824, .int .u32 1082130432] 31)) w' b [1065353216, 1077936128]) := fun W => by
    have := row_good (.slice (some ⟨W.heap.size, 0, none⟩) 3 3) [1065353216, 1073741824, 1082130432] 1 2 (W.alloc (.cells #[.int .u32 1065353216, .int .u32 1073741824, .int .u32 1082130432] 31)) (usl_lit (xs := [1065353216, 1073741824, 1082130432]) rfl (Q.refl _)) (lit_bd (by decide)) (by decide)
    rw [row2] at this
    exact this
  have HC3 : Hid (∀ W : World, Calls Try.prog 14 #[.slice none 0 0, .int .i64 1, .int .i64 1] W fun e w' => e = .returned (.tuple #[.slice none 0 0, .int .i64 100]) ∧ Q W w') := fun W => row_bad (.slice none 0 0) [] 1 1 W (Or.inr ⟨_, _, rfl, rfl⟩) (by decide) (by decide)
  have HC4 : Hid (∀ W : World, Calls Try.prog 8 #[.agg #[.int .i64 2, .int .i64 2, .slice (some ⟨W.heap.size, 0, none⟩) 4 4], .int .i64 1, .int .i64 1, .int .i64 1] (W.alloc (.cells #[.int .u32 0, .int .u32 1065353216, .int .u32 1073741824, .int .u32 1077936128] 31)) fun e w' => ∃ g, e = .returned (.tuple #[.agg #[.int .i64 1, .int .i64 1, .slice (some ⟨g, 0, none⟩) 1 1], .int .i64 0]) ∧ URow w' g [1069547520] ∧ Q (W.alloc (.cells #[.int .u32 0, .int .u32 1065353216, .int .u32 1073741824, .int .u32 1077936128] 31)) w') := fun W => by
    have := plane_good 1 2 2 1 1 (.slice (some ⟨W.heap.size, 0, none⟩) 4 4) [0, 1065353216, 1073741824, 1077936128] (W.alloc (.cells #[.int .u32 0, .int .u32 1065353216, .int .u32 1073741824, .int .u32 1077936128] 31)) (usl_lit (xs := [0, 1065353216, 1073741824, 1077936128]) rfl (Q.refl _)) rfl (lit_bd (by decide)) (by decide) ⟨by decide, by decide, by decide, by decide, by decide⟩ ⟨by decide, by decide, by decide, by decide, by decide⟩
    rw [pln1] at this
    exact this.mono fun e w' ⟨g, h1, h2, _, h4⟩ => ⟨g, h1, h2, h4⟩
  have HC5 : Hid (∀ W : World, Calls Try.prog 13 #[.agg #[.int .i64 2, .int .i64 1, .slice (some ⟨W.heap.size, 0, none⟩) 2 2], .int .i64 2, .int .i64 4, .int .i64 1, .agg #[.int .i64 1, .int .i64 0, .int .i64 3, .int .i64 1]] (W.alloc (.cells #[.int .u32 0, .int .u32 1065353216] 31)) fun e w' => ∃ g, e = .returned (.tuple #[.agg #[.int .i64 2, .int .i64 1, .slice (some ⟨g, 0, none⟩) 2 2], .int .i64 0]) ∧ URow w' g [1048576000, 1061158912] ∧ Q (W.alloc (.cells #[.int .u32 0, .int .u32 1065353216] 31)) w') := fun W => by
    have := part_good 2 2 1 4 1 1 0 2 1 3 1 (.slice (some ⟨W.heap.size, 0, none⟩) 2 2) [0, 1065353216] (W.alloc (.cells #[.int .u32 0, .int .u32 1065353216] 31)) (usl_lit (xs := [0, 1065353216]) rfl (Q.refl _)) rfl (lit_bd (by decide)) (by decide) ⟨by decide, by decide, by decide, by decide, by decide⟩ ⟨by decide, by decide, by decide, by decide, by decide⟩ rfl rfl (by decide) (by decide) (by decide) (by decide)
    rw [prt1] at this
    exact this.mono fun e w' ⟨g, h1, h2, _, h4⟩ => ⟨g, h1, h2, h4⟩
  have HC6 : Hid (∀ W : World, Calls Try.prog 12 #[.int .i64 2, .int .i64 2, .int .i64 4, .int .i64 0, .int .i64 2] W fun e w' => e = .returned (.tuple #[.int .i64 0, .int .i64 2, .int .i64 0]) ∧ Q W w') := fun W => by
    have := need_good 2 2 4 0 2 2 W rfl (by decide) (by decide) (by decide) (by decide) (by decide) (by decide)
    refine this.mono fun e w' ⟨h1, h2⟩ => ⟨h1.trans ?_, h2⟩
    show Ending.returned (.tuple #[.int .i64 (fstS ((List.range 2).map fun (k : Nat) => tpA 2 2 4 ((0 + k : Nat) : Int)) 2), .int .i64 (endS ((List.range 2).map fun (k : Nat) => tpA 2 2 4 ((0 + k : Nat) : Int)) 2), .int .i64 0]) = _
    rw [ned1.1, ned1.2]
  have HWd : Hid (∀ (v : Value) (xs : List Nat) (W w' : World) (M : Array Value), USl w' v xs → M = (xs.map fun x : Nat => Value.int .u32 (x : Nat)).toArray → w' = W.alloc (.cells M 31) → xs.length ≤ 100 → Calls Try.prog 15 #[v, .slice (some ⟨W.heap.size, 0, none⟩) xs.length xs.length] w' fun e w'' => e = .returned (.bool true) ∧ Q w' w'') := fun v xs W w' M h hM hw hl => by
    subst hw
    exact words_eq _ _ xs _ h (usl_lit hM (Q.refl _)) (by omega)
  go_enter Try.func6, Try.ntmps6
  go_wp2_with fail
  refine (HC1.out w).mono ?_
  rintro e w1 ⟨b1, rfl, o1⟩
  have H1 : Hid (USl w1 (.slice (some ⟨b1, 0, none⟩) 4 4) [0, 1048576000, 1061158912, 1065353216] ∧ Q w w1) := ⟨o1.cells.usl (cap := 4) (by decide), ((Q.refl w).cells _ _).trans o1.q⟩
  clear o1
  go_wp2_with fail
  refine (HC2.out w1).mono ?_
  rintro e w2 ⟨b2, rfl, o2⟩
  have H2 : Hid (USl w2 (.slice (some ⟨b1, 0, none⟩) 4 4) [0, 1048576000, 1061158912, 1065353216] ∧ USl w2 (.slice (some ⟨b2, 0, none⟩) 2 2) [1065353216, 1077936128] ∧ Q w w2) := by
    have q := ((Q.refl w1).cells _ _).trans o2.q
    exact ⟨H1.out.1.next q, o2.cells.usl (cap := 2) (by decide), H1.out.2.trans q⟩
  clear o2
  go_wp2_with fail
  refine (HC3.out w2).mono ?_
  rintro e w3 ⟨rfl, q3⟩
  have H3 : Hid (USl w3 (.slice (some ⟨b1, 0, none⟩) 4 4) [0, 1048576000, 1061158912, 1065353216] ∧ USl w3 (.slice (some ⟨b2, 0, none⟩) 2 2) [1065353216, 1077936128] ∧ Q w w3) := ⟨H2.out.1.next q3, H2.out.2.1.next q3, H2.out.2.2.trans q3⟩
  clear q3
  go_wp2_with fail
  refine (HC4.out w3).mono ?_
  rintro e w4 ⟨b4, rfl, u4, q4⟩
  obtain ⟨w5, hw5⟩ : ∃ w5, w4.alloc (.cells #[.int .i64 1, .int .i64 1, .slice (some ⟨b4, 0, none⟩) 1 1] 24) = w5 := ⟨_, rfl⟩
  have H5 : Hid (USl w5 (.slice (some ⟨b1, 0, none⟩) 4 4) [0, 1048576000, 1061158912, 1065353216] ∧ USl w5 (.slice (some ⟨b2, 0, none⟩) 2 2) [1065353216, 1077936128] ∧ USl w5 (.slice (some ⟨b4, 0, none⟩) 1 1) [1069547520] ∧ w5.cell? ⟨w4.heap.size, 2, none⟩ = some (.slice (some ⟨b4, 0, none⟩) 1 1) ∧ Q w w5) := by
    have q5 : Q w4 w5 := by rw [← hw5]; exact (Q.refl w4).cells _ _
    have q := (((Q.refl w3).cells _ _).trans q4).trans q5
    refine ⟨H3.out.1.next q, H3.out.2.1.next q, (u4.next q5).uis.usl (cap := 1) (by decide), ?_, H3.out.2.2.trans q⟩
    rw [← hw5]; simp [go_sem]
  clear u4 q4
  go_wp2_with fail
  refine (HC5.out w5).mono ?_
  rintro e w6 ⟨b6, rfl, u6, q6⟩
  obtain ⟨w7, hw7⟩ : ∃ w7, w6.alloc (.cells #[.int .i64 2, .int .i64 1, .slice (some ⟨b6, 0, none⟩) 2 2] 24) = w7 := ⟨_, rfl⟩
  have H7 : Hid (USl w7 (.slice (some ⟨b1, 0, none⟩) 4 4) [0, 1048576000, 1061158912, 1065353216] ∧ USl w7 (.slice (some ⟨b2, 0, none⟩) 2 2) [1065353216, 1077936128] ∧ USl w7 (.slice (some ⟨b4, 0, none⟩) 1 1) [1069547520] ∧ USl w7 (.slice (some ⟨b6, 0, none⟩) 2 2) [1048576000, 1061158912] ∧ w7.cell? ⟨w4.heap.size, 2, none⟩ = some (.slice (some ⟨b4, 0, none⟩) 1 1) ∧ w7.cell? ⟨w6.heap.size, 2, none⟩ = some (.slice (some ⟨b6, 0, none⟩) 2 2) ∧ Q w w7) := by
    have q7 : Q w6 w7 := by rw [← hw7]; exact (Q.refl w6).cells _ _
    have q := (((Q.refl w5).cells _ _).trans q6).trans q7
    refine ⟨H5.out.1.next q, H5.out.2.1.next q, H5.out.2.2.1.next q, (u6.next q7).uis.usl (cap := 2) (by decide), q.cell H5.out.2.2.2.1, ?_, H5.out.2.2.2.2.trans q⟩
    rw [← hw7]; simp [go_sem]
  clear u6 q6 hw5
  go_wp2_with fail
  refine (HC6.out w7).mono ?_
  rintro e w8 ⟨rfl, q8⟩
  have H8 : Hid (USl w8 (.slice (some ⟨b1, 0, none⟩) 4 4) [0, 1048576000, 1061158912, 1065353216] ∧ USl w8 (.slice (some ⟨b2, 0, none⟩) 2 2) [1065353216, 1077936128] ∧ USl w8 (.slice (some ⟨b4, 0, none⟩) 1 1) [1069547520] ∧ USl w8 (.slice (some ⟨b6, 0, none⟩) 2 2) [1048576000, 1061158912] ∧ w8.cell? ⟨w4.heap.size, 2, none⟩ = some (.slice (some ⟨b4, 0, none⟩) 1 1) ∧ w8.cell? ⟨w6.heap.size, 2, none⟩ = some (.slice (some ⟨b6, 0, none⟩) 2 2) ∧ Q w w8) := ⟨H7.out.1.next q8, H7.out.2.1.next q8, H7.out.2.2.1.next q8, H7.out.2.2.2.1.next q8, q8.cell H7.out.2.2.2.2.1, q8.cell H7.out.2.2.2.2.2.1, H7.out.2.2.2.2.2.2.trans q8⟩
  clear q8 hw7
  go_wp2_with fail
  refine (HWd.out (.slice (some ⟨b1, 0, none⟩) 4 4) [0, 1048576000, 1061158912, 1065353216] w8 _ _ ((H8.out.1).next ((Q.refl w8).cells _ _)) rfl rfl (by decide)).mono ?_
  rintro e w9 ⟨rfl, q9⟩
  have H9 : Hid (USl w9 (.slice (some ⟨b2, 0, none⟩) 2 2) [1065353216, 1077936128] ∧ USl w9 (.slice (some ⟨b4, 0, none⟩) 1 1) [1069547520] ∧ USl w9 (.slice (some ⟨b6, 0, none⟩) 2 2) [1048576000, 1061158912] ∧ w9.cell? ⟨w4.heap.size, 2, none⟩ = some (.slice (some ⟨b4, 0, none⟩) 1 1) ∧ w9.cell? ⟨w6.heap.size, 2, none⟩ = some (.slice (some ⟨b6, 0, none⟩) 2 2) ∧ Q w w9) := by
    have q := ((Q.refl w8).cells _ _).trans q9
    exact ⟨H8.out.2.1.next q, H8.out.2.2.1.next q, H8.out.2.2.2.1.next q, q.cell H8.out.2.2.2.2.1, q.cell H8.out.2.2.2.2.2.1, H8.out.2.2.2.2.2.2.trans q⟩
  clear q9
  go_wp2_with fail
  refine (HWd.out (.slice (some ⟨b2, 0, none⟩) 2 2) [1065353216, 1077936128] w9 _ _ ((H9.out.1).next ((Q.refl w9).cells _ _)) rfl rfl (by decide)).mono ?_
  rintro e w10 ⟨rfl, q10⟩
  have H10 : Hid (USl w10 (.slice (some ⟨b4, 0, none⟩) 1 1) [1069547520] ∧ USl w10 (.slice (some ⟨b6, 0, none⟩) 2 2) [1048576000, 1061158912] ∧ w10.cell? ⟨w6.heap.size, 2, none⟩ = some (.slice (some ⟨b6, 0, none⟩) 2 2) ∧ Q w w10) := by
    have q := ((Q.refl w9).cells _ _).trans q10
    exact ⟨H9.out.2.1.next q, H9.out.2.2.1.next q, q.cell H9.out.2.2.2.2.1, H9.out.2.2.2.2.2.trans q⟩
  have z4 : w10.cell? ⟨w4.heap.size, 2, none⟩ = some (.slice (some ⟨b4, 0, none⟩) 1 1) := (((Q.refl w9).cells _ _).trans q10).cell H9.out.2.2.2.1
  clear q10
  go_wp2_with fail
  refine (HWd.out (.slice (some ⟨b4, 0, none⟩) 1 1) [1069547520] w10 _ _ ((H10.out.1).next ((Q.refl w10).cells _ _)) rfl rfl (by decide)).mono ?_
  rintro e w11 ⟨rfl, q11⟩
  have H11 : Hid (USl w11 (.slice (some ⟨b6, 0, none⟩) 2 2) [1048576000, 1061158912] ∧ Q w w11) := by
    have q := ((Q.refl w10).cells _ _).trans q11
    exact ⟨H10.out.2.1.next q, H10.out.2.2.2.trans q⟩
  have z6 : w11.cell? ⟨w6.heap.size, 2, none⟩ = some (.slice (some ⟨b6, 0, none⟩) 2 2) := (((Q.refl w10).cells _ _).trans q11).cell H10.out.2.2.1
  clear q11 z4
  go_wp2_with fail
  refine (HWd.out (.slice (some ⟨b6, 0, none⟩) 2 2) [1048576000, 1061158912] w11 _ _ ((H11.out.1).next ((Q.refl w11).cells _ _)) rfl rfl (by decide)).mono ?_
  rintro e w12 ⟨rfl, q12⟩
  have H12 : Hid (Q w w12) := H11.out.2.trans (((Q.refl w11).cells _ _).trans q12)
  clear q12 z6
  go_wp2_with fail
  go_ret
  exact ⟨rfl, H12.out⟩
end Go.Proofs.Ytcolhgngiflkhaa
/- The statement ScaleConstant: its walk. -/
namespace Go.Proofs.Ytcolhgngiflkhaa
open Go.RowKit
set_option linter.unusedVariables false
set_option linter.unusedSimpArgs false

theorem plnE_ok {pw ph : Int} {n : Nat} {kind W H : Int} (hE : plnE pw ph n kind W H = 0) : SizeB W H ∧ tapE kind pw W 0 = 0 ∧ tapE kind ph H 0 = 0 := by
  unfold plnE at hE
  split at hE
  · split at hE
    · rename_i hs
      split at hE
      · rename_i h; exact ⟨sizeB_true.1 hs, h, hE⟩
      · rename_i h; exact absurd hE h
    · cases hE
  · rename_i h; exact absurd hE h
structure Bk2 (W0 wx : World) (B g : Nat) (W H m : Nat) (F : Nat → Nat) : Prop where
  o0 : wx.cell? ⟨B, 0, none⟩ = some (.int .i64 (W : Int))
  o1 : wx.cell? ⟨B, 1, none⟩ = some (.int .i64 (H : Int))
  o2 : wx.cell? ⟨B, 2, none⟩ = some (.slice (some ⟨g, 0, none⟩) m m)
  row : URow wx g (tabN m F)
  q : Q W0 wx
end Go.Proofs.Ytcolhgngiflkhaa

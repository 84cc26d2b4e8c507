/- The document's errors. -/
import Derived.Test.YtikhmlcmmabapaaGcd216a86
import Derived.Test.YtikhmlcmmabapaaG1a232a06
import Derived.Test.YtikhmlcmmabapaaGf301d60c
namespace Go.Proofs.Ytikhmlcmmabapaa
open Go.RowKit
set_option linter.unusedVariables false
set_option linter.unusedSimpArgs false

theorem borE_side {bd n : Int} (h : sideB n = true) : borE bd n = borE bd 1 := by
  unfold borE
  rw [h, show sideB 1 = true by decide]
theorem cntV_out {W H : Int} (h : W < 1 ∨ 15 < W ∨ H < 1 ∨ 15 < H) : cntV W H = 0 := by
  unfold cntV
  by_cases h1 : rsdB W = true
  · rw [if_pos h1]
    have := rsdB_true.1 h1
    rw [if_neg (fun h2 => by have := rsdB_true.1 h2; omega)]
  · rw [if_neg h1]
theorem cntV_in {W H : Int} (h1 : 1 ≤ W) (h2 : W ≤ 15) (h3 : 1 ≤ H) (h4 : H ≤ 15) : cntV W H = W * H := by
  unfold cntV
  rw [if_pos (rsdB_true.2 ⟨h1, h2⟩), if_pos (rsdB_true.2 ⟨h3, h4⟩)]
set_option maxHeartbeats 4000000 in
set_option maxRecDepth 100000 in
theorem rcheck12_any (pw ph : Int) (ad : Option Addr) (n c : Nat) (bd W H k : Int) (hn : n ≤ 9223372036854775807) (w : World) :
    Calls Try.prog 21 #[.agg #[.int .i64 pw, .int .i64 ph, .slice ad n c], .int .i64 bd, .int .i64 W, .int .i64 H, .int .i64 k] w fun e w' => e = .returned (.int .i64 (rkE pw ph n bd W H k)) ∧ Q w w' := by
  obtain ⟨w1, hw1⟩ : ∃ w1, w.alloc (.cells #[.int .i64 pw, .int .i64 ph, .slice ad n c] 24) = w1 := ⟨_, rfl⟩
  have HQ : Hid (Q w w1) := by show Q w w1; rw [← hw1]; exact (Q.refl w).cells _ _
  have k0 : w1.cell? ⟨w.heap.size, 0, none⟩ = some (.int .i64 pw) := by rw [← hw1]; simp [go_sem]
  have k1 : w1.cell? ⟨w.heap.size, 1, none⟩ = some (.int .i64 ph) := by rw [← hw1]; simp [go_sem]
  have k2 : w1.cell? ⟨w.heap.size, 2, none⟩ = some (.slice ad n c) := by rw [← hw1]; simp [go_sem]
  have HA : Hid _ := rcheck_any pw ph ad n c hn w1
  have HD : Hid _ := fun x => rborder_any bd 1 0 x
  have HE : Hid (rkE pw ph n bd W H k = if chk pw ph n = 0 then (if cntV W H = 0 then 120 else if k < 0 then 121 else if cntV W H ≤ k then 121 else borE bd 1) else chk pw ph n) := by
    show rkE pw ph n bd W H k = _
    unfold rkE
    by_cases h : chk pw ph n = 0
    · rw [if_pos h, if_pos h]
      obtain ⟨a, b, rfl, rfl, hs, _⟩ := chk_zero h
      rw [borE_side (n := (a : Int)) (sideB_true.2 ⟨by have := hs.a1; omega, by have := hs.a2; omega⟩)]
    · rw [if_neg h, if_neg h]
  rw [HE.out]
  obtain ⟨E, hE⟩ : ∃ E, chk pw ph n = E := ⟨_, rfl⟩
  obtain ⟨b1, hb1⟩ : ∃ b1, borA bd 1 0 = b1 := ⟨_, rfl⟩
  obtain ⟨b2, hb2⟩ : ∃ b2, borE bd 1 = b2 := ⟨_, rfl⟩
  rw [hE] at HA
  simp only [hb1, hb2] at HD
  rw [hE, hb2]
  clear hE hb1 hb2 HE
  by_cases g0 : E = 0
  rotate_left
  · rw [if_neg g0]
    have g0b : (E == 0) = false := by simp [g0]
    have g0c : (E != 0) = true := by simp [g0]
    go_enter Try.func21, Try.ntmps21
    go_wp2_with fail
    refine Calls.mono HA.out ?_
    rintro e w2 ⟨rfl, q2⟩
    have HQ2 : Hid (Q w w2) := HQ.out.trans q2
    clear q2
    go_wp2_with fail
    go_ret
    exact ⟨rfl, HQ2.out⟩
  subst g0
  rw [if_pos rfl]
  by_cases h1 : W < 1
  · rw [if_pos (cntV_out (by omega))]
    go_enter Try.func21, Try.ntmps21
    go_wp2_with fail
    refine Calls.mono HA.out ?_
    rintro e w2 ⟨rfl, q2⟩
    have HQ2 : Hid (Q w w2) := HQ.out.trans q2
    clear q2
    go_wp2_with fail
    go_ret
    exact ⟨rfl, HQ2.out⟩
  by_cases h2 : H < 1
  · rw [if_pos (cntV_out (by omega))]
    go_enter Try.func21, Try.ntmps21
    go_wp2_with fail
    refine Calls.mono HA.out ?_
    rintro e w2 ⟨rfl, q2⟩
    have HQ2 : Hid (Q w w2) := HQ.out.trans q2
    clear q2
    go_wp2_with fail
    go_ret
    exact ⟨rfl, HQ2.out⟩
  by_cases h3 : 15 < W
  · rw [if_pos (cntV_out (by omega))]
    go_enter Try.func21, Try.ntmps21
    go_wp2_with fail
    refine Calls.mono HA.out ?_
    rintro e w2 ⟨rfl, q2⟩
    have HQ2 : Hid (Q w w2) := HQ.out.trans q2
    clear q2
    go_wp2_with fail
    go_ret
    exact ⟨rfl, HQ2.out⟩
  by_cases h4 : 15 < H
  · rw [if_pos (cntV_out (by omega))]
    go_enter Try.func21, Try.ntmps21
    go_wp2_with fail
    refine Calls.mono HA.out ?_
    rintro e w2 ⟨rfl, q2⟩
    have HQ2 : Hid (Q w w2) := HQ.out.trans q2
    clear q2
    go_wp2_with fail
    go_ret
    exact ⟨rfl, HQ2.out⟩
  have hp := win_area (a := W) (b := H) ⟨by omega, by omega⟩ ⟨by omega, by omega⟩
  rw [cntV_in (by omega) (by omega) (by omega) (by omega)]
  obtain ⟨M, hM⟩ : ∃ M, W * H = M := ⟨_, rfl⟩
  rw [hM] at hp ⊢
  rw [if_neg (by omega)]
  by_cases h5 : k < 0
  · rw [if_pos h5]
    go_enter Try.func21, Try.ntmps21
    go_wp2_with fail
    refine Calls.mono HA.out ?_
    rintro e w2 ⟨rfl, q2⟩
    have HQ2 : Hid (Q w w2) := HQ.out.trans q2
    clear q2
    go_wp2_with fail
    go_ret
    exact ⟨rfl, HQ2.out⟩
  rw [if_neg h5]
  by_cases h6 : M ≤ k
  · rw [if_pos h6]
    go_enter Try.func21, Try.ntmps21
    go_wp2_with fail
    refine Calls.mono HA.out ?_
    rintro e w2 ⟨rfl, q2⟩
    have HQ2 : Hid (Q w w2) := HQ.out.trans q2
    clear q2
    go_wp2_with fail
    go_ret
    exact ⟨rfl, HQ2.out⟩
  rw [if_neg h6]
  have h7 : k < M := by omega
  go_enter Try.func21, Try.ntmps21
  go_wp2_with fail
  refine Calls.mono HA.out ?_
  rintro e w2 ⟨rfl, q2⟩
  have HQ2 : Hid (Q w w2) := HQ.out.trans q2
  clear q2
  go_wp2_with fail
  refine Calls.mono (HD.out _) ?_
  rintro e w3 ⟨rfl, hw3⟩
  obtain rfl := hw3.symm
  go_wp2_with fail
  go_ret
  exact ⟨rfl, HQ2.out⟩
end Go.Proofs.Ytikhmlcmmabapaa
/- A plane in a box whose samples are appended one by one. -/
namespace Go.Proofs.Ytikhmlcmmabapaa
open Go.RowKit
set_option linter.unusedVariables false
set_option linter.unusedSimpArgs false

theorem uInfo : ∃ i, Try.prog.info? 38 = some i ∧ i.size = 1 ∧ i.bytes = 4 ∧ i.zero = some (.int .u32 0) := info_of (by kernel_rfl) (by kernel_rfl)
def newsS (S : List Nat) : List Value := S.map fun (x : Nat) => .int .u32 (x : Int)
structure Gp (w0 wr : World) (B : Nat) (pa pb : Int) (v : Value) (L : List Nat) (n : Nat) : Prop where
  len : n = L.length
  own : wr.ownsRow w0.heap.size 38 1 v n (newsS L)
  ap : v.ownBlock ≠ some B
  c0 : wr.cell? ⟨B, 0, none⟩ = some (.int .i64 pa)
  c1 : wr.cell? ⟨B, 1, none⟩ = some (.int .i64 pb)
  c2 : wr.cell? ⟨B, 2, none⟩ = some v
  fz : ∀ j, wr.frozen? ⟨B, j, none⟩ = false
  q : Q w0 wr
  lo : w0.heap.size ≤ B
theorem own_setS {w : World} {base n : Nat} {v : Value} {xs : List Value} (h : w.ownsRow base 38 1 v n xs) {p : Addr} (hp : v.ownBlock ≠ some p.block) (z : Value) : (w.setCell p z).ownsRow base 38 1 v n xs := by
  refine ⟨h.1, ?_⟩
  rcases h.2 with c | ⟨g, cap, cur, h1, h2, h3, h4⟩
  · exact Or.inl c
  · refine Or.inr ⟨g, cap, cur, h1, h2, ?_, h4⟩
    rw [Below.heap_setCell _ _ _ _ (fun e => hp (by rw [h1, e]; rfl))]
    exact h3
theorem own_uslS {w : World} {base n : Nat} {v : Value} {L : List Nat} (h : w.ownsRow base 38 1 v n (newsS L)) (hn : n = L.length) : USl w v L := by
  obtain ⟨_, ⟨rfl, h0⟩ | ⟨g, cap, cur, rfl, _, hh, hc, _, hsz, ht⟩⟩ := h
  · exact Or.inr ⟨_, _, rfl, List.eq_nil_of_length_eq_zero (by omega)⟩
  · subst hn
    refine Or.inl ⟨g, 0, cap, rfl, hc, fun i hi => ?_⟩
    have hg : cur.toList[i]? = some (.int .u32 ((L.getD i 0 : Nat) : Int)) := by
      have e : (cur.toList.take (L.length * 1))[i]? = (newsS L)[i]? := by rw [ht]
      rw [List.getElem?_take, if_pos (by omega)] at e
      rw [e]
      unfold newsS
      rw [List.getElem?_map, List.getElem?_eq_getElem hi, List.getD_eq_getElem?_getD, List.getElem?_eq_getElem hi]
      rfl
    rw [Nat.zero_add]
    unfold World.cell?
    rw [hh]
    rw [Array.getElem?_toList] at hg
    exact hg
theorem Gp.app {w0 wr : World} {B : Nat} {pa pb : Int} {v : Value} {L : List Nat} {n : Nat} (h : Gp w0 wr B pa pb v L n) (u : Nat) (hn : n ≤ 100000) :
    ∃ g c x2, (Builtin.append_ #[22, 22] 22 #[v, .slice (some ⟨wr.heap.size, 0, none⟩) 1 1]).run Try.prog (wr.alloc (.cells #[.int .u32 (u : Int)] 38)) = .ok (.slice (some ⟨g, 0, none⟩) (n + 1) c) x2 ∧
      x2.cell? ⟨B, 2, none⟩ = some v ∧ (∀ j, x2.frozen? ⟨B, j, none⟩ = false) ∧ Gp w0 (x2.setCell ⟨B, 2, none⟩ (.slice (some ⟨g, 0, none⟩) (n + 1) c)) B pa pb (.slice (some ⟨g, 0, none⟩) (n + 1) c) (L ++ [u]) (n + 1) := by
  obtain ⟨iu, i1, i2, i3, i4⟩ := uInfo
  have hq1 : Q w0 (wr.alloc (.cells #[.int .u32 (u : Int)] 38)) := h.q.cells _ _
  have hqa : Q wr (wr.alloc (.cells #[.int .u32 (u : Int)] 38)) := (Q.refl wr).cells _ _
  have hBw : B < wr.heap.size := World.block_lt_of_cell? _ _ h.c0
  obtain ⟨g, c, x2, r1, o1, q1, gb1, gg1⟩ := run_app_qg (P := Try.prog) (wr.alloc (.cells #[.int .u32 (u : Int)] 38)) w0 hq1 22 22 38 iu _ 1 4 Try.underlying22 i1 i4 i2 i3 rfl (by decide) v n _ (h.own.alloc _) ⟨wr.heap.size, 0, none⟩ 1 1 [.int .u32 (u : Int)] rfl (fun j z hz => by
    cases j with
    | zero => cases hz; show (wr.alloc (.cells #[.int .u32 (u : Int)] 38)).cell? ⟨wr.heap.size, 0, none⟩ = _; simp [go_sem]
    | succ j => cases hz) (fun z hz => by rw [List.mem_singleton.1 hz]; rfl) (by decide) (by unfold maxLen; omega) (by omega)
  have hgB : g ≠ B := by
    rcases gg1 with e | e
    · intro k; exact h.ap (by rw [e, k])
    · have : (wr.alloc (.cells #[.int .u32 (u : Int)] 38)).heap.size = wr.heap.size + 1 := by simp
      omega
  have hcell : ∀ {j z}, wr.cell? ⟨B, j, none⟩ = some z → x2.cell? ⟨B, j, none⟩ = some z := fun {j z} hz => by
    have h1 := hqa.cell hz
    have h2 := gb1.block B (by have := hqa.1.size; omega) (fun e => h.ap e.symm)
    exact (World.cell?_of_block h2).trans h1
  have hfz : ∀ j, x2.frozen? ⟨B, j, none⟩ = false := fun j => by rw [q1.2, ← h.q.2]; exact h.fz j
  have hap : newsS (L ++ [u]) = newsS L ++ [.int .u32 (u : Int)] := by simp [newsS]
  rw [← hap] at o1
  refine ⟨g, c, x2, r1, hcell h.c2, hfz, ?_⟩
  have hne : (Value.slice (some ⟨g, 0, none⟩) (n + 1) c).ownBlock ≠ some B := fun e => hgB (by cases e; rfl)
  exact ⟨by rw [List.length_append, h.len]; rfl, own_setS o1 hne _, hne,
    (World.cell?_setCell_other _ _ _ _ (fun e => by injection e with _ e; cases e)).trans (hcell h.c0),
    (World.cell?_setCell_other _ _ _ _ (fun e => by injection e with _ e; cases e)).trans (hcell h.c1),
    World.cell?_setCell_same _ _ _ (hcell h.c2), fun j => by rw [World.frozen?_setCell]; exact hfz j, q1.set h.lo _, h.lo⟩
end Go.Proofs.Ytikhmlcmmabapaa

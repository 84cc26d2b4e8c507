/- A curve turned round. -/
import Derived.Test.YtmfniimelibhfaaGc307ad24
import Derived.Laws.MakeOwn
namespace Go.Proofs.Ytmfniimelibhfaa
open Go.RowKit
set_option linter.unusedVariables false
set_option linter.unusedSimpArgs false

/-- Knots turned round. -/
def sw (l : List (Nat × Nat)) : List (Nat × Nat) := l.map fun p => (p.2, p.1)
theorem sw_length (l : List (Nat × Nat)) : (sw l).length = l.length := by unfold sw; simp
theorem sw_sw (l : List (Nat × Nat)) : sw (sw l) = l := by
  unfold sw
  rw [List.map_map]
  have : ((fun p : Nat × Nat => (p.2, p.1)) ∘ fun p => (p.2, p.1)) = id := by funext p; rfl
  rw [this, List.map_id]
theorem kx_sw (l : List (Nat × Nat)) (i : Nat) : kx (sw l) i = ky l i := by
  unfold kx ky sw
  rw [List.getD_eq_getElem?_getD, List.getD_eq_getElem?_getD, List.getElem?_map]
  cases l[i]? <;> rfl
theorem ky_sw (l : List (Nat × Nat)) (i : Nat) : ky (sw l) i = kx l i := by
  unfold kx ky sw
  rw [List.getD_eq_getElem?_getD, List.getD_eq_getElem?_getD, List.getElem?_map]
  cases l[i]? <;> rfl
/-- Two knots after one another are level. -/
def Level (l : List (Nat × Nat)) : Prop := ∃ i, i + 1 < l.length ∧ equalB (ky l i) (ky l (i + 1)) = true
theorem sw_ok {l : List (Nat × Nat)} (hl : COk l) (h : ¬ Level l) : COk (sw l) := by
  constructor
  · rw [sw_length]; exact hl.two
  · rw [sw_length]; exact hl.many
  · intro i; rw [kx_sw, ky_sw]; exact ⟨(hl.lt i).2, (hl.lt i).1⟩
  · intro i hi; rw [kx_sw, ky_sw]; rw [sw_length] at hi; exact ⟨(hl.fin i hi).2, (hl.fin i hi).1⟩
  · intro i hi
    rw [kx_sw, ky_sw, kx_sw, ky_sw]
    rw [sw_length] at hi
    obtain ⟨a, b⟩ := hl.rise i hi
    have n1 := fin_nan (hl.fin i (by omega)).2
    have n2 := fin_nan (hl.fin (i + 1) hi).2
    refine ⟨?_, by omega⟩
    by_cases g : srung32 (ky l i) = srung32 (ky l (i + 1))
    · exact absurd ⟨i, hi, by rw [equalB_num n1 n2]; exact decide_eq_true g⟩ h
    · omega

/-- How far the turning has come: k knots lie turned, none of them level with the one ahead. -/
structure Turns (l : List (Nat × Nat)) (w wr : World) (k : Nat) : Prop where
  q : Q w wr
  done : ∀ i, i < k → wr.cell? ⟨w.heap.size, i * 2, none⟩ = some (.int .u32 (ky l i)) ∧ wr.cell? ⟨w.heap.size, i * 2 + 1, none⟩ = some (.int .u32 (kx l i))
  room : ∀ j, j < l.length * 2 → ∃ v, wr.cell? ⟨w.heap.size, j, none⟩ = some v
  free : ∀ j, wr.frozen? ⟨w.heap.size, j, none⟩ = false
  level : ∀ i, i + 1 < k → equalB (ky l i) (ky l (i + 1)) = false
theorem Turns.next {l : List (Nat × Nat)} {w wr wx : World} {k : Nat} (h : Turns l w wr k) (q : Q wr wx) : Turns l w wx k where
  q := h.q.trans q
  done := fun i hi => ⟨q.cell (h.done i hi).1, q.cell (h.done i hi).2⟩
  room := fun j hj => by obtain ⟨v, hv⟩ := h.room j hj; exact ⟨v, q.cell hv⟩
  free := fun j => by rw [q.2]; exact h.free j
  level := h.level
theorem Turns.step {l : List (Nat × Nat)} {w wr : World} {k : Nat} (h : Turns l w wr k) (hk : k < l.length) (hl : k = 0 ∨ equalB (ky l (k - 1)) (ky l k) = false) :
    Turns l w ((wr.setCell ⟨w.heap.size, k * 2, none⟩ (.int .u32 (ky l k))).setCell ⟨w.heap.size, k * 2 + 1, none⟩ (.int .u32 (kx l k))) (k + 1) := by
  obtain ⟨u, hu⟩ := h.room (k * 2) (by omega)
  obtain ⟨v, hv⟩ := h.room (k * 2 + 1) (by omega)
  have hv' : (wr.setCell ⟨w.heap.size, k * 2, none⟩ (.int .u32 (ky l k))).cell? ⟨w.heap.size, k * 2 + 1, none⟩ = some v := by
    rw [World.cell?_setCell_other _ _ _ _ (by simp)]; exact hv
  have q1 : Q w (wr.setCell ⟨w.heap.size, k * 2, none⟩ (.int .u32 (ky l k))) := h.q.set (by simp) _
  refine ⟨q1.set (by simp) _, fun i hi => ?_, fun j hj => ?_, fun j => ?_, fun i hi => ?_⟩
  · by_cases e : i = k
    · subst e
      refine ⟨?_, ?_⟩
      · rw [World.cell?_setCell_other _ _ _ _ (by simp)]
        exact World.cell?_setCell_same _ _ _ hu
      · exact World.cell?_setCell_same _ _ _ hv'
    · have hi' : i < k := by omega
      refine ⟨?_, ?_⟩
      · rw [World.cell?_setCell_other _ _ _ _ (by simp <;> omega), World.cell?_setCell_other _ _ _ _ (by simp <;> omega)]; exact (h.done i hi').1
      · rw [World.cell?_setCell_other _ _ _ _ (by simp <;> omega), World.cell?_setCell_other _ _ _ _ (by simp <;> omega)]; exact (h.done i hi').2
  · by_cases e : j = k * 2 + 1
    · subst e; exact ⟨_, World.cell?_setCell_same _ _ _ hv'⟩
    · rw [World.cell?_setCell_other _ _ _ _ (by simp <;> omega)]
      by_cases e2 : j = k * 2
      · subst e2; exact ⟨_, World.cell?_setCell_same _ _ _ hu⟩
      · rw [World.cell?_setCell_other _ _ _ _ (by simp <;> omega)]; exact h.room j hj
  · rw [World.frozen?_setCell, World.frozen?_setCell]; exact h.free j
  · by_cases e : i + 1 = k
    · rcases hl with hl | hl
      · omega
      · subst e; simpa using hl
    · exact h.level i (by omega)
set_option maxHeartbeats 4000000 in
set_option maxRecDepth 100000 in
theorem cturn_any (b o : Nat) (l : List (Nat × Nat)) (hl : COk l) (w : World) (hc : CIs w b o l) :
    Calls Try.prog 19 #[.pointer (some ⟨b, o, none⟩)] w fun e w' => Q w w' ∧
      ((Level l ∧ e = .returned (.tuple #[.pointer none, .int .i64 44])) ∨ (¬ Level l ∧ ∃ b', e = .returned (.tuple #[.pointer (some ⟨b', 0, none⟩), .int .i64 0]) ∧ w.heap.size ≤ b' ∧ CIs w' b' 0 (sw l))) := by
  have hc0 := hc
  obtain ⟨g, o2, cap, c1, c2, c3⟩ := hc
  have HK : Hid (KIs w g o2 l) := c3
  have HL : Hid (COk l) := hl
  have t2 := hl.two
  have t64 := hl.many
  obtain ⟨i, i1, i2, i3, i4⟩ := knotInfo
  obtain ⟨M, hM⟩ : ∃ M, M = madeCells (Value.agg #[.int .u32 0, .int .u32 0]).cells (l.length * 2) := ⟨_, rfl⟩
  have hms : M.size = l.length * 2 := by rw [hM]; exact size_madeCells _ _
  have hmk : ∀ w : World, (Instr.makeSlice 22 (.int .i64 (l.length : Int)) (.int .i64 (l.length : Int))).run Try.prog w = .ok (.slice (some ⟨w.heap.size, 0, none⟩) l.length l.length) (w.alloc (.cells M 32)) := fun w => by
    have := run_make (P := Try.prog) w 22 32 i _ Try.underlying22 i1 i4 .i64 .i64 l.length l.length (by omega) (by omega) (by rw [i3]; omega) (by omega)
    rw [i2] at this
    simp only [Int.toNat_natCast] at this
    rw [hM]
    exact this
  have mc : ∀ j, j < l.length * 2 → ∃ v, (w.alloc (.cells M 32)).cell? ⟨w.heap.size, j, none⟩ = some v := fun j hj => by
    have hb : (w.alloc (.cells M 32)).heap[w.heap.size]? = some (.cells M 32 (0, 0)) := heap_alloc_new w _
    rw [cell_of_row _ _ j M 32 (0, 0) hb]
    exact ⟨_, Array.getElem?_eq_getElem (by omega)⟩
  have mf : ∀ j, (w.alloc (.cells M 32)).frozen? ⟨w.heap.size, j, none⟩ = false := fun j => frozen_of_row _ _ _ _ _ (heap_alloc_new w _)
  have c1' := fun c t => cell_1 c1 c t
  clear hc0 c3 hl i1 i2 i3 i4 hM hms
  go_enter Try.func19, Try.ntmps19
  go_wp2_with fail
  have T0 : Hid (Turns l w (w.alloc (.cells M 32)) 0) := ⟨(Q.refl w).cells _ _, fun i hi => absurd hi (Nat.not_lt_zero _), mc, mf, fun i hi => absurd hi (Nat.not_lt_zero _)⟩
  clear mc mf hmk c1'
  generalize w.alloc _ = w0 at T0 ⊢
  go_loopg [18] l.length (fun m s18 wr => ∃ k : Nat, s18 = .int .i64 k ∧ k + m = l.length ∧ Hid (Turns l w wr k))
  case atStart => exact ⟨0, rfl, by omega, T0⟩
  case round =>
    obtain ⟨k, rfl, hm, TK⟩ := hrel
    by_cases hkn : k < l.length
    · obtain ⟨x1, x2⟩ := HK.out k hkn
      replace x1 := TK.out.q.cell x1
      replace x2 := TK.out.q.cell x2
      have cc := TK.out.q.cell c1
      have hi0 : (0 : Int) ≤ (k : Int) := by omega
      have hi1 : (k : Int) < (l.length : Int) := by omega
      go_wp2_with fail
      generalize hw1 : wr.alloc _ = w1
      have q1 : Q wr w1 := by rw [← hw1]; exact (Q.refl wr).cells _ _
      have y1 : w1.cell? ⟨wr.heap.size, 0, none⟩ = some (.int .u32 (kx l k)) := by rw [← hw1]; simp [go_sem]
      have y2 : w1.cell? ⟨wr.heap.size, 1, none⟩ = some (.int .u32 (ky l k)) := by rw [← hw1]; simp [go_sem]
      replace cc := q1.cell cc
      have T1 : Hid (Turns l w w1 k) := TK.out.next q1
      obtain ⟨bk, hbk⟩ : ∃ bk, wr.heap.size = bk := ⟨_, rfl⟩
      rw [hbk] at y1 y2 ⊢
      have n1 : bk ≠ w.heap.size := by
        obtain ⟨v, hv⟩ := TK.out.room 0 (by omega)
        have := cell_in hv
        omega
      clear hw1 hbk q1 TK x1 x2
      have n0 := qw_some w1
      have d1 := qw_cell y1
      have d2 := qw_cell y2
      have d3 := qw_cell cc
      by_cases hk0 : k = 0
      · subst hk0
        refine wp_region_quiet_Q (by kernel_rfl) (by kernel_rfl) ?_
        repeat (first | go_big_quiet_step (fail) | quiet_step (fail))
        refine wpQuiet_nil ?_
        intro w2 hw'
        have hq2 := qw_out hw'
        have T2 : Hid (Turns l w w2 0) := T1.out.next hq2
        have y1' := hq2.cell y1
        have y2' := hq2.cell y2
        clear hw' d1 d2 d3 n0 T1 hq2
        obtain ⟨u, hu⟩ := T2.out.room 0 (by omega)
        obtain ⟨v, hv⟩ := T2.out.room 1 (by omega)
        have z1 := T2.out.free 0
        have z2 := T2.out.free 1
        have T3 : Hid (Turns l w ((w2.setCell ⟨w.heap.size, 0, none⟩ (.int .u32 (ky l 0))).setCell ⟨w.heap.size, 1, none⟩ (.int .u32 (kx l 0))) 1) := T2.out.step (k := 0) hkn (Or.inl rfl)
        go_wp2_with fail
        go_roundg (l.length - 1)
        case measure => go_light; omega
        case rel => go_light; exact ⟨1, rfl, by omega, T3⟩
      · obtain ⟨n, rfl⟩ : ∃ n, k = n + 1 := ⟨k - 1, by omega⟩
        have x3 := T1.out.q.cell (HK.out n (by omega)).2
        have j0 : (0 : Int) < ((n + 1 : Nat) : Int) := by omega
        have j1 : ((n + 1 : Nat) : Int) - 1 = (n : Int) := by omega
        have j2 : (0 : Int) ≤ (n : Int) := by omega
        have j3 : (n : Int) < (l.length : Int) := by omega
        have d4 := qw_cell x3
        obtain ⟨B, hB⟩ : ∃ B, equalB (ky l n) (ky l (n + 1)) = B := ⟨_, rfl⟩
        have HQ : Hid (∀ W : World, Calls Try.prog 41 #[.int .u32 (ky l n : Int), .int .u32 (ky l (n + 1) : Int)] W fun e w' => e = .returned (.bool B) ∧ w' = W) := fun W => by rw [← hB]; exact equal_any _ _ W
        have HB : Hid (equalB (ky l n) (ky l (n + 1)) = B) := hB
        clear hB
        cases B
        · refine wp_region_quiet_Q (by kernel_rfl) (by kernel_rfl) ?_
          repeat (first | go_big_quiet_step (first | (go_at_call 41; exact calls_qs (HQ.out _))) | quiet_step (first | (go_at_call 41; exact calls_qs (HQ.out _))))
          refine wpQuiet_nil ?_
          intro w2 hw'
          have hq2 := qw_out hw'
          have T2 : Hid (Turns l w w2 (n + 1)) := T1.out.next hq2
          have y1' := hq2.cell y1
          have y2' := hq2.cell y2
          clear hw' d1 d2 d3 d4 n0 T1 hq2 HQ
          obtain ⟨u, hu⟩ := T2.out.room ((n + 1) * 2) (by omega)
          obtain ⟨v, hv⟩ := T2.out.room ((n + 1) * 2 + 1) (by omega)
          have z1 := T2.out.free ((n + 1) * 2)
          have z2 := T2.out.free ((n + 1) * 2 + 1)
          have T3 : Hid (Turns l w ((w2.setCell ⟨w.heap.size, (n + 1) * 2, none⟩ (.int .u32 (ky l (n + 1)))).setCell ⟨w.heap.size, (n + 1) * 2 + 1, none⟩ (.int .u32 (kx l (n + 1)))) (n + 1 + 1)) := T2.out.step (k := n + 1) hkn (Or.inr HB.out)
          go_wp2_with fail
          go_roundg (l.length - (n + 1 + 1))
          case measure => go_light; omega
          case rel => go_light; exact ⟨n + 1 + 1, by go_num, by omega, T3⟩
        · refine wp_region_quiet_Q (by kernel_rfl) (by kernel_rfl) ?_
          repeat (first | go_big_quiet_step (first | (go_at_call 41; exact calls_qs (HQ.out _))) | quiet_step (first | (go_at_call 41; exact calls_qs (HQ.out _))))
          refine wpQuiet_nil ?_
          intro w2 hw'
          have hq2 := qw_out hw'
          have T2 : Hid (Turns l w w2 (n + 1)) := T1.out.next hq2
          clear hw' d1 d2 d3 d4 n0 T1 hq2 HQ
          go_wp2_with fail
          exact bodyPost_ret (v := .tuple #[.pointer none, .int .i64 44]) (by simp [results, Try.results19, go_sem]) rfl ⟨T2.out.q, Or.inl ⟨⟨n, hkn, HB.out⟩, rfl⟩⟩
    · go_wp2_with fail
      have hk : k = l.length := by omega
      subst hk
      have hq1 : Q w (wr.alloc (.cells #[.slice (some ⟨w.heap.size, 0, none⟩) l.length l.length] 72)) := TK.out.q.cells _ _
      refine bodyPost_ret (v := .tuple #[.pointer (some ⟨wr.heap.size, 0, none⟩), .int .i64 0]) (by simp [results, Try.results19, go_sem]) rfl ⟨hq1, Or.inr ⟨?_, wr.heap.size, rfl, TK.out.q.1.size, ?_⟩⟩
      · rintro ⟨i, h1, h2⟩
        rw [TK.out.level i h1] at h2
        exact absurd h2 (by decide)
      · refine ⟨w.heap.size, 0, l.length, ?_, by rw [sw_length]; exact Nat.le_refl _, ?_⟩
        · rw [sw_length]; simp [go_sem]
        · intro i hi
          rw [sw_length] at hi
          rw [kx_sw, ky_sw, Nat.zero_add]
          exact ⟨cell_1 (TK.out.done i hi).1 _ _, cell_1 (TK.out.done i hi).2 _ _⟩
end Go.Proofs.Ytmfniimelibhfaa

/- The document's curve turned round. -/
import Derived.Test.YtfolecnjaaakeaaCurvX
import Derived.Test.YtfolecnjaaakeaaAppQ
namespace Go.Proofs.Ytfolecnjaaakeaa
open Go.RowKit
set_option linter.unusedVariables false
set_option linter.unusedSimpArgs false

theorem flat_next (l : List (Nat × Nat)) {k : Nat} (h : k < l.length) : (flat l).take ((k + 1) * 2) = (flat l).take (k * 2) ++ [.int .u32 (kx l k : Nat), .int .u32 (ky l k : Nat)] := by
  have h1 : (flat l)[k * 2]? = some (.int .u32 (kx l k : Nat)) := by rw [flat_get (by omega), kcell_x]
  have h2 : (flat l)[k * 2 + 1]? = some (.int .u32 (ky l k : Nat)) := by rw [flat_get (by omega), kcell_y]
  rw [show (k + 1) * 2 = k * 2 + 1 + 1 by omega, List.take_add_one, List.take_add_one, h1, h2]
  simp
/-- How far the document's turning has come. -/
structure Turnd (l : List (Nat × Nat)) (w wr : World) (v : Value) (k : Nat) : Prop where
  q : Q w wr
  own : wr.ownsRow w.heap.size 32 2 v k ((flat (sw l)).take (k * 2))
  level : ∀ i, i + 1 < k → equalB (ky l i) (ky l (i + 1)) = false
theorem Turnd.next {l : List (Nat × Nat)} {w wr wx : World} {v : Value} {k : Nat} (h : Turnd l w wr v k) (q : Q wr wx) : Turnd l w wx v k where
  q := h.q.trans q
  own := by
    refine ⟨h.own.1, ?_⟩
    rcases h.own.2 with a | ⟨g, cap, cur, h1, h2, h3, h4⟩
    · exact Or.inl a
    · have hg : g < wr.heap.size := by
        rcases Nat.lt_or_ge g wr.heap.size with hlt | hge
        · exact hlt
        · rw [Array.getElem?_eq_none hge] at h3; cases h3
      exact Or.inr ⟨g, cap, cur, h1, h2, (q.1.block g hg).trans h3, h4⟩
  level := h.level
theorem news2 (W : World) (v0 v1 : Value) (t : TypeId) : ∀ j u, [v0, v1][j]? = some u → (W.alloc (.cells #[v0, v1] t)).cell? ((⟨W.heap.size, 0, none⟩ : Addr).add j) = some u := by
  intro j u hu
  rw [show (⟨W.heap.size, 0, none⟩ : Addr).add j = ⟨W.heap.size, j, none⟩ by unfold Addr.add; split <;> simp_all, cell_of_row _ _ j #[v0, v1] t (0, 0) (heap_alloc_new W _)]
  simpa using hu
theorem one2 (a b : Nat) : ∀ u ∈ [Value.int .u32 (a : Int), .int .u32 (b : Int)], u.oneCell' = true := by
  intro u hu
  simp at hu
  rcases hu with rfl | rfl <;> rfl
theorem Turnd.step {l : List (Nat × Nat)} {w wr : World} {v : Value} {k : Nat} (hk : k < l.length) (q : Q w wr) (own : wr.ownsRow w.heap.size 32 2 v (k + 1) ((flat (sw l)).take (k * 2) ++ [.int .u32 (ky l k : Nat), .int .u32 (kx l k : Nat)])) (lv : ∀ i, i + 1 < k → equalB (ky l i) (ky l (i + 1)) = false) (hl : k = 0 ∨ equalB (ky l (k - 1)) (ky l k) = false) : Turnd l w wr v (k + 1) := by
  refine ⟨q, ?_, fun i hi => ?_⟩
  · rw [flat_next _ (by rw [sw_length]; exact hk), kx_sw, ky_sw]; exact own
  · by_cases e : i + 1 = k
    · rcases hl with hl | hl
      · omega
      · subst e; simpa using hl
    · exact lv i (by omega)

set_option maxHeartbeats 4000000 in
set_option maxRecDepth 100000 in
theorem rturn_any (g o cap : Nat) (l : List (Nat × Nat)) (hl : COk l) (w : World) (hk : KIs w g o l) :
    Calls Try.prog 18 #[.slice (some ⟨g, o, none⟩) l.length cap] w fun e w' => Q w w' ∧
      ((Level l ∧ ∃ v, e = .returned (.tuple #[v, .int .i64 44])) ∨ (¬ Level l ∧ ∃ g' cap', e = .returned (.tuple #[.slice (some ⟨g', 0, none⟩) (sw l).length cap', .int .i64 0]) ∧ (sw l).length ≤ cap' ∧ w.heap.size ≤ g' ∧ KIs w' g' 0 (sw l))) := by
  obtain ⟨i, i1, i2, i3, i4⟩ := knotInfo
  have HI : Hid (Try.prog.info? 32 = some i ∧ i.size = 2 ∧ i.bytes = 8 ∧ i.zero = some (.agg #[.int .u32 0, .int .u32 0])) := ⟨i1, i2, i3, i4⟩
  have HK : Hid (KIs w g o l) := hk
  have HL : Hid (COk l) := hl
  have t2 := hl.two
  have t64 := hl.many
  clear hk hl i1 i2 i3 i4
  go_enter Try.func18, Try.ntmps18
  go_wp2_with fail
  have T0 : Hid (Turnd l w w (.slice none 0 0) 0) := ⟨Q.refl w, ⟨by simp, Or.inl ⟨rfl, rfl⟩⟩, fun i hi => absurd hi (Nat.not_lt_zero _)⟩
  go_loopg [4, 5] l.length (fun m s4 s5 wr => ∃ k : Nat, s5 = .int .i64 k ∧ k + m = l.length ∧ Hid (Turnd l w wr s4 k))
  case atStart => exact ⟨0, rfl, by omega, T0⟩
  case round =>
    obtain ⟨k, rfl, hm, TK⟩ := hrel
    by_cases hkn : k < l.length
    · obtain ⟨x1, x2⟩ := HK.out k hkn
      replace x1 := TK.out.q.cell x1
      replace x2 := TK.out.q.cell x2
      have hi0 : (0 : Int) ≤ (k : Int) := by omega
      have hi1 : (k : Int) < (l.length : Int) := by omega
      have n0 := qw_some wr
      have d1 := qw_cell x1
      have d2 := qw_cell x2
      have b1 : k + 1 ≤ maxLen := by unfold maxLen; omega
      have b2 : (k + 1) * 8 ≤ 140737488355328 := by omega
      go_wp2_with fail
      by_cases hk0 : k = 0
      · subst hk0
        rw [Nat.zero_mul, Nat.add_zero] at x1 x2
        refine wp_region_quiet_Q (by kernel_rfl) (by kernel_rfl) ?_
        repeat (first | go_big_quiet_step (fail) | quiet_step (fail))
        refine wpQuiet_nil ?_
        intro w2 hw'
        have hq2 := qw_out hw'
        have T2 : Hid (Turnd l w w2 u4 0) := TK.out.next hq2
        replace x1 := hq2.cell x1
        replace x2 := hq2.cell x2
        clear hw' d1 d2 n0 TK hq2
        go_wp2_with fail
        go_region_law (refine step_app_q _ w (T2.out.next ((Q.refl w2).drew.cells _ _)).q rfl (.tmp 28) (.tmp 40) 22 rfl 32 i _ 2 8 Try.underlying22 HI.out.1 HI.out.2.2.2 HI.out.2.1 HI.out.2.2.1 rfl (by decide) u4 0 _ (by simp [Act.eval, Act.put]) (T2.out.next ((Q.refl w2).drew.cells _ _)).own _ 1 1 [.int .u32 (ky l 0 : Nat), .int .u32 (kx l 0 : Nat)] (by simp [Act.eval, Act.put]) rfl (news2 _ _ _ _) (one2 _ _) (by decide) b1 b2 ?_; intro g7 cap7 w7 own7 q7)
        all_goals
          have T3 : Hid (Turnd l w w7 (.slice (some ⟨g7, 0, none⟩) 1 cap7) 1) := Turnd.step (k := 0) hkn q7 own7 T2.out.level (Or.inl rfl)
          clear own7 q7 T2 x1 x2
          go_wp2_with fail
          go_roundg (l.length - 1)
          case measure => go_light; omega
          case rel => go_light; exact ⟨1, rfl, by omega, T3⟩
      · obtain ⟨n, rfl⟩ : ∃ n, k = n + 1 := ⟨k - 1, by omega⟩
        have x3 := TK.out.q.cell (HK.out n (by omega)).2
        have j0 : (0 : Int) < ((n + 1 : Nat) : Int) := by omega
        have j1 : ((n + 1 : Nat) : Int) - 1 = (n : Int) := by omega
        have j2 : (0 : Int) ≤ (n : Int) := by omega
        have j3 : (n : Int) < (l.length : Int) := by omega
        have d4 := qw_cell x3
        obtain ⟨B, hB⟩ : ∃ B, equalB (ky l n) (ky l (n + 1)) = B := ⟨_, rfl⟩
        have HQ : Hid (∀ W : World, Calls Try.prog 20 #[.int .u32 (ky l n : Int), .int .u32 (ky l (n + 1) : Int)] W fun e w' => e = .returned (.bool B) ∧ w' = W) := fun W => by rw [← hB]; exact rsame_any _ _ (HL.out.lt _).2 (HL.out.lt _).2 W
        have HB : Hid (equalB (ky l n) (ky l (n + 1)) = B) := hB
        clear hB
        cases B
        · refine wp_region_quiet_Q (by kernel_rfl) (by kernel_rfl) ?_
          repeat (first | go_big_quiet_step (first | (go_at_call 20; exact calls_qs (HQ.out _))) | quiet_step (first | (go_at_call 20; exact calls_qs (HQ.out _))))
          refine wpQuiet_nil ?_
          intro w2 hw'
          have hq2 := qw_out hw'
          have T2 : Hid (Turnd l w w2 u4 (n + 1)) := TK.out.next hq2
          replace x1 := hq2.cell x1
          replace x2 := hq2.cell x2
          clear hw' d1 d2 d4 x3 n0 TK hq2 HQ
          have j4 : (0 : Int) ≤ (n : Int) + 1 := by omega
          have j5 : (n : Int) + 1 < (l.length : Int) := by omega
          go_wp2_with fail
          go_region_law (refine step_app_q _ w (T2.out.next ((Q.refl w2).drew.cells _ _)).q rfl (.tmp 28) (.tmp 40) 22 rfl 32 i _ 2 8 Try.underlying22 HI.out.1 HI.out.2.2.2 HI.out.2.1 HI.out.2.2.1 rfl (by decide) u4 (n + 1) _ (by simp [Act.eval, Act.put]) (T2.out.next ((Q.refl w2).drew.cells _ _)).own _ 1 1 [.int .u32 (ky l (n + 1) : Nat), .int .u32 (kx l (n + 1) : Nat)] (by simp [Act.eval, Act.put]) rfl (news2 _ _ _ _) (one2 _ _) (by decide) b1 b2 ?_; intro g7 cap7 w7 own7 q7)
          all_goals
            have T3 : Hid (Turnd l w w7 (.slice (some ⟨g7, 0, none⟩) (n + 1 + 1) cap7) (n + 1 + 1)) := Turnd.step (k := n + 1) hkn q7 own7 T2.out.level (Or.inr HB.out)
            clear own7 q7 T2 x1 x2
            go_wp2_with fail
            go_roundg (l.length - (n + 1 + 1))
            case measure => go_light; omega
            case rel => go_light; exact ⟨n + 1 + 1, by go_num, by omega, T3⟩
        · refine wp_region_quiet_Q (by kernel_rfl) (by kernel_rfl) ?_
          repeat (first | go_big_quiet_step (first | (go_at_call 20; exact calls_qs (HQ.out _))) | quiet_step (first | (go_at_call 20; exact calls_qs (HQ.out _))))
          refine wpQuiet_nil ?_
          intro w2 hw'
          have hq2 := qw_out hw'
          have T2 : Hid (Turnd l w w2 u4 (n + 1)) := TK.out.next hq2
          clear hw' d1 d2 d4 n0 TK hq2 HQ
          go_wp2_with fail
          exact bodyPost_ret (v := .tuple #[.slice none 0 0, .int .i64 44]) (by simp [results, Try.results18, go_sem]) rfl ⟨T2.out.q, Or.inl ⟨⟨n, hkn, HB.out⟩, _, rfl⟩⟩
    · have hk : k = l.length := by omega
      subst hk
      obtain ⟨g', cap', cur, rfl, h2, h3, h4, h5, h6, h7⟩ : ∃ g' cap' cur, u4 = .slice (some ⟨g', 0, none⟩) l.length cap' ∧ w.heap.size ≤ g' ∧ wr.heap[g']? = some (.cells cur 32 (0, 0)) ∧ l.length ≤ cap' ∧ cap' ≤ maxLen ∧ cur.size = cap' * 2 ∧ cur.toList.take (l.length * 2) = (flat (sw l)).take (l.length * 2) := by
        rcases TK.out.own.2 with ⟨_, h0⟩ | ⟨g', cap', cur, a1, a2, a3, a4, a5, a6, a7⟩
        · omega
        · exact ⟨g', cap', cur, a1, a2, a3, a4, a5, a6, a7⟩
      go_wp2_with fail
      refine bodyPost_ret (v := .tuple #[.slice (some ⟨g', 0, none⟩) l.length cap', .int .i64 0]) (by simp [results, Try.results18, go_sem]) rfl ⟨TK.out.q, Or.inr ⟨?_, g', cap', by rw [sw_length], by rw [sw_length]; exact h4, h2, ?_⟩⟩
      · rintro ⟨i, h1, h2⟩
        rw [TK.out.level i h1] at h2
        exact absurd h2 (by decide)
      · refine KIs.of_flat fun j u hu => ?_
        rw [cell_of_row _ _ j cur 32 (0, 0) h3]
        have hj := (flat_of hu).1
        rw [sw_length] at hj
        have e : ((flat (sw l)).take (l.length * 2))[j]? = some u := by rw [List.getElem?_take, if_pos hj]; exact hu
        rw [← h7, List.getElem?_take, if_pos hj] at e
        simpa using e
end Go.Proofs.Ytfolecnjaaakeaa

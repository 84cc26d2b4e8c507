/- Appending to a list of the call's own: what lies where, and that nothing else is touched. -/
import Derived.Test.YtmfniimelibhfaaG7c903536
import Derived.Deep.AppendLies
import Derived.Deep.RegionLaw
import Derived.Test.YtmfniimelibhfaaG778d5167
namespace Go.Proofs.Ytmfniimelibhfaa
open Go.RowKit

theorem frozen_all_row {w w' : World} {g : Nat} {cs cs' : Array Value} {e e' : TypeId} (h : w.heap[g]? = some (.cells cs e (0, 0))) (h' : w'.heap[g]? = some (.cells cs' e' (0, 0))) (ho : ∀ k, k ≠ g → w'.heap[k]? = w.heap[k]?) (a : Addr) : w'.frozen? a = w.frozen? a := by
  by_cases hb : a.block = g
  · unfold World.frozen?
    rw [hb, h, h']
  · exact World.frozen?_of_block (ho _ hb)

theorem run_app_q {P : Program} (w w0 : World) (q0 : Q w0 w) (t ty : TypeId) (e : TypeId) (i : TypeInfo) (z : Value) (size bytes : Nat) (ht : P.underlying t = some (.slice e)) (hi : P.info? e = some i) (hz : i.zero = some z)
    (hsize : i.size = size) (hby : i.bytes = bytes) (hzs : z.cells.size = size) (hsz : 0 < size)
    (v : Value) (n : Nat) (xs : List Value) (hown : w.ownsRow w0.heap.size e size v n xs)
    (ad : Addr) (m c : Nat) (news : List Value) (hl : news.length = m * size) (hnews : ∀ j u, news[j]? = some u → w.cell? (ad.add j) = some u) (h1 : ∀ u ∈ news, u.oneCell' = true)
    (hm : 0 < m) (h63 : n + m ≤ maxLen) (hbytes : (n + m) * bytes ≤ 140737488355328) :
    ∃ g cap w', (Builtin.append_ #[t, t] ty #[v, .slice (some ad) m c]).run P w = .ok (.slice (some ⟨g, 0, none⟩) (n + m) cap) w' ∧
      w'.ownsRow w0.heap.size e size (.slice (some ⟨g, 0, none⟩) (n + m) cap) (n + m) (xs ++ news) ∧ Q w0 w' := by
  obtain ⟨g, cap, w', hr, h2, h3, h4, h5⟩ := run_append_lies (P := P) w t ty w0.heap.size e i z size bytes ht hi hz hsize hby hzs hsz v n xs hown ad m c news hl hnews h1 hm h63 hbytes q0.1.size _ rfl
  refine ⟨g, cap, w', hr, h2, ⟨⟨h3.os.trans q0.1.os, h3.tape.trans q0.1.tape, h3.output.trans q0.1.output, Nat.le_trans q0.1.size h3.size, fun k hk => ?_⟩, fun a => ?_⟩⟩
  · have hk2 : k < w.heap.size := Nat.lt_of_lt_of_le hk q0.1.size
    refine (h3.block k hk2 ?_).trans (q0.1.block k hk)
    intro hh
    rcases hown.2 with ⟨rfl, _⟩ | ⟨g', cap', cur, rfl, hb, _⟩
    · exact absurd hh (by simp [Value.ownBlock])
    · simp [Value.ownBlock] at hh
      omega
  · refine Eq.trans ?_ (q0.2 a)
    subst hsize
    have hsmall : n + m ≤ 9223372036854775807 := by simp only [maxLen] at h63; omega
    have hlt : n + m ≤ 9223372036854775807 := hsmall
    rcases hown.2 with ⟨rfl, rfl⟩ | ⟨g', cap', cur, rfl, hb, hg, hnc, hcm, hcs, htake⟩
    · have hr2 := run_append_nil (P := P) w t ty e i z ht hi hz ad m c news hl hnews (by omega) (by omega) (by rw [hby]; have hb := hbytes; simp only [Nat.zero_add] at hb; omega)
      rw [hr2] at hr
      injection hr with _ hr
      rw [← hr]
      exact frozen?_alloc_cells _ _ _ a
    · by_cases hroom : n + m ≤ cap'
      · have hfit : n * i.size + news.length ≤ cur.size := by rw [hl, hcs, ← Nat.add_mul]; exact Nat.mul_le_mul_right _ hroom
        have hr2 := run_append_room (P := P) w t ty e i ht hi g' n cap' cur hg ad m c news hl hnews h1 hroom hfit
        rw [hr2] at hr
        injection hr with _ hr
        rw [← hr]
        exact frozen_all_row hg (setRow_heap w g' cur _ e _ hg) (fun k hk => setRow_other w g' k _ (fun e => hk e)) a
      · have holds : ∀ j u, xs[j]? = some u → w.cell? ((⟨g', 0, none⟩ : Addr).add j) = some u := by
          intro j u hu
          rw [show (⟨g', 0, none⟩ : Addr).add j = ⟨g', j, none⟩ by unfold Addr.add; split <;> simp_all, cell_of_row _ _ j cur e (0, 0) hg]
          rw [← htake] at hu
          have hj : j < n * i.size := by
            have := (List.getElem?_eq_some_iff.1 hu).1
            simp at this; omega
          rw [List.getElem?_take, if_pos hj] at hu
          simpa using hu
        have hr2 := run_append_grow (P := P) w t ty e i z ht hi hz ⟨g', 0, none⟩ n cap' xs hown.1 holds ad m c news hl hnews (by omega) (by omega) (growslice_fits (by omega) (by rw [hby]; exact hbytes))
        rw [hr2] at hr
        injection hr with _ hr
        rw [← hr]
        exact frozen?_alloc_cells _ _ _ a

/-- At a step of a region that draws its order. -/
theorem step_app_q {P : Program} (w w0 : World) (q0 : Q w0 w) {ops : Array Oper} {o : Oper} {a : Act} {K : Act → World → Prop} {R : Exit → Act → World → Prop} {E : Prop} (hgd : o.guard = none) (s x : Operand) (t : TypeId)
    (ho : o.op = .call { callee := .builtin .append, args := #[s, x], argTypes := #[t, t] })
    (e : TypeId) (i : TypeInfo) (z : Value) (size bytes : Nat) (ht : P.underlying t = some (.slice e)) (hi : P.info? e = some i) (hz : i.zero = some z)
    (hsize : i.size = size) (hby : i.bytes = bytes) (hzs : z.cells.size = size) (hsz : 0 < size)
    (v : Value) (n : Nat) (xs : List Value) (hs : a.eval s = v) (hown : w.ownsRow w0.heap.size e size v n xs)
    (ad : Addr) (m c : Nat) (news : List Value) (hx : a.eval x = .slice (some ad) m c) (hl : news.length = m * size) (hnews : ∀ j u, news[j]? = some u → w.cell? (ad.add j) = some u) (h1 : ∀ u ∈ news, u.oneCell' = true)
    (hm : 0 < m) (h63 : n + m ≤ maxLen) (hbytes : (n + m) * bytes ≤ 140737488355328)
    (h : ∀ g cap w', w'.ownsRow w0.heap.size e size (.slice (some ⟨g, 0, none⟩) (n + m) cap) (n + m) (xs ++ news) → Q w0 w' → K (a.put o.dst (.slice (some ⟨g, 0, none⟩) (n + m) cap)) w') :
    if Region.wanted o (yielded ops a.tmps) = true then Oper.wp P o a w K R else E := by
  have hw : Region.wanted o (yielded ops a.tmps) = true := by simp [Region.wanted, hgd]
  rw [if_pos hw]
  obtain ⟨g, cap, w', hr, h2, h3⟩ := run_app_q (P := P) w w0 q0 t o.type e i z size bytes ht hi hz hsize hby hzs hsz v n xs hown ad m c news hl hnews h1 hm h63 hbytes
  unfold Oper.wp execOp
  simp only [ho, resolve, invoke, builtin, Sem.run_bind, Sem.run_pure, Result.andThen_ok, List.map_toArray, List.map_cons, List.map_nil, hs, hx, hr]
  exact h g cap w' h2 h3
end Go.Proofs.Ytmfniimelibhfaa
/- The document's curve turned round. -/
namespace Go.Proofs.Ytmfniimelibhfaa
open Go.RowKit
set_option linter.unusedVariables false
set_option linter.unusedSimpArgs false

theorem flat_next (l : List (Nat × Nat)) {k : Nat} (h : k < l.length) : (flat l).take ((k + 1) * 2) = (flat l).take (k * 2) ++ [.int .u32 (kx l k : Nat), .int .u32 (ky l k : Nat)] := by
  have h1 : (flat l)[k * 2]? = some (.int .u32 (kx l k : Nat)) := by rw [flat_get (by omega), kcell_x]
  have h2 : (flat l)[k * 2 + 1]? = some (.int .u32 (ky l k : Nat)) := by rw [flat_get (by omega), kcell_y]
  rw [show (k + 1) * 2 = k * 2 + 1 + 1 by omega, List.take_add_one, List.take_add_one, h1, h2]
  simp
/-- How far the document's turning has come. -/
structure Turnd (l : List (Nat × Nat)) (w wr : World) (v : Value) (k : Nat) : Prop where
  q : Q w wr
  own : wr.ownsRow w.heap.size 32 2 v k ((flat (sw l)).take (k * 2))
  level : ∀ i, i + 1 < k → equalB (ky l i) (ky l (i + 1)) = false
theorem Turnd.next {l : List (Nat × Nat)} {w wr wx : World} {v : Value} {k : Nat} (h : Turnd l w wr v k) (q : Q wr wx) : Turnd l w wx v k where
  q := h.q.trans q
  own := by
    refine ⟨h.own.1, ?_⟩
    rcases h.own.2 with a | ⟨g, cap, cur, h1, h2, h3, h4⟩
    · exact Or.inl a
    · have hg : g < wr.heap.size := by
        rcases Nat.lt_or_ge g wr.heap.size with hlt | hge
        · exact hlt
        · rw [Array.getElem?_eq_none hge] at h3; cases h3
      exact Or.inr ⟨g, cap, cur, h1, h2, (q.1.block g hg).trans h3, h4⟩
  level := h.level
theorem news2 (W : World) (v0 v1 : Value) (t : TypeId) : ∀ j u, [v0, v1][j]? = some u → (W.alloc (.cells #[v0, v1] t)).cell? ((⟨W.heap.size, 0, none⟩ : Addr).add j) = some u := by
  intro j u hu
  rw [show (⟨W.heap.size, 0, none⟩ : Addr).add j = ⟨W.heap.size, j, none⟩ by unfold Addr.add; split <;> simp_all, cell_of_row _ _ j #[v0, v1] t (0, 0) (heap_alloc_new W _)]
  simpa using hu
theorem one2 (a b : Nat) : ∀ u ∈ [Value.int .u32 (a : Int), .int .u32 (b : Int)], u.oneCell' = true := by
  intro u hu
  simp at hu
  rcases hu with rfl | rfl <;> rfl
theorem Turnd.step {l : List (Nat × Nat)} {w wr : World} {v : Value} {k : Nat} (hk : k < l.length) (q : Q w wr) (own : wr.ownsRow w.heap.size 32 2 v (k + 1) ((flat (sw l)).take (k * 2) ++ [.int .u32 (ky l k : Nat), .int .u32 (kx l k : Nat)])) (lv : ∀ i, i + 1 < k → equalB (ky l i) (ky l (i + 1)) = false) (hl : k = 0 ∨ equalB (ky l (k - 1)) (ky l k) = false) : Turnd l w wr v (k + 1) := by
  refine ⟨q, ?_, fun i hi => ?_⟩
  · rw [flat_next _ (by rw [sw_length]; exact hk), kx_sw, ky_sw]; exact own
  · by_cases e : i + 1 = k
    · rcases hl with hl | hl
      · omega
      · subst e; simpa using hl
    · exact lv i (by omega)

set_option maxHeartbeats 4000000 in
set_option maxRecDepth 100000 in
theorem rturn_any (g o cap : Nat) (l : List (Nat × Nat)) (hl : COk l) (w : World) (hk : KIs w g o l) :
    Calls Try.prog 18 #[.slice (some ⟨g, o, none⟩) l.length cap] w fun e w' => Q w w' ∧
      ((Level l ∧ ∃ v, e = .returned (.tuple #[v, .int .i64 44])) ∨ (¬ Level l ∧ ∃ g' cap', e = .returned (.tuple #[.slice (some ⟨g', 0, none⟩) (sw l).length cap', .int .i64 0]) ∧ (sw l).length ≤ cap' ∧ w.heap.size ≤ g' ∧ KIs w' g' 0 (sw l))) := by
  obtain ⟨i, i1, i2, i3, i4⟩ := knotInfo
  have HI : Hid (Try.prog.info? 32 = some i ∧ i.size = 2 ∧ i.bytes = 8 ∧ i.zero = some (.agg #[.int .u32 0, .int .u32 0])) := ⟨i1, i2, i3, i4⟩
  have HK : Hid (KIs w g o l) := hk
  have HL : Hid (COk l) := hl
  have t2 := hl.two
  have t64 := hl.many
  clear hk hl i1 i2 i3 i4
  go_enter Try.func18, Try.ntmps18
  go_wp2_with fail
  have T0 : Hid (Turnd l w w (.slice none 0 0) 0) := ⟨Q.refl w, ⟨by simp, Or.inl ⟨rfl, rfl⟩⟩, fun i hi => absurd hi (Nat.not_lt_zero _)⟩
  go_loopg [4, 5] l.length (fun m s4 s5 wr => ∃ k : Nat, s5 = .int .i64 k ∧ k + m = l.length ∧ Hid (Turnd l w wr s4 k))
  case atStart => exact ⟨0, rfl, by omega, T0⟩
  case round =>
    obtain ⟨k, rfl, hm, TK⟩ := hrel
    by_cases hkn : k < l.length
    · obtain ⟨x1, x2⟩ := HK.out k hkn
      replace x1 := TK.out.q.cell x1
      replace x2 := TK.out.q.cell x2
      have hi0 : (0 : Int) ≤ (k : Int) := by omega
      have hi1 : (k : Int) < (l.length : Int) := by omega
      have n0 := qw_some wr
      have d1 := qw_cell x1
      have d2 := qw_cell x2
      have b1 : k + 1 ≤ maxLen := by unfold maxLen; omega
      have b2 : (k + 1) * 8 ≤ 140737488355328 := by omega
      go_wp2_with fail
      by_cases hk0 : k = 0
      · subst hk0
        rw [Nat.zero_mul, Nat.add_zero] at x1 x2
        refine wp_region_quiet_Q (by kernel_rfl) (by kernel_rfl) ?_
        repeat (first | go_big_quiet_step (fail) | quiet_step (fail))
        refine wpQuiet_nil ?_
        intro w2 hw'
        have hq2 := qw_out hw'
        have T2 : Hid (Turnd l w w2 u4 0) := TK.out.next hq2
        replace x1 := hq2.cell x1
        replace x2 := hq2.cell x2
        clear hw' d1 d2 n0 TK hq2
        go_wp2_with fail
        go_region_law (refine step_app_q _ w (T2.out.next ((Q.refl w2).drew.cells _ _)).q rfl (.tmp 28) (.tmp 40) 22 rfl 32 i _ 2 8 Try.underlying22 HI.out.1 HI.out.2.2.2 HI.out.2.1 HI.out.2.2.1 rfl (by decide) u4 0 _ (by simp [Act.eval, Act.put]) (T2.out.next ((Q.refl w2).drew.cells _ _)).own _ 1 1 [.int .u32 (ky l 0 : Nat), .int .u32 (kx l 0 : Nat)] (by simp [Act.eval, Act.put]) rfl (news2 _ _ _ _) (one2 _ _) (by decide) b1 b2 ?_; intro g7 cap7 w7 own7 q7)
        all_goals
          have T3 : Hid (Turnd l w w7 (.slice (some ⟨g7, 0, none⟩) 1 cap7) 1) := Turnd.step (k := 0) hkn q7 own7 T2.out.level (Or.inl rfl)
          clear own7 q7 T2 x1 x2
          go_wp2_with fail
          go_roundg (l.length - 1)
          case measure => go_light; omega
          case rel => go_light; exact ⟨1, rfl, by omega, T3⟩
      · obtain ⟨n, rfl⟩ : ∃ n, k = n + 1 := ⟨k - 1, by omega⟩
        have x3 := TK.out.q.cell (HK.out n (by omega)).2
        have j0 : (0 : Int) < ((n + 1 : Nat) : Int) := by omega
        have j1 : ((n + 1 : Nat) : Int) - 1 = (n : Int) := by omega
        have j2 : (0 : Int) ≤ (n : Int) := by omega
        have j3 : (n : Int) < (l.length : Int) := by omega
        have d4 := qw_cell x3
        obtain ⟨B, hB⟩ : ∃ B, equalB (ky l n) (ky l (n + 1)) = B := ⟨_, rfl⟩
        have HQ : Hid (∀ W : World, Calls Try.prog 20 #[.int .u32 (ky l n : Int), .int .u32 (ky l (n + 1) : Int)] W fun e w' => e = .returned (.bool B) ∧ w' = W) := fun W => by rw [← hB]; exact rsame_any _ _ (HL.out.lt _).2 (HL.out.lt _).2 W
        have HB : Hid (equalB (ky l n) (ky l (n + 1)) = B) := hB
        clear hB
        cases B
        · refine wp_region_quiet_Q (by kernel_rfl) (by kernel_rfl) ?_
          repeat (first | go_big_quiet_step (first | (go_at_call 20; exact calls_qs (HQ.out _))) | quiet_step (first | (go_at_call 20; exact calls_qs (HQ.out _))))
          refine wpQuiet_nil ?_
          intro w2 hw'
          have hq2 := qw_out hw'
          have T2 : Hid (Turnd l w w2 u4 (n + 1)) := TK.out.next hq2
          replace x1 := hq2.cell x1
          replace x2 := hq2.cell x2
          clear hw' d1 d2 d4 x3 n0 TK hq2 HQ
          have j4 : (0 : Int) ≤ (n : Int) + 1 := by omega
          have j5 : (n : Int) + 1 < (l.length : Int) := by omega
          go_wp2_with fail
          go_region_law (refine step_app_q _ w (T2.out.next ((Q.refl w2).drew.cells _ _)).q rfl (.tmp 28) (.tmp 40) 22 rfl 32 i _ 2 8 Try.underlying22 HI.out.1 HI.out.2.2.2 HI.out.2.1 HI.out.2.2.1 rfl (by decide) u4 (n + 1) _ (by simp [Act.eval, Act.put]) (T2.out.next ((Q.refl w2).drew.cells _ _)).own _ 1 1 [.int .u32 (ky l (n + 1) : Nat), .int .u32 (kx l (n + 1) : Nat)] (by simp [Act.eval, Act.put]) rfl (news2 _ _ _ _) (one2 _ _) (by decide) b1 b2 ?_; intro g7 cap7 w7 own7 q7)
          all_goals
            have T3 : Hid (Turnd l w w7 (.slice (some ⟨g7, 0, none⟩) (n + 1 + 1) cap7) (n + 1 + 1)) := Turnd.step (k := n + 1) hkn q7 own7 T2.out.level (Or.inr HB.out)
            clear own7 q7 T2 x1 x2
            go_wp2_with fail
            go_roundg (l.length - (n + 1 + 1))
            case measure => go_light; omega
            case rel => go_light; exact ⟨n + 1 + 1, by go_num, by omega, T3⟩
        · refine wp_region_quiet_Q (by kernel_rfl) (by kernel_rfl) ?_
          repeat (first | go_big_quiet_step (first | (go_at_call 20; exact calls_qs (HQ.out _))) | quiet_step (first | (go_at_call 20; exact calls_qs (HQ.out _))))
          refine wpQuiet_nil ?_
          intro w2 hw'
          have hq2 := qw_out hw'
          have T2 : Hid (Turnd l w w2 u4 (n + 1)) := TK.out.next hq2
          clear hw' d1 d2 d4 n0 TK hq2 HQ
          go_wp2_with fail
          exact bodyPost_ret (v := .tuple #[.slice none 0 0, .int .i64 44]) (by simp [results, Try.results18, go_sem]) rfl ⟨T2.out.q, Or.inl ⟨⟨n, hkn, HB.out⟩, _, rfl⟩⟩
    · have hk : k = l.length := by omega
      subst hk
      obtain ⟨g', cap', cur, rfl, h2, h3, h4, h5, h6, h7⟩ : ∃ g' cap' cur, u4 = .slice (some ⟨g', 0, none⟩) l.length cap' ∧ w.heap.size ≤ g' ∧ wr.heap[g']? = some (.cells cur 32 (0, 0)) ∧ l.length ≤ cap' ∧ cap' ≤ maxLen ∧ cur.size = cap' * 2 ∧ cur.toList.take (l.length * 2) = (flat (sw l)).take (l.length * 2) := by
        rcases TK.out.own.2 with ⟨_, h0⟩ | ⟨g', cap', cur, a1, a2, a3, a4, a5, a6, a7⟩
        · omega
        · exact ⟨g', cap', cur, a1, a2, a3, a4, a5, a6, a7⟩
      go_wp2_with fail
      refine bodyPost_ret (v := .tuple #[.slice (some ⟨g', 0, none⟩) l.length cap', .int .i64 0]) (by simp [results, Try.results18, go_sem]) rfl ⟨TK.out.q, Or.inr ⟨?_, g', cap', by rw [sw_length], by rw [sw_length]; exact h4, h2, ?_⟩⟩
      · rintro ⟨i, h1, h2⟩
        rw [TK.out.level i h1] at h2
        exact absurd h2 (by decide)
      · refine KIs.of_flat fun j u hu => ?_
        rw [cell_of_row _ _ j cur 32 (0, 0) h3]
        have hj := (flat_of hu).1
        rw [sw_length] at hj
        have e : ((flat (sw l)).take (l.length * 2))[j]? = some u := by rw [List.getElem?_take, if_pos hj]; exact hu
        rw [← h7, List.getElem?_take, if_pos hj] at e
        simpa using e
end Go.Proofs.Ytmfniimelibhfaa
/- A curve turned round, and what becomes of a sample that goes there and back. -/
namespace Go.Proofs.Ytmfniimelibhfaa
open Go.RowKit
set_option linter.unusedVariables false
set_option linter.unusedSimpArgs false

theorem sw_level {l : List (Nat × Nat)} (hl : COk l) : ¬ Level (sw l) := by
  rintro ⟨i, h1, h2⟩
  rw [sw_length] at h1
  rw [ky_sw, ky_sw, equalB_num (fin_nan (hl.fin i (by omega)).1) (fin_nan (hl.fin (i + 1) h1).1)] at h2
  have := of_decide_eq_true h2
  have := (hl.rise i h1).1
  omega
theorem equalB_self {a : Nat} (h : nanN a = false) : equalB a a = true := by rw [equalB_num h h]; exact decide_eq_true rfl
theorem back_knot {l : List (Nat × Nat)} (hl : COk l) (hv : ¬ Level l) {i : Nat} (hi : i < l.length) : atV (sw l) (ky l i) = kx l i := by
  have n := fin_nan (hl.fin i hi).2
  have := at_same (sw_ok hl hv) (x := ky l i) (i := i) n (by rw [sw_length]; exact hi) (by rw [kx_sw]; exact equalB_self n)
  rw [this, ky_sw]
/-- P4.9: there and back again a sample stays between the same two knots. -/
theorem back_between {l : List (Nat × Nat)} (hl : COk l) (hv : ¬ Level l) {i x : Nat} (hi : i + 1 < l.length) (hn : nanN x = false) (hx : x < 4294967296) (h1 : lessB x (kx l i) = false) (h2 : lessB (kx l (i + 1)) x = false) :
    lessB (atV (sw l) (atV l x)) (kx l i) = false ∧ lessB (kx l (i + 1)) (atV (sw l) (atV l x)) = false := by
  have f0 := hl.fin i (by omega)
  have f1 := hl.fin (i + 1) hi
  have n0 := fin_nan f0.1
  have n1 := fin_nan f1.1
  rw [lessB_num hn n0] at h1
  rw [lessB_num n1 hn] at h2
  have h1 := of_decide_eq_false h1
  have h2 := of_decide_eq_false h2
  have hk := sw_ok hl hv
  have e0 : atV l (kx l i) = ky l i := at_same hl n0 (by omega) (equalB_self n0)
  have e1 : atV l (kx l (i + 1)) = ky l (i + 1) := at_same hl n1 hi (equalB_self n1)
  have m0 := at_mono hl n0 hn (by omega)
  have m1 := at_mono hl hn n1 (by omega)
  rw [e0] at m0
  rw [e1] at m1
  have na := fin_nan (at_range hl hn).1
  have p0 := at_mono hk (fin_nan f0.2) na m0
  have p1 := at_mono hk na (fin_nan f1.2) m1
  rw [back_knot hl hv (by omega)] at p0
  rw [back_knot hl hv hi] at p1
  have nb := fin_nan (at_range hk na).1
  rw [lessB_num nb n0, lessB_num n1 nb]
  exact ⟨decide_eq_false (by omega), decide_eq_false (by omega)⟩

set_option maxHeartbeats 4000000 in
set_option maxRecDepth 100000 in
theorem turned_any (g o cap bt bc : Nat) (l : List (Nat × Nat)) (hl : COk l) (hv : ¬ Level l) (x : Nat) (hx : x < 4294967296) (w : World) (hk : KIs w g o l) (ht : CIs w bt 0 (sw l)) (hc : CIs w bc 0 l) :
    Calls Try.prog 21 #[.slice (some ⟨g, o, none⟩) l.length cap, .pointer (some ⟨bt, 0, none⟩), .pointer (some ⟨bc, 0, none⟩), .int .u32 x] w fun e w' => e = .returned (.bool true) ∧ Q w w' := by
  have HK : Hid (KIs w g o l) := hk
  have HL : Hid (COk l ∧ ¬ Level l) := ⟨hl, hv⟩
  have HT : Hid (CIs w bt 0 (sw l)) := ht
  have HC : Hid (CIs w bc 0 l) := hc
  have t2 := hl.two
  have t64 := hl.many
  clear hk hl hv ht hc
  go_enter Try.func21, Try.ntmps21
  go_wp2_with fail
  go_loopg [9] (l.length - 1) (fun m s9 wr => ∃ n : Nat, s9 = .int .i64 ((n + 1 : Nat) : Int) ∧ n + 1 + m = l.length ∧ Q w wr)
  case atStart => exact ⟨0, rfl, by omega, Q.refl _⟩
  case round =>
    obtain ⟨n, rfl, hm, hqx⟩ := hrel
    by_cases hkn : n + 1 < l.length
    · have c0 := hqx.cell (HK.out n (by omega)).1
      have c1 := hqx.cell (HK.out (n + 1) hkn).1
      obtain ⟨A, hA⟩ : ∃ A, kx l n = A := ⟨_, rfl⟩
      obtain ⟨B, hB⟩ : ∃ B, kx l (n + 1) = B := ⟨_, rfl⟩
      have HAB : Hid (kx l n = A ∧ kx l (n + 1) = B) := ⟨hA, hB⟩
      have hAl : A < 4294967296 := by rw [← hA]; exact (HL.out.1.lt _).1
      have hBl : B < 4294967296 := by rw [← hB]; exact (HL.out.1.lt _).1
      rw [hA] at c0
      rw [hB] at c1
      clear hA hB
      have i0 : (0 : Int) ≤ (n : Int) := by omega
      have i1 : (n : Int) < (l.length : Int) := by omega
      have i2 : (0 : Int) ≤ (n : Int) + 1 := by omega
      have i3 : (n : Int) + 1 < (l.length : Int) := by omega
      go_wp2_with fail
      refine (rnan_any x hx _).mono ?_
      rintro e w1 ⟨rfl, rfl⟩
      cases hn : nanN x
      · go_wp2_with fail
        refine (rbelow_any x A hx hAl _).mono ?_
        rintro e w2 ⟨rfl, rfl⟩
        cases h1 : lessB x A
        · go_wp2_with fail
          refine (rbelow_any B x hBl hx _).mono ?_
          rintro e w3 ⟨rfl, rfl⟩
          cases h2 : lessB B x
          · obtain ⟨z1, z2⟩ := back_between HL.out.1 HL.out.2 hkn hn hx (by rw [HAB.out.1]; exact h1) (by rw [HAB.out.2]; exact h2)
            rw [HAB.out.1] at z1
            rw [HAB.out.2] at z2
            have yl : atV l x < 4294967296 := atV_lt HL.out.1 hx
            have zl : atV (sw l) (atV l x) < 4294967296 := atV_lt (sw_ok HL.out.1 HL.out.2) yl
            have HA1 : Hid (∀ W : World, Q w W → Calls Try.prog 13 #[.pointer (some ⟨bc, 0, none⟩), .int .u32 (x : Int)] W fun e w' => e = .returned (.int .u32 (atV l x : Nat)) ∧ Q W w') := fun W h => at_any bc 0 l HL.out.1 x hx W (HC.out.next h)
            have HA2 : Hid (∀ W : World, Q w W → Calls Try.prog 13 #[.pointer (some ⟨bt, 0, none⟩), .int .u32 (atV l x : Int)] W fun e w' => e = .returned (.int .u32 (atV (sw l) (atV l x) : Nat)) ∧ Q W w') := fun W h => at_any bt 0 (sw l) (sw_ok HL.out.1 HL.out.2) (atV l x) yl W (HT.out.next h)
            generalize atV (sw l) (atV l x) = Z at *
            generalize atV l x = Y at *
            clear hn h1 h2
            go_wp2_with fail
            refine (HA1.out _ hqx).mono ?_
            rintro e w4 ⟨rfl, q4⟩
            replace hqx := hqx.trans q4
            replace c0 := q4.cell c0
            replace c1 := q4.cell c1
            clear q4
            go_wp2_with fail
            refine (HA2.out _ hqx).mono ?_
            rintro e w5 ⟨rfl, q5⟩
            replace hqx := hqx.trans q5
            replace c0 := q5.cell c0
            replace c1 := q5.cell c1
            clear q5 HA1 HA2
            go_wp2_with fail
            refine (rbelow_any Z A zl hAl _).mono ?_
            rintro e w6 ⟨rfl, rfl⟩
            rw [z1]
            go_wp2_with fail
            refine (rbelow_any B Z hBl zl _).mono ?_
            rintro e w7 ⟨rfl, rfl⟩
            rw [z2]
            go_wp2_with fail
            go_roundg (l.length - (n + 2))
            case measure => go_light; omega
            case rel => go_light; exact ⟨n + 1, by go_num, by omega, hqx⟩
          · clear hn h1 h2
            go_wp2_with fail
            go_roundg (l.length - (n + 2))
            case measure => go_light; omega
            case rel => go_light; exact ⟨n + 1, by go_num, by omega, hqx⟩
        · clear hn h1
          go_wp2_with fail
          go_roundg (l.length - (n + 2))
          case measure => go_light; omega
          case rel => go_light; exact ⟨n + 1, by go_num, by omega, hqx⟩
      · clear hn
        go_wp2_with fail
        go_roundg (l.length - (n + 2))
        case measure => go_light; omega
        case rel => go_light; exact ⟨n + 1, by go_num, by omega, hqx⟩
    · have i3 : ¬ ((n : Int) + 1 < (l.length : Int)) := by omega
      go_wp2_with fail
      go_ret
      exact ⟨rfl, hqx⟩
end Go.Proofs.Ytmfniimelibhfaa

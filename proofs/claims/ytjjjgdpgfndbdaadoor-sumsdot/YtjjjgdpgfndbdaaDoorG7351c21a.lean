/- Appending to a list without room: what lies where. -/
import Derived.Test.YtjjjgdpgfndbdaaDoorGeeabb115
import Derived.Laws.Append
import Derived.Laws.AppendOwn
import Derived.OwnWalk
import Derived.Test.YtjjjgdpgfndbdaaDoorGbbceb500
import Derived.Test.YtjjjgdpgfndbdaaDoorG08ba9954
import Derived.Test.YtjjjgdpgfndbdaaDoorGe5b8b7c6
namespace Go.Proofs.YtjjjgdpgfndbdaaDoor
open Go.RowKit

theorem run_app_new {P : Program} (w : World) (t ty e : TypeId) (i : TypeInfo) (z : Value) (ht : P.underlying t = some (.slice e)) (hi : P.info? e = some i) (hz : i.zero = some z)
    (v : Value) (hv : v = .slice none 0 0 ∨ ∃ b, v = .slice (some b) 0 0) (ad : Addr) (m c : Nat) (news : List Value) (hl : news.length = m * i.size) (hnews : ∀ j u, news[j]? = some u → w.cell? (ad.add j) = some u)
    (h0 : 0 < m) (h63 : m ≤ 1125899906842624) (hby : m * i.bytes ≤ 140737488355328) :
    ∃ cap w', (Builtin.append_ #[t, t] ty #[v, .slice (some ad) m c]).run P w = .ok (.slice (some ⟨w.heap.size, 0, none⟩) m cap) w' ∧ Q w w' ∧ m ≤ cap ∧ w'.heap.size = w.heap.size + 1 ∧
      (∀ j u, news[j]? = some u → w'.cell? ⟨w.heap.size, j, none⟩ = some u) ∧ ∀ j, w'.frozen? ⟨w.heap.size, j, none⟩ = false := by
  have fin : ∀ (cs : Array Value), (∀ (j : Nat) (u : Value), news[j]? = some u → cs[j]? = some u) → Q w (w.drew.alloc (.cells cs e)) ∧ (w.drew.alloc (.cells cs e)).heap.size = w.heap.size + 1 ∧
      (∀ (j : Nat) (u : Value), news[j]? = some u → (w.drew.alloc (.cells cs e)).cell? ⟨w.heap.size, j, none⟩ = some u) ∧ ∀ j, (w.drew.alloc (.cells cs e)).frozen? ⟨w.heap.size, j, none⟩ = false := by
    intro cs hcs
    have hb : (w.drew.alloc (.cells cs e)).heap[w.heap.size]? = some (.cells cs e (0, 0)) := heap_alloc_new w.drew _
    refine ⟨(Q.refl w).drew.cells _ _, by simp, fun j u hu => ?_, fun j => frozen_of_row _ _ _ _ _ hb⟩
    rw [cell_of_row _ _ j cs e (0, 0) hb]
    exact hcs j u hu
  have key : ∀ (n : Nat) (j : Nat) (u : Value), news[j]? = some u → (news.toArray ++ Builtin.zeroCells z.cells n)[j]? = some u := by
    intro n j u hu
    have hj : j < news.length := (List.getElem?_eq_some_iff.1 hu).1
    rw [Array.getElem?_append_left (by simpa using hj)]
    simpa using hu
  rcases hv with rfl | ⟨b, rfl⟩
  · have hr := run_append_nil (P := P) w t ty e i z ht hi hz ad m c news hl hnews h0 (by omega) (by omega)
    obtain ⟨q1, q2, q3, q4⟩ := fin _ (key (grownCap w m 0 e - m))
    exact ⟨_, _, hr, q1, grownCap_ge w m 0 e, q2, q3, q4⟩
  · have hr := run_append_grow (P := P) w t ty e i z ht hi hz b 0 0 [] (by simp) (fun j v h => by simp at h) ad m c news hl hnews (by omega) (by omega) (growslice_fits (by omega) (by rw [Nat.zero_add]; exact hby))
    simp only [Nat.zero_add, Array.empty_append] at hr
    obtain ⟨q1, q2, q3, q4⟩ := fin _ (key (grownCap w m 0 e - m))
    exact ⟨_, _, hr, q1, grownCap_ge w m 0 e, q2, q3, q4⟩

/-- In a list of operations. -/
theorem wpList_app {P : Program} (w : World) {ops : Array Oper} {rest : List Oper} {o : Oper} {a : Act} {R : Exit → Act → World → Prop} (hgd : o.guard = none) (s x : Operand) (t : TypeId)
    (ho : o.op = .call { callee := .builtin .append, args := #[s, x], argTypes := #[t, t] })
    (e : TypeId) (i : TypeInfo) (z : Value) (ht : P.underlying t = some (.slice e)) (hi : P.info? e = some i) (hz : i.zero = some z)
    (v : Value) (hv : v = .slice none 0 0 ∨ ∃ b, v = .slice (some b) 0 0) (hs : a.eval s = v) (ad : Addr) (m c : Nat) (news : List Value) (hx : a.eval x = .slice (some ad) m c) (hl : news.length = m * i.size) (hnews : ∀ j u, news[j]? = some u → w.cell? (ad.add j) = some u)
    (h0 : 0 < m) (h63 : m ≤ 1125899906842624) (hby : m * i.bytes ≤ 140737488355328)
    (h : ∀ cap w', Q w w' → m ≤ cap → w'.heap.size = w.heap.size + 1 → (∀ j u, news[j]? = some u → w'.cell? ⟨w.heap.size, j, none⟩ = some u) → (∀ j, w'.frozen? ⟨w.heap.size, j, none⟩ = false) → wpList P ops R rest (a.put o.dst (.slice (some ⟨w.heap.size, 0, none⟩) m cap)) w') :
    wpList P ops R (o :: rest) a w := by
  obtain ⟨cap, w', hr, h1, h2, h3, h4, h5⟩ := run_app_new (P := P) w t o.type e i z ht hi hz v hv ad m c news hl hnews h0 h63 hby
  refine wpList_plain hgd fun _ hK => ?_
  unfold Oper.wp execOp
  simp only [ho, resolve, invoke, builtin, Sem.run_bind, Sem.run_pure, Result.andThen_ok, List.map_toArray, List.map_cons, List.map_nil, hs, hx, hr]
  exact hK _ _ (h cap w' h1 h2 h3 h4 h5)
end Go.Proofs.YtjjjgdpgfndbdaaDoor
/- The statement SumsDot: its walk. -/
namespace Go.Proofs.YtjjjgdpgfndbdaaDoor
open Go.RowKit
set_option linter.unusedVariables false
set_option linter.unusedSimpArgs false

theorem int_info : ∃ i, Tryd.prog.info? 3 = some i ∧ i.size = 1 ∧ i.bytes = 8 ∧ i.zero = some (.int .i64 0) := info_of (by kernel_rfl) (by kernel_rfl)
theorem run_app_zeroI {P : Program} (w : World) (t ty e : TypeId) (i : TypeInfo) (ht : P.underlying t = some (.slice e)) (hi : P.info? e = some i) (a : Option Addr) (c : Nat) : (Builtin.append_ #[t, t] ty #[.slice none 0 0, .slice a 0 c]).run P w = .ok (.slice none 0 0) w := by
  cases a <;> simp [Builtin.append_, run_underlying ht, sizeOf, typeInfo, hi, Builtin.lenOf, Builtin.firstCells, loadCells, loadCellsFrom]
/-- Appending weights to nothing. -/
theorem wpList_lendI (w : World) {ops : Array Oper} {rest : List Oper} {o : Oper} {a : Act} {R : Exit → Act → World → Prop} (hgd : o.guard = none) (x : Operand)
    (ho : o.op = .call { callee := .builtin .append, args := #[.const (.slice none 0 0), x], argTypes := #[31, 31] })
    (ad : Option Addr) (n c : Nat) (xs : List Int) (hn : xs.length = n) (h100 : n ≤ 2000) (hx : a.eval x = .slice ad n c) (hS : ISl w (.slice ad n c) xs)
    (h : ∀ la lc w', Q w w' → ISl w' (.slice la n lc) xs → wpList Tryd.prog ops R rest (a.put o.dst (.slice la n lc)) w') :
    wpList Tryd.prog ops R (o :: rest) a w := by
  obtain ⟨iu, i1, i2, i3, i4⟩ := int_info
  refine wpList_plain hgd fun _ hK => ?_
  unfold Oper.wp execOp
  by_cases h0 : n = 0
  · subst h0
    have hr := run_app_zeroI (P := Tryd.prog) w 31 o.type 3 iu Tryd.underlying31 i1 ad c
    simp only [ho, resolve, invoke, builtin, Sem.run_bind, Sem.run_pure, Result.andThen_ok, List.map_toArray, List.map_cons, List.map_nil, Act.eval, hr]
    simp only [Act.eval] at hx
    rw [hx, hr]
    exact hK _ _ (h none 0 w (Q.refl w) (Or.inr ⟨_, _, rfl, List.length_eq_zero_iff.1 hn⟩))
  · obtain ⟨g, o', c', e1, e3⟩ := hS.some (by omega)
    have hx' := hx
    rw [e1] at hx'
    obtain ⟨lc, w', hr, q1, q2, q3, q4, q5⟩ := run_app_new (P := Tryd.prog) w 31 o.type 3 iu _ Tryd.underlying31 i1 i4 _ (Or.inl rfl) ⟨g, o', none⟩ xs.length c' (xs.map fun (x : Int) => Value.int .i64 x) (by rw [i2, List.length_map, Nat.mul_one]) (fun j u hj => by
      rw [List.getElem?_map] at hj
      have hjl : j < xs.length := by
        cases g : xs[j]? with
        | none => rw [g] at hj; cases hj
        | some y => exact (List.getElem?_eq_some_iff.1 g).1
      rw [show (⟨g, o', none⟩ : Addr).add j = ⟨g, o' + j, none⟩ by unfold Addr.add; split <;> simp_all]
      rw [e3 j hjl, List.getD_eq_getElem?_getD]
      rw [List.getElem?_eq_getElem hjl] at hj ⊢
      exact hj) (by omega) (by omega) (by rw [i3]; omega)
    simp only [ho, resolve, invoke, builtin, Sem.run_bind, Sem.run_pure, Result.andThen_ok, List.map_toArray, List.map_cons, List.map_nil, Act.eval]
    simp only [Act.eval] at hx'
    rw [hx', hr]
    refine hK _ _ ?_
    have hh := h (some ⟨w.heap.size, 0, none⟩) lc w' q1 (Or.inl ⟨w.heap.size, 0, lc, by rw [hn], fun j hj => ?_⟩)
    · rw [hn]; exact hh
    · rw [Nat.zero_add]
      refine q4 j _ ?_
      rw [List.getElem?_map, List.getD_eq_getElem?_getD, List.getElem?_eq_getElem hj]; rfl
set_option maxHeartbeats 4000000 in
set_option maxRecDepth 100000 in
theorem dot_walk (vw vl : Value) (W : List Int) (S : List Nat) (w : World) (hw : ISl w vw W) (hv : USl w vl S) (hb : ∀ i, S.getD i 0 < 4294967296) (hnW : W.length ≤ 9223372036854775807) (hn : S.length ≤ 9223372036854775807) (hT : Tab w) : Calls Tryd.prog 7 #[vw, vl] w fun e w' => e = .returned (.bool true) ∧ Q w w' := by
  obtain ⟨a, c, rfl⟩ := hv.form
  obtain ⟨aw, cw, rfl⟩ := hw.form
  have HV : Hid (USl w (.slice a S.length c) S) := hv
  have HW : Hid (ISl w (.slice aw W.length cw) W) := hw
  have HT : Hid (Tab w) := hT
  have HB : Hid (∀ i, S.getD i 0 < 4294967296) := hb
  clear hv hT hb hw
  by_cases hm : 2000 < S.length
  · have hm' : (2000 : Int) < S.length := by omega
    clear hm
    go_enter Tryd.func7, Tryd.ntmps7
    go_wp2_with fail
    refine (known_any _ HT.out).mono ?_
    rintro e w1 ⟨rfl, q1⟩
    go_wp2_with fail
    go_ret
    exact ⟨rfl, q1⟩
  · have hm' : ¬ (2000 : Int) < S.length := by omega
    by_cases hk : 2000 < W.length
    · have hk' : (2000 : Int) < W.length := by omega
      clear hk
      go_enter Tryd.func7, Tryd.ntmps7
      go_wp2_with fail
      refine (known_any _ HT.out).mono ?_
      rintro e w1 ⟨rfl, q1⟩
      go_wp2_with fail
      go_ret
      exact ⟨rfl, q1⟩
    · have hk' : ¬ (2000 : Int) < W.length := by omega
      go_enter Tryd.func7, Tryd.ntmps7
      go_wp2_with fail
      refine (known_any _ HT.out).mono ?_
      rintro e w1 ⟨rfl, q1⟩
      have HQ1 : Hid (Q w w1) := q1
      clear q1
      go_wp2_with fail
      refine (lent_any _ S _ (HV.out.next HQ1.out) (by omega)).mono ?_
      rintro e w2 ⟨rfl, hL, q2⟩
      have HL : Hid (Lent w2 w1.heap.size S) := hL
      have HQ2 : Hid (Q w w2) := HQ1.out.trans q2
      clear hL q2 HQ1
      generalize w1.heap.size = g at *
      unfold lentV
      go_wp2_with (at_builtin; go_must (refine wpList_lendI w2 rfl (.tmp 28) rfl aw W.length cw W rfl (by omega) (by simp [Act.eval, Act.put]) (HW.out.next HQ2.out) ?_; intro la lc w3 q3 hI3; have HQ3 : Hid (Q w w3) := HQ2.out.trans q3; have HL3 : Hid (Lent w3 g S) := HL.out.next q3; have HI3 : Hid (ISl w3 (.slice la W.length lc) W) := hI3; clear q3 hI3 HL HQ2))
      refine (dot64_all _ _ W S _ HI3.out HL3.out.usl (by omega) (by omega) HB.out).mono ?_
      rintro e w4 ⟨rfl, q4⟩
      have HL4 : Hid (Lent w4 g S) := HL3.out.next q4
      have HI4 : Hid (ISl w4 (.slice la W.length lc) W) := HI3.out.next q4
      have HQ4 : Hid (Q w w4) := HQ3.out.trans q4
      clear HL3 HI3 HQ3 q4
      go_wp2_with fail
      refine (rdot64_all _ _ W S _ (HW.out.next HQ4.out) (HV.out.next HQ4.out) (by omega) (by omega) HB.out).mono ?_
      rintro e w5 ⟨rfl, q5⟩
      have HL5 : Hid (Lent w5 g S) := HL4.out.next q5
      have HI5 : Hid (ISl w5 (.slice la W.length lc) W) := HI4.out.next q5
      have HQ5 : Hid (Q w w5) := HQ4.out.trans q5
      clear HL4 HI4 HQ4 q5
      generalize dotA W S = A at *
      go_wp2_with fail
      refine (dot_all _ _ W S _ HI5.out HL5.out.usl (by omega) (by omega) HB.out).mono ?_
      rintro e w6 ⟨rfl, q6⟩
      have HL6 : Hid (Lent w6 g S) := HL5.out.next q6
      have HI6 : Hid (ISl w6 (.slice la W.length lc) W) := HI5.out.next q6
      have HQ6 : Hid (Q w w6) := HQ5.out.trans q6
      clear HL5 HI5 HQ5 q6
      go_wp2_with fail
      refine (rdot_all _ _ W S _ (HW.out.next HQ6.out) (HV.out.next HQ6.out) (by omega) (by omega) HB.out).mono ?_
      rintro e w7 ⟨rfl, q7⟩
      have HL7 : Hid (Lent w7 g S) := HL6.out.next q7
      have HI7 : Hid (ISl w7 (.slice la W.length lc) W) := HI6.out.next q7
      have HQ7 : Hid (Q w w7) := HQ6.out.trans q7
      clear HL6 HI6 HQ6 q7
      generalize dotB W S = B at *
      generalize dotE W S = E at *
      go_wp2_with fail
      go_loopg [15] (W.length) (fun gh s15 wr => ∃ i : Nat, s15 = .int .i64 (i : Int) ∧ i ≤ W.length ∧ gh = W.length - i ∧ Hid (Q w7 wr))
      case atStart => exact ⟨0, rfl, by omega, rfl, Q.refl _⟩
      case round =>
        obtain ⟨i, rfl, hi, rfl, HQ⟩ := hrel
        by_cases hlt : i < W.length
        · obtain ⟨g1, o1, cap1, hsl, hI1⟩ := HI7.out.some (by omega)
          injection hsl with hs1 hs2 hs3
          subst hs1 hs3
          clear hs2
          obtain ⟨g2, o2, cap2, hsl, hI2⟩ := HW.out.some (by omega)
          injection hsl with hs1 hs2 hs3
          subst hs1 hs3
          clear hs2
          have c1 := HQ.out.cell (hI1 i hlt)
          have c2 := HQ.out.cell (HQ7.out.cell (hI2 i hlt))
          generalize W.getD i 0 = x at *
          have d1 := qw_cell c1
          have d2 := qw_cell c2
          have n0 := qw_some wr
          clear hI1 hI2
          go_wp2_with fail
          refine wp_region_quiet_Q (by kernel_rfl) (by kernel_rfl) ?_
          repeat (first | go_big_quiet_step (fail) | quiet_step (fail))
          refine wpQuiet_nil ?_
          intro w8 hw'
          have HQ8 : Hid (Q w7 w8) := HQ.out.trans (qw_out hw')
          clear hw' n0 d1 d2
          go_wp2_with fail
          go_roundg (W.length - (i + 1))
          case measure => go_light; omega
          case rel => go_light; exact ⟨i + 1, by simp, by omega, rfl, HQ8⟩
        · obtain rfl : i = W.length := by omega
          have hge : ¬ (W.length : Int) < (W.length : Int) := by omega
          go_wp2_with fail
          refine (stays_any g _ S _ (HL7.out.next HQ.out) (HV.out.next (HQ7.out.trans HQ.out)) (by omega)).mono ?_
          rintro e w9 ⟨rfl, q9⟩
          go_wp2_with fail
          go_ret
          exact ⟨rfl, (HQ7.out.trans HQ.out).trans q9⟩
end Go.Proofs.YtjjjgdpgfndbdaaDoor

/- Appending to a list without room: what lies where. -/
import Derived.Test.YtikhmlcmmabapaaG18da661d
import Derived.Laws.Append
import Derived.Laws.AppendOwn
import Derived.OwnWalk
import Derived.Test.YtikhmlcmmabapaaGabed4056
import Derived.Test.YtikhmlcmmabapaaG1a232a06
import Derived.Test.YtikhmlcmmabapaaG2b2bd855
namespace Go.Proofs.Ytikhmlcmmabapaa
open Go.RowKit

theorem run_app_new {P : Program} (w : World) (t ty e : TypeId) (i : TypeInfo) (z : Value) (ht : P.underlying t = some (.slice e)) (hi : P.info? e = some i) (hz : i.zero = some z)
    (v : Value) (hv : v = .slice none 0 0 ∨ ∃ b, v = .slice (some b) 0 0) (ad : Addr) (m c : Nat) (news : List Value) (hl : news.length = m * i.size) (hnews : ∀ j u, news[j]? = some u → w.cell? (ad.add j) = some u)
    (h0 : 0 < m) (h63 : m ≤ 1125899906842624) (hby : m * i.bytes ≤ 140737488355328) :
    ∃ cap w', (Builtin.append_ #[t, t] ty #[v, .slice (some ad) m c]).run P w = .ok (.slice (some ⟨w.heap.size, 0, none⟩) m cap) w' ∧ Q w w' ∧ m ≤ cap ∧ w'.heap.size = w.heap.size + 1 ∧
      (∀ j u, news[j]? = some u → w'.cell? ⟨w.heap.size, j, none⟩ = some u) ∧ ∀ j, w'.frozen? ⟨w.heap.size, j, none⟩ = false := by
  have fin : ∀ (cs : Array Value), (∀ (j : Nat) (u : Value), news[j]? = some u → cs[j]? = some u) → Q w (w.drew.alloc (.cells cs e)) ∧ (w.drew.alloc (.cells cs e)).heap.size = w.heap.size + 1 ∧
      (∀ (j : Nat) (u : Value), news[j]? = some u → (w.drew.alloc (.cells cs e)).cell? ⟨w.heap.size, j, none⟩ = some u) ∧ ∀ j, (w.drew.alloc (.cells cs e)).frozen? ⟨w.heap.size, j, none⟩ = false := by
    intro cs hcs
    have hb : (w.drew.alloc (.cells cs e)).heap[w.heap.size]? = some (.cells cs e (0, 0)) := heap_alloc_new w.drew _
    refine ⟨(Q.refl w).drew.cells _ _, by simp, fun j u hu => ?_, fun j => frozen_of_row _ _ _ _ _ hb⟩
    rw [cell_of_row _ _ j cs e (0, 0) hb]
    exact hcs j u hu
  have key : ∀ (n : Nat) (j : Nat) (u : Value), news[j]? = some u → (news.toArray ++ Builtin.zeroCells z.cells n)[j]? = some u := by
    intro n j u hu
    have hj : j < news.length := (List.getElem?_eq_some_iff.1 hu).1
    rw [Array.getElem?_append_left (by simpa using hj)]
    simpa using hu
  rcases hv with rfl | ⟨b, rfl⟩
  · have hr := run_append_nil (P := P) w t ty e i z ht hi hz ad m c news hl hnews h0 (by omega) (by omega)
    obtain ⟨q1, q2, q3, q4⟩ := fin _ (key (grownCap w m 0 e - m))
    exact ⟨_, _, hr, q1, grownCap_ge w m 0 e, q2, q3, q4⟩
  · have hr := run_append_grow (P := P) w t ty e i z ht hi hz b 0 0 [] (by simp) (fun j v h => by simp at h) ad m c news hl hnews (by omega) (by omega) (growslice_fits (by omega) (by rw [Nat.zero_add]; exact hby))
    simp only [Nat.zero_add, Array.empty_append] at hr
    obtain ⟨q1, q2, q3, q4⟩ := fin _ (key (grownCap w m 0 e - m))
    exact ⟨_, _, hr, q1, grownCap_ge w m 0 e, q2, q3, q4⟩

/-- In a list of operations. -/
theorem wpList_app {P : Program} (w : World) {ops : Array Oper} {rest : List Oper} {o : Oper} {a : Act} {R : Exit → Act → World → Prop} (hgd : o.guard = none) (s x : Operand) (t : TypeId)
    (ho : o.op = .call { callee := .builtin .append, args := #[s, x], argTypes := #[t, t] })
    (e : TypeId) (i : TypeInfo) (z : Value) (ht : P.underlying t = some (.slice e)) (hi : P.info? e = some i) (hz : i.zero = some z)
    (v : Value) (hv : v = .slice none 0 0 ∨ ∃ b, v = .slice (some b) 0 0) (hs : a.eval s = v) (ad : Addr) (m c : Nat) (news : List Value) (hx : a.eval x = .slice (some ad) m c) (hl : news.length = m * i.size) (hnews : ∀ j u, news[j]? = some u → w.cell? (ad.add j) = some u)
    (h0 : 0 < m) (h63 : m ≤ 1125899906842624) (hby : m * i.bytes ≤ 140737488355328)
    (h : ∀ cap w', Q w w' → m ≤ cap → w'.heap.size = w.heap.size + 1 → (∀ j u, news[j]? = some u → w'.cell? ⟨w.heap.size, j, none⟩ = some u) → (∀ j, w'.frozen? ⟨w.heap.size, j, none⟩ = false) → wpList P ops R rest (a.put o.dst (.slice (some ⟨w.heap.size, 0, none⟩) m cap)) w') :
    wpList P ops R (o :: rest) a w := by
  obtain ⟨cap, w', hr, h1, h2, h3, h4, h5⟩ := run_app_new (P := P) w t o.type e i z ht hi hz v hv ad m c news hl hnews h0 h63 hby
  refine wpList_plain hgd fun _ hK => ?_
  unfold Oper.wp execOp
  simp only [ho, resolve, invoke, builtin, Sem.run_bind, Sem.run_pure, Result.andThen_ok, List.map_toArray, List.map_cons, List.map_nil, hs, hx, hr]
  exact hK _ _ (h cap w' h1 h2 h3 h4 h5)
end Go.Proofs.Ytikhmlcmmabapaa
/- Appending to a list without room: what lies where, and that all the new room is there. -/
namespace Go.Proofs.Ytikhmlcmmabapaa
open Go.RowKit

theorem run_app_room {P : Program} (w : World) (t ty e : TypeId) (i : TypeInfo) (z : Value) (ht : P.underlying t = some (.slice e)) (hi : P.info? e = some i) (hz : i.zero = some z) (hzs : z.cells.size = i.size)
    (v : Value) (hv : v = .slice none 0 0 ∨ ∃ b, v = .slice (some b) 0 0) (ad : Addr) (m c : Nat) (news : List Value) (hl : news.length = m * i.size) (hnews : ∀ j u, news[j]? = some u → w.cell? (ad.add j) = some u)
    (h0 : 0 < m) (h63 : m ≤ 1125899906842624) (hby : m * i.bytes ≤ 140737488355328) :
    ∃ cap w', (Builtin.append_ #[t, t] ty #[v, .slice (some ad) m c]).run P w = .ok (.slice (some ⟨w.heap.size, 0, none⟩) m cap) w' ∧ Q w w' ∧ m ≤ cap ∧ cap ≤ maxLen ∧ w'.heap.size = w.heap.size + 1 ∧
      (∀ j u, news[j]? = some u → w'.cell? ⟨w.heap.size, j, none⟩ = some u) ∧ (∀ j, j < cap * i.size → ∃ u, w'.cell? ⟨w.heap.size, j, none⟩ = some u) ∧ ∀ j, w'.frozen? ⟨w.heap.size, j, none⟩ = false := by
  have hmm : m ≤ maxLen := by unfold maxLen; omega
  have fin : ∀ (n : Nat) (cs : Array Value), (∀ (j : Nat) (u : Value), news[j]? = some u → cs[j]? = some u) → cs.size = n * i.size → Q w (w.drew.alloc (.cells cs e)) ∧ (w.drew.alloc (.cells cs e)).heap.size = w.heap.size + 1 ∧
      (∀ (j : Nat) (u : Value), news[j]? = some u → (w.drew.alloc (.cells cs e)).cell? ⟨w.heap.size, j, none⟩ = some u) ∧ (∀ j, j < n * i.size → ∃ u, (w.drew.alloc (.cells cs e)).cell? ⟨w.heap.size, j, none⟩ = some u) ∧ ∀ j, (w.drew.alloc (.cells cs e)).frozen? ⟨w.heap.size, j, none⟩ = false := by
    intro n cs hcs hs
    have hb : (w.drew.alloc (.cells cs e)).heap[w.heap.size]? = some (.cells cs e (0, 0)) := heap_alloc_new w.drew _
    refine ⟨(Q.refl w).drew.cells _ _, by simp, fun j u hu => ?_, fun j hj => ?_, fun j => frozen_of_row _ _ _ _ _ hb⟩
    · rw [cell_of_row _ _ j cs e (0, 0) hb]
      exact hcs j u hu
    · rw [cell_of_row _ _ j cs e (0, 0) hb]
      exact ⟨_, Array.getElem?_eq_getElem (by omega)⟩
  have key : ∀ (n : Nat) (j : Nat) (u : Value), news[j]? = some u → (news.toArray ++ Builtin.zeroCells z.cells n)[j]? = some u := by
    intro n j u hu
    have hj : j < news.length := (List.getElem?_eq_some_iff.1 hu).1
    rw [Array.getElem?_append_left (by simpa using hj)]
    simpa using hu
  have size : (news.toArray ++ Builtin.zeroCells z.cells (grownCap w m 0 e - m)).size = grownCap w m 0 e * i.size := by
    have := grownCap_ge w m 0 e
    rw [Array.size_append, size_zeroCells, hzs, List.size_toArray, hl, ← Nat.add_mul]
    congr 1; omega
  rcases hv with rfl | ⟨b, rfl⟩
  · have hr := run_append_nil (P := P) w t ty e i z ht hi hz ad m c news hl hnews h0 (by omega) (by omega)
    obtain ⟨q1, q2, q3, q4, q5⟩ := fin _ _ (key (grownCap w m 0 e - m)) size
    exact ⟨_, _, hr, q1, grownCap_ge w m 0 e, grownCap_le_maxLen w m 0 e hmm, q2, q3, q4, q5⟩
  · have hr := run_append_grow (P := P) w t ty e i z ht hi hz b 0 0 [] (by simp) (fun j v h => by simp at h) ad m c news hl hnews (by omega) (by omega) (growslice_fits (by omega) (by rw [Nat.zero_add]; exact hby))
    simp only [Nat.zero_add, Array.empty_append] at hr
    obtain ⟨q1, q2, q3, q4, q5⟩ := fin _ _ (key (grownCap w m 0 e - m)) size
    exact ⟨_, _, hr, q1, grownCap_ge w m 0 e, grownCap_le_maxLen w m 0 e hmm, q2, q3, q4, q5⟩
/-- In a list of operations. -/
theorem wpList_room {P : Program} (w : World) {ops : Array Oper} {rest : List Oper} {o : Oper} {a : Act} {R : Exit → Act → World → Prop} (hgd : o.guard = none) (s x : Operand) (t : TypeId)
    (ho : o.op = .call { callee := .builtin .append, args := #[s, x], argTypes := #[t, t] })
    (e : TypeId) (i : TypeInfo) (z : Value) (ht : P.underlying t = some (.slice e)) (hi : P.info? e = some i) (hz : i.zero = some z) (hzs : z.cells.size = i.size)
    (v : Value) (hv : v = .slice none 0 0 ∨ ∃ b, v = .slice (some b) 0 0) (hs : a.eval s = v) (ad : Addr) (m c : Nat) (news : List Value) (hx : a.eval x = .slice (some ad) m c) (hl : news.length = m * i.size) (hnews : ∀ j u, news[j]? = some u → w.cell? (ad.add j) = some u)
    (h0 : 0 < m) (h63 : m ≤ 1125899906842624) (hby : m * i.bytes ≤ 140737488355328)
    (h : ∀ cap w', Q w w' → m ≤ cap → cap ≤ maxLen → w'.heap.size = w.heap.size + 1 → (∀ j u, news[j]? = some u → w'.cell? ⟨w.heap.size, j, none⟩ = some u) → (∀ j, j < cap * i.size → ∃ u, w'.cell? ⟨w.heap.size, j, none⟩ = some u) → (∀ j, w'.frozen? ⟨w.heap.size, j, none⟩ = false) → wpList P ops R rest (a.put o.dst (.slice (some ⟨w.heap.size, 0, none⟩) m cap)) w') :
    wpList P ops R (o :: rest) a w := by
  obtain ⟨cap, w', hr, h1, h2, h3, h4, h5, h6, h7⟩ := run_app_room (P := P) w t o.type e i z ht hi hz hzs v hv ad m c news hl hnews h0 h63 hby
  refine wpList_plain hgd fun _ hK => ?_
  unfold Oper.wp execOp
  simp only [ho, resolve, invoke, builtin, Sem.run_bind, Sem.run_pure, Result.andThen_ok, List.map_toArray, List.map_cons, List.map_nil, hs, hx, hr]
  exact hK _ _ (h cap w' h1 h2 h3 h4 h5 h6 h7)
end Go.Proofs.Ytikhmlcmmabapaa
/- Copies of planes. -/
namespace Go.Proofs.Ytikhmlcmmabapaa
open Go.RowKit
set_option linter.unusedVariables false
set_option linter.unusedSimpArgs false

theorem uInfoq : ∃ i, Try.prog.info? 38 = some i ∧ i.size = 1 ∧ i.bytes = 4 ∧ i.zero = some (.int .u32 0) := info_of (by kernel_rfl) (by kernel_rfl)
theorem run_appopq {P : Program} {A : Act} {o : Oper} {x x' : World} {s u : Operand} {t : TypeId} (ho : o.op = .call { callee := .builtin .append, args := #[s, u], argTypes := #[t, t] }) {v v' r : Value} (hs : A.eval s = v) (hu : A.eval u = v') (hr : (Builtin.append_ #[t, t] o.type #[v, v']).run P x = .ok r x') : (execOp A.eval o).run P x = .ok (.value r) x' := by
  unfold execOp
  simp only [ho, resolve, invoke, builtin, Sem.run_bind, Sem.run_pure, Result.andThen_ok, List.map_toArray, List.map_cons, List.map_nil, hs, hu, hr]
set_option maxHeartbeats 2000000 in
set_option maxRecDepth 100000 in
theorem hcopy_some (w : World) (pw ph : Int) (g o n c : Nat) (S : List Nat) (hS : S.length = n) (hI : UIs w g o S) (h1 : 1 ≤ n) (h2 : n ≤ 1000000) :
    Calls Try.prog 7 #[.agg #[.int .i64 pw, .int .i64 ph, .slice (some ⟨g, o, none⟩) n c]] w fun e w' => ∃ v, e = .returned v ∧ ∃ b cap, v = .agg #[.int .i64 pw, .int .i64 ph, .slice (some ⟨b, 0, none⟩) n cap] ∧ n ≤ cap ∧ b < w'.heap.size ∧ Own w w' b S := by
  have HI : Hid (∀ x : World, Q w x → UIs x g o S) := fun x q => hI.next q
  have HN : Hid (S.length = n) := hS
  clear hI hS
  go_enter Try.func7, Try.ntmps7
  go_wp2_with fail
  have HQ : Hid (Q w ((w.alloc (Obj.cells #[Value.int IntKind.i64 pw, Value.int IntKind.i64 ph, .slice (some ⟨g, o, none⟩) n c] 24)).alloc (Obj.cells #[Value.int IntKind.i64 0, Value.int IntKind.i64 0, Value.slice none 0 0] 24))) := ((Q.refl w).cells _ _).cells _ _
  have c0 : ((w.alloc (Obj.cells #[Value.int IntKind.i64 pw, Value.int IntKind.i64 ph, .slice (some ⟨g, o, none⟩) n c] 24)).alloc (Obj.cells #[Value.int IntKind.i64 0, Value.int IntKind.i64 0, Value.slice none 0 0] 24)).cell? ⟨w.heap.size, 0, none⟩ = some (.int .i64 pw) := by simp [go_sem]
  have c1 : ((w.alloc (Obj.cells #[Value.int IntKind.i64 pw, Value.int IntKind.i64 ph, .slice (some ⟨g, o, none⟩) n c] 24)).alloc (Obj.cells #[Value.int IntKind.i64 0, Value.int IntKind.i64 0, Value.slice none 0 0] 24)).cell? ⟨w.heap.size, 1, none⟩ = some (.int .i64 ph) := by simp [go_sem]
  have c2 : ((w.alloc (Obj.cells #[Value.int IntKind.i64 pw, Value.int IntKind.i64 ph, .slice (some ⟨g, o, none⟩) n c] 24)).alloc (Obj.cells #[Value.int IntKind.i64 0, Value.int IntKind.i64 0, Value.slice none 0 0] 24)).cell? ⟨w.heap.size, 2, none⟩ = some (.slice (some ⟨g, o, none⟩) n c) := by simp [go_sem]
  have d0 : ((w.alloc (Obj.cells #[Value.int IntKind.i64 pw, Value.int IntKind.i64 ph, .slice (some ⟨g, o, none⟩) n c] 24)).alloc (Obj.cells #[Value.int IntKind.i64 0, Value.int IntKind.i64 0, Value.slice none 0 0] 24)).cell? ⟨w.heap.size + 1, 0, none⟩ = some (.int .i64 0) := by simp [go_sem]
  have d1 : ((w.alloc (Obj.cells #[Value.int IntKind.i64 pw, Value.int IntKind.i64 ph, .slice (some ⟨g, o, none⟩) n c] 24)).alloc (Obj.cells #[Value.int IntKind.i64 0, Value.int IntKind.i64 0, Value.slice none 0 0] 24)).cell? ⟨w.heap.size + 1, 1, none⟩ = some (.int .i64 0) := by simp [go_sem]
  have d2 : ((w.alloc (Obj.cells #[Value.int IntKind.i64 pw, Value.int IntKind.i64 ph, .slice (some ⟨g, o, none⟩) n c] 24)).alloc (Obj.cells #[Value.int IntKind.i64 0, Value.int IntKind.i64 0, Value.slice none 0 0] 24)).cell? ⟨w.heap.size + 1, 2, none⟩ = some (.slice none 0 0) := by simp [go_sem]
  have fz : ∀ j, ((w.alloc (Obj.cells #[Value.int IntKind.i64 pw, Value.int IntKind.i64 ph, .slice (some ⟨g, o, none⟩) n c] 24)).alloc (Obj.cells #[Value.int IntKind.i64 0, Value.int IntKind.i64 0, Value.slice none 0 0] 24)).frozen? ⟨w.heap.size + 1, j, none⟩ = false := fun j => by simp [go_sem]
  have hsz : ((w.alloc (Obj.cells #[Value.int IntKind.i64 pw, Value.int IntKind.i64 ph, .slice (some ⟨g, o, none⟩) n c] 24)).alloc (Obj.cells #[Value.int IntKind.i64 0, Value.int IntKind.i64 0, Value.slice none 0 0] 24)).heap.size = w.heap.size + 2 := by simp
  generalize ((w.alloc (Obj.cells #[Value.int IntKind.i64 pw, Value.int IntKind.i64 ph, .slice (some ⟨g, o, none⟩) n c] 24)).alloc (Obj.cells #[Value.int IntKind.i64 0, Value.int IntKind.i64 0, Value.slice none 0 0] 24)) = wz at *
  have n0 := qw_some wz
  have f0 := qw_cell c0
  have f1 := qw_cell c1
  have f2 := qw_cell c2
  refine wp_region_mk [0, 1, 2, 3, 4, 5] [[6, 7, 8]] 3 _ (by kernel_rfl) (by kernel_rfl) rfl (by kernel_rfl) ?_
  simp only [List.filterMap_cons, List.filterMap_nil, List.getElem?_cons_zero, List.getElem?_cons_succ]
  repeat (first | go_big_quiet_step (fail) | quiet_step (fail))
  refine wpQuiet_nil ?_
  intro x hx
  obtain ⟨iu, i1, i2, i3, i4⟩ := uInfoq
  obtain ⟨cap, w7, hr7, hq7, hc1, hc2, hz7, hn7, -, hf7⟩ := run_app_room (P := Try.prog) x 22 22 38 iu _ Try.underlying22 i1 i4 (by rw [i2]; rfl) (.slice none 0 0) (Or.inl rfl) ⟨g, o, none⟩ n c (S.map fun (s : Nat) => Value.int .u32 (s : Int)) (by rw [List.length_map, HN.out, i2]; omega) (fun j u hu => by
    rw [List.getElem?_map] at hu
    cases hj : S[j]? with
    | none => rw [hj] at hu; cases hu
    | some s =>
      rw [hj] at hu
      have hu := Option.some.inj hu
      have hjl : j < S.length := (List.getElem?_eq_some_iff.1 hj).1
      have := HI.out x (HQ.out.trans hx) j hjl
      rw [List.getD_eq_getElem?_getD, hj] at this
      rw [← hu, show (⟨g, o, none⟩ : Addr).add j = ⟨g, o + j, none⟩ by unfold Addr.add; split <;> simp_all]
      exact this) (by omega) (by omega) (by rw [i3]; omega)
  have hc7 : ∀ i, i < S.length → w7.cell? ⟨x.heap.size, i, none⟩ = some (.int .u32 ((S.getD i 0 : Nat) : Int)) := fun i hi => by
    refine hn7 i _ ?_
    rw [List.getElem?_map, List.getElem?_eq_getElem hi, List.getD_eq_getElem?_getD, List.getElem?_eq_getElem hi]
    rfl
  have hq2 : Q wz w7 := hx.trans hq7
  refine tree_run 6 rfl rfl (v := .slice (some ⟨x.heap.size, 0, none⟩) n cap) (x' := w7) (run_appopq rfl (v := .slice none 0 0) (v' := .slice (some ⟨g, o, none⟩) n c) (by simp [Act.eval, Act.put]) (by simp [Act.eval, Act.put]) hr7) hq2 ?_
  refine tree_run 7 rfl rfl (v := .agg #[.int .i64 pw, .int .i64 ph, .slice (some ⟨x.heap.size, 0, none⟩) n cap]) (x' := w7) (by simp [execOp, go_sem]) hq2 ?_
  have d02 := hq2.cell d0
  have d12 := hq2.cell d1
  have d22 := hq2.cell d2
  have fz2 : ∀ j, w7.frozen? ⟨w.heap.size + 1, j, none⟩ = false := fun j => (hq2.2 _).trans (fz j)
  refine tree_skipF 8 rfl rfl rfl (x' := (((w7.setCell ⟨w.heap.size + 1, 0, none⟩ (.int .i64 pw)).setCell ⟨w.heap.size + 1, 1, none⟩ (.int .i64 ph)).setCell ⟨w.heap.size + 1, 2, none⟩ (.slice (some ⟨x.heap.size, 0, none⟩) n cap))) (by simp [execOp, go_sem, d02, d12, d22, fz2]) ?_
  refine tree_nil ?_
  have HO : Hid (Own w (((w7.setCell ⟨w.heap.size + 1, 0, none⟩ (.int .i64 pw)).setCell ⟨w.heap.size + 1, 1, none⟩ (.int .i64 ph)).setCell ⟨w.heap.size + 1, 2, none⟩ (.slice (some ⟨x.heap.size, 0, none⟩) n cap)) x.heap.size S) := by
    have hlt : w.heap.size + 1 < x.heap.size := by have := hx.1.size; omega
    have hne : ∀ j, (⟨x.heap.size, j, none⟩ : Addr) ≠ ⟨w.heap.size + 1, 0, none⟩ := fun j e => by injection e with e; omega
    refine ⟨(((HQ.out.trans hq2).set (Nat.le_succ _) _).set (Nat.le_succ _) _).set (Nat.le_succ _) _, by omega, fun i hi => ?_, fun j => ?_⟩
    · rw [World.cell?_setCell_other _ _ _ _ (fun e => by injection e with e; omega), World.cell?_setCell_other _ _ _ _ (fun e => by injection e with e; omega), World.cell?_setCell_other _ _ _ _ (fun e => by injection e with e; omega), Nat.zero_add]
      exact hc7 i hi
    · rw [World.frozen?_setCell, World.frozen?_setCell, World.frozen?_setCell]
      exact hf7 j
  have k0 : (((w7.setCell ⟨w.heap.size + 1, 0, none⟩ (.int .i64 pw)).setCell ⟨w.heap.size + 1, 1, none⟩ (.int .i64 ph)).setCell ⟨w.heap.size + 1, 2, none⟩ (.slice (some ⟨x.heap.size, 0, none⟩) n cap)).cell? ⟨w.heap.size + 1, 0, none⟩ = some (.int .i64 pw) := by simp [go_sem, d02, d12, d22]
  have k1 : (((w7.setCell ⟨w.heap.size + 1, 0, none⟩ (.int .i64 pw)).setCell ⟨w.heap.size + 1, 1, none⟩ (.int .i64 ph)).setCell ⟨w.heap.size + 1, 2, none⟩ (.slice (some ⟨x.heap.size, 0, none⟩) n cap)).cell? ⟨w.heap.size + 1, 1, none⟩ = some (.int .i64 ph) := by simp [go_sem, d02, d12, d22]
  have k2 : (((w7.setCell ⟨w.heap.size + 1, 0, none⟩ (.int .i64 pw)).setCell ⟨w.heap.size + 1, 1, none⟩ (.int .i64 ph)).setCell ⟨w.heap.size + 1, 2, none⟩ (.slice (some ⟨x.heap.size, 0, none⟩) n cap)).cell? ⟨w.heap.size + 1, 2, none⟩ = some (.slice (some ⟨x.heap.size, 0, none⟩) n cap) := by simp [go_sem, d02, d12, d22]
  generalize (((w7.setCell ⟨w.heap.size + 1, 0, none⟩ (.int .i64 pw)).setCell ⟨w.heap.size + 1, 1, none⟩ (.int .i64 ph)).setCell ⟨w.heap.size + 1, 2, none⟩ (.slice (some ⟨x.heap.size, 0, none⟩) n cap)) = w5 at *
  clear d02 d12 d22 fz2 hq2 hx c0 c1 c2 d0 d1 d2 fz hr7 hq7
  go_wp2_with fail
  have hb5 : x.heap.size < w5.heap.size := World.block_lt_of_cell? _ _ (HO.out.cells 0 (by rw [HN.out]; omega))
  exact bodyPost_ret (v := .agg #[.int .i64 pw, .int .i64 ph, .slice (some ⟨x.heap.size, 0, none⟩) n cap]) (by simp [results, Try.results7, go_sem, k0, k1, k2]) rfl ⟨_, rfl, x.heap.size, cap, rfl, hc1, hb5, HO.out⟩
theorem run_app_none (x : World) (ad : Option Addr) (c : Nat) : ∃ w7, (Builtin.append_ #[22, 22] 22 #[.slice none 0 0, .slice ad 0 c]).run Try.prog x = .ok (.slice none 0 0) w7 ∧ Q x w7 := by
  refine ⟨x, ?_, Q.refl x⟩
  cases ad <;> simp [Builtin.append_, go_sem]
set_option maxHeartbeats 2000000 in
set_option maxRecDepth 100000 in
theorem hcopy_none (w : World) (pw ph : Int) (ad : Option Addr) (c : Nat) :
    Calls Try.prog 7 #[.agg #[.int .i64 pw, .int .i64 ph, .slice ad 0 c]] w fun e w' => ∃ v, e = .returned v ∧ v = .agg #[.int .i64 pw, .int .i64 ph, .slice none 0 0] ∧ Q w w' := by
  go_enter Try.func7, Try.ntmps7
  go_wp2_with fail
  have HQ : Hid (Q w ((w.alloc (Obj.cells #[Value.int IntKind.i64 pw, Value.int IntKind.i64 ph, .slice ad 0 c] 24)).alloc (Obj.cells #[Value.int IntKind.i64 0, Value.int IntKind.i64 0, Value.slice none 0 0] 24))) := ((Q.refl w).cells _ _).cells _ _
  have c0 : ((w.alloc (Obj.cells #[Value.int IntKind.i64 pw, Value.int IntKind.i64 ph, .slice ad 0 c] 24)).alloc (Obj.cells #[Value.int IntKind.i64 0, Value.int IntKind.i64 0, Value.slice none 0 0] 24)).cell? ⟨w.heap.size, 0, none⟩ = some (.int .i64 pw) := by simp [go_sem]
  have c1 : ((w.alloc (Obj.cells #[Value.int IntKind.i64 pw, Value.int IntKind.i64 ph, .slice ad 0 c] 24)).alloc (Obj.cells #[Value.int IntKind.i64 0, Value.int IntKind.i64 0, Value.slice none 0 0] 24)).cell? ⟨w.heap.size, 1, none⟩ = some (.int .i64 ph) := by simp [go_sem]
  have c2 : ((w.alloc (Obj.cells #[Value.int IntKind.i64 pw, Value.int IntKind.i64 ph, .slice ad 0 c] 24)).alloc (Obj.cells #[Value.int IntKind.i64 0, Value.int IntKind.i64 0, Value.slice none 0 0] 24)).cell? ⟨w.heap.size, 2, none⟩ = some (.slice ad 0 c) := by simp [go_sem]
  have d0 : ((w.alloc (Obj.cells #[Value.int IntKind.i64 pw, Value.int IntKind.i64 ph, .slice ad 0 c] 24)).alloc (Obj.cells #[Value.int IntKind.i64 0, Value.int IntKind.i64 0, Value.slice none 0 0] 24)).cell? ⟨w.heap.size + 1, 0, none⟩ = some (.int .i64 0) := by simp [go_sem]
  have d1 : ((w.alloc (Obj.cells #[Value.int IntKind.i64 pw, Value.int IntKind.i64 ph, .slice ad 0 c] 24)).alloc (Obj.cells #[Value.int IntKind.i64 0, Value.int IntKind.i64 0, Value.slice none 0 0] 24)).cell? ⟨w.heap.size + 1, 1, none⟩ = some (.int .i64 0) := by simp [go_sem]
  have d2 : ((w.alloc (Obj.cells #[Value.int IntKind.i64 pw, Value.int IntKind.i64 ph, .slice ad 0 c] 24)).alloc (Obj.cells #[Value.int IntKind.i64 0, Value.int IntKind.i64 0, Value.slice none 0 0] 24)).cell? ⟨w.heap.size + 1, 2, none⟩ = some (.slice none 0 0) := by simp [go_sem]
  have fz : ∀ j, ((w.alloc (Obj.cells #[Value.int IntKind.i64 pw, Value.int IntKind.i64 ph, .slice ad 0 c] 24)).alloc (Obj.cells #[Value.int IntKind.i64 0, Value.int IntKind.i64 0, Value.slice none 0 0] 24)).frozen? ⟨w.heap.size + 1, j, none⟩ = false := fun j => by simp [go_sem]
  have hsz : ((w.alloc (Obj.cells #[Value.int IntKind.i64 pw, Value.int IntKind.i64 ph, .slice ad 0 c] 24)).alloc (Obj.cells #[Value.int IntKind.i64 0, Value.int IntKind.i64 0, Value.slice none 0 0] 24)).heap.size = w.heap.size + 2 := by simp
  generalize ((w.alloc (Obj.cells #[Value.int IntKind.i64 pw, Value.int IntKind.i64 ph, .slice ad 0 c] 24)).alloc (Obj.cells #[Value.int IntKind.i64 0, Value.int IntKind.i64 0, Value.slice none 0 0] 24)) = wz at *
  have n0 := qw_some wz
  have f0 := qw_cell c0
  have f1 := qw_cell c1
  have f2 := qw_cell c2
  refine wp_region_mk [0, 1, 2, 3, 4, 5] [[6, 7, 8]] 3 _ (by kernel_rfl) (by kernel_rfl) rfl (by kernel_rfl) ?_
  simp only [List.filterMap_cons, List.filterMap_nil, List.getElem?_cons_zero, List.getElem?_cons_succ]
  repeat (first | go_big_quiet_step (fail) | quiet_step (fail))
  refine wpQuiet_nil ?_
  intro x hx
  obtain ⟨iu, i1, i2, i3, i4⟩ := uInfoq
  obtain ⟨w7, hr7, hq7⟩ : ∃ w7, (Builtin.append_ #[22, 22] 22 #[.slice none 0 0, .slice ad 0 c]).run Try.prog x = .ok (.slice none 0 0) w7 ∧ Q x w7 := run_app_none x ad c
  have hq2 : Q wz w7 := hx.trans hq7
  refine tree_run 6 rfl rfl (v := .slice none 0 0) (x' := w7) (run_appopq rfl (v := .slice none 0 0) (v' := .slice ad 0 c) (by simp [Act.eval, Act.put]) (by simp [Act.eval, Act.put]) hr7) hq2 ?_
  refine tree_run 7 rfl rfl (v := .agg #[.int .i64 pw, .int .i64 ph, .slice none 0 0]) (x' := w7) (by simp [execOp, go_sem]) hq2 ?_
  have d02 := hq2.cell d0
  have d12 := hq2.cell d1
  have d22 := hq2.cell d2
  have fz2 : ∀ j, w7.frozen? ⟨w.heap.size + 1, j, none⟩ = false := fun j => (hq2.2 _).trans (fz j)
  refine tree_skipF 8 rfl rfl rfl (x' := (((w7.setCell ⟨w.heap.size + 1, 0, none⟩ (.int .i64 pw)).setCell ⟨w.heap.size + 1, 1, none⟩ (.int .i64 ph)).setCell ⟨w.heap.size + 1, 2, none⟩ (.slice none 0 0))) (by simp [execOp, go_sem, d02, d12, d22, fz2]) ?_
  refine tree_nil ?_
  have HO : Hid (Q w (((w7.setCell ⟨w.heap.size + 1, 0, none⟩ (.int .i64 pw)).setCell ⟨w.heap.size + 1, 1, none⟩ (.int .i64 ph)).setCell ⟨w.heap.size + 1, 2, none⟩ (.slice none 0 0))) := by
    exact (((HQ.out.trans hq2).set (Nat.le_succ _) _).set (Nat.le_succ _) _).set (Nat.le_succ _) _
  have k0 : (((w7.setCell ⟨w.heap.size + 1, 0, none⟩ (.int .i64 pw)).setCell ⟨w.heap.size + 1, 1, none⟩ (.int .i64 ph)).setCell ⟨w.heap.size + 1, 2, none⟩ (.slice none 0 0)).cell? ⟨w.heap.size + 1, 0, none⟩ = some (.int .i64 pw) := by simp [go_sem, d02, d12, d22]
  have k1 : (((w7.setCell ⟨w.heap.size + 1, 0, none⟩ (.int .i64 pw)).setCell ⟨w.heap.size + 1, 1, none⟩ (.int .i64 ph)).setCell ⟨w.heap.size + 1, 2, none⟩ (.slice none 0 0)).cell? ⟨w.heap.size + 1, 1, none⟩ = some (.int .i64 ph) := by simp [go_sem, d02, d12, d22]
  have k2 : (((w7.setCell ⟨w.heap.size + 1, 0, none⟩ (.int .i64 pw)).setCell ⟨w.heap.size + 1, 1, none⟩ (.int .i64 ph)).setCell ⟨w.heap.size + 1, 2, none⟩ (.slice none 0 0)).cell? ⟨w.heap.size + 1, 2, none⟩ = some (.slice none 0 0) := by simp [go_sem, d02, d12, d22]
  generalize (((w7.setCell ⟨w.heap.size + 1, 0, none⟩ (.int .i64 pw)).setCell ⟨w.heap.size + 1, 1, none⟩ (.int .i64 ph)).setCell ⟨w.heap.size + 1, 2, none⟩ (.slice none 0 0)) = w5 at *
  clear d02 d12 d22 fz2 hq2 hx c0 c1 c2 d0 d1 d2 fz hr7 hq7
  go_wp2_with fail
  exact bodyPost_ret (v := .agg #[.int .i64 pw, .int .i64 ph, .slice none 0 0]) (by simp [results, Try.results7, go_sem, k0, k1, k2]) rfl ⟨_, rfl, rfl, HO.out⟩
end Go.Proofs.Ytikhmlcmmabapaa
/- RankRises: two copies and two boxes, in whatever order. -/
namespace Go.Proofs.Ytikhmlcmmabapaa
open Go.RowKit
set_option linter.unusedVariables false
set_option linter.unusedSimpArgs false

/-- A copy, in blocks from lo to hi. -/
def CpV (pw ph : Int) (n : Nat) (S : List Nat) (lo hi : Nat) (x : World) (v : Value) : Prop := ∃ ad cap, n ≤ cap ∧ v = .agg #[.int .i64 pw, .int .i64 ph, .slice ad n cap] ∧ (n = 0 ∨ ∃ b, ad = some ⟨b, 0, none⟩ ∧ lo ≤ b ∧ b < hi ∧ UIs x b 0 S ∧ ∀ j, x.frozen? ⟨b, j, none⟩ = false)
def cpS (pw ph : Int) (n : Nat) (S : List Nat) : Sp3 := iP (fun v lo hi x => CpV pw ph n S lo hi x v) (fun v lo hi x x' ⟨ad, cap, h0, h1, h2⟩ q => ⟨ad, cap, h0, h1, h2.imp id fun ⟨b, e1, e2, e3, e4, e5⟩ => ⟨b, e1, e2, e3, e4.next q, fun j => by rw [q.2]; exact e5 j⟩⟩)
/-- A new box for a plane. -/
def bxQ : Sp3 := iP (fun v lo hi x => v = .pointer (some ⟨lo, 0, none⟩) ∧ lo < hi ∧ x.cell? ⟨lo, 0, none⟩ = some (.int .i64 0) ∧ x.cell? ⟨lo, 1, none⟩ = some (.int .i64 0) ∧ x.cell? ⟨lo, 2, none⟩ = some (.slice none 0 0) ∧ ∀ j, x.frozen? ⟨lo, j, none⟩ = false)
  (fun v lo hi x x' ⟨h1, h2, h3, h4, h5, h6⟩ q => ⟨h1, h2, q.cell h3, q.cell h4, q.cell h5, fun j => by rw [q.2]; exact h6 j⟩)
/-- Two copies of samples, apart from one another. -/
def Pair2 (lo g1 g2 : Nat) (n : Nat) (S T : List Nat) (a1 a2 : Option Addr) (x : World) : Prop := n = 0 ∨ ∃ b1 b2, a1 = some ⟨b1, 0, none⟩ ∧ a2 = some ⟨b2, 0, none⟩ ∧ lo ≤ b1 ∧ lo ≤ b2 ∧ b1 ≠ b2 ∧ b1 ≠ g1 ∧ b1 ≠ g2 ∧ b2 ≠ g1 ∧ b2 ≠ g2 ∧ UIs x b1 0 S ∧ UIs x b2 0 T ∧ (∀ j, x.frozen? ⟨b1, j, none⟩ = false) ∧ (∀ j, x.frozen? ⟨b2, j, none⟩ = false)
structure TwoC (pw ph : Int) (n : Nat) (S : List Nat) (a1 : Option Addr) (c1 : Nat) (a2 : Option Addr) (c2 g1 g2 : Nat) (w x : World) : Prop where
  q : Q w x
  two : Pair2 w.heap.size g1 g2 n S S a1 a2 x
  c10 : x.cell? ⟨g1, 0, none⟩ = some (.int .i64 pw)
  c11 : x.cell? ⟨g1, 1, none⟩ = some (.int .i64 ph)
  c12 : x.cell? ⟨g1, 2, none⟩ = some (.slice a1 n c1)
  c20 : x.cell? ⟨g2, 0, none⟩ = some (.int .i64 pw)
  c21 : x.cell? ⟨g2, 1, none⟩ = some (.int .i64 ph)
  c22 : x.cell? ⟨g2, 2, none⟩ = some (.slice a2 n c2)
  fz : ∀ j, x.frozen? ⟨g1, j, none⟩ = false ∧ x.frozen? ⟨g2, j, none⟩ = false
  ne : g1 ≠ g2
  l1 : w.heap.size ≤ g1
  l2 : w.heap.size ≤ g2
  k1 : n ≤ c1
  k2 : n ≤ c2
theorem run_stp {a : Act} {x : World} {ty : TypeId} {ps : String} {af : Array Edge} {gd : Option (Nat × Bool)} {j k B : Nat} {u v : Int} {ad : Option Addr} {n c : Nat} (h' : a.tmps[k]? = some (.agg #[.int .i64 u, .int .i64 v, .slice ad n c])) (h : a.tmps[j]? = some (.pointer (some ⟨B, 0, none⟩))) (c0 : x.cell? ⟨B, 0, none⟩ = some (.int .i64 0)) (c1 : x.cell? ⟨B, 1, none⟩ = some (.int .i64 0)) (c2 : x.cell? ⟨B, 2, none⟩ = some (.slice none 0 0)) (f : ∀ j, x.frozen? ⟨B, j, none⟩ = false) : (execOp a.eval { dst := none, op := .store 24 (.tmp j) (.tmp k), type := ty, pos := ps, after := af, guard := gd }).run Try.prog x = .ok .skip (((x.setCell ⟨B, 0, none⟩ (.int .i64 u)).setCell ⟨B, 1, none⟩ (.int .i64 v)).setCell ⟨B, 2, none⟩ (.slice ad n c)) := by
  simp [execOp, h, h', go_sem, c0, c1, c2, f]
theorem two_mk {w x : World} {pw ph : Int} {n : Nat} {S : List Nat} {a1 a2 : Option Addr} {c1 c2 g1 g2 u1 v1 u2 v2 r1 r2 : Nat} (q : Q w x) (c40 : x.cell? ⟨g1, 0, none⟩ = some (.int .i64 0)) (c41 : x.cell? ⟨g1, 1, none⟩ = some (.int .i64 0)) (c42 : x.cell? ⟨g1, 2, none⟩ = some (.slice none 0 0)) (c50 : x.cell? ⟨g2, 0, none⟩ = some (.int .i64 0)) (c51 : x.cell? ⟨g2, 1, none⟩ = some (.int .i64 0)) (c52 : x.cell? ⟨g2, 2, none⟩ = some (.slice none 0 0)) (z4 : ∀ j, x.frozen? ⟨g1, j, none⟩ = false) (z5 : ∀ j, x.frozen? ⟨g2, j, none⟩ = false) (hne : g1 ≠ g2) (hlA : w.heap.size ≤ g1) (hlB : w.heap.size ≤ g2)
    (h1 : n = 0 ∨ ∃ b, a1 = some ⟨b, 0, none⟩ ∧ u1 ≤ b ∧ b < v1 ∧ UIs x b 0 S ∧ ∀ j, x.frozen? ⟨b, j, none⟩ = false) (h3 : n = 0 ∨ ∃ b, a2 = some ⟨b, 0, none⟩ ∧ u2 ≤ b ∧ b < v2 ∧ UIs x b 0 S ∧ ∀ j, x.frozen? ⟨b, j, none⟩ = false) (i1 : w.heap.size ≤ u1) (i3 : w.heap.size ≤ u2) (y1 : n ≤ c1) (y3 : n ≤ c2) (p13 : v1 ≤ u2 ∨ v2 ≤ u1) (p14 : v1 ≤ g1 ∨ r1 ≤ u1) (p15 : v1 ≤ g2 ∨ r2 ≤ u1) (p34 : v2 ≤ g1 ∨ r1 ≤ u2) (p35 : v2 ≤ g2 ∨ r2 ≤ u2) (l4 : g1 < r1) (l5 : g2 < r2) :
    TwoC pw ph n S a1 c1 a2 c2 g1 g2 w (((((((x).setCell ⟨g1, 0, none⟩ (.int .i64 pw)).setCell ⟨g1, 1, none⟩ (.int .i64 ph)).setCell ⟨g1, 2, none⟩ (.slice a1 n c1)).setCell ⟨g2, 0, none⟩ (.int .i64 pw)).setCell ⟨g2, 1, none⟩ (.int .i64 ph)).setCell ⟨g2, 2, none⟩ (.slice a2 n c2)) ∧ ((((x).setCell ⟨g1, 0, none⟩ (.int .i64 pw)).setCell ⟨g1, 1, none⟩ (.int .i64 ph)).setCell ⟨g1, 2, none⟩ (.slice a1 n c1)).cell? ⟨g2, 0, none⟩ = some (.int .i64 0) ∧ ((((x).setCell ⟨g1, 0, none⟩ (.int .i64 pw)).setCell ⟨g1, 1, none⟩ (.int .i64 ph)).setCell ⟨g1, 2, none⟩ (.slice a1 n c1)).cell? ⟨g2, 1, none⟩ = some (.int .i64 0) ∧ ((((x).setCell ⟨g1, 0, none⟩ (.int .i64 pw)).setCell ⟨g1, 1, none⟩ (.int .i64 ph)).setCell ⟨g1, 2, none⟩ (.slice a1 n c1)).cell? ⟨g2, 2, none⟩ = some (.slice none 0 0) ∧ (∀ j, ((((x).setCell ⟨g1, 0, none⟩ (.int .i64 pw)).setCell ⟨g1, 1, none⟩ (.int .i64 ph)).setCell ⟨g1, 2, none⟩ (.slice a1 n c1)).frozen? ⟨g2, j, none⟩ = false) := by
  have nb : ∀ {b c i j : Nat}, b ≠ c → (⟨b, i, none⟩ : Addr) ≠ ⟨c, j, none⟩ := fun h e => h (by injection e)
  have hne' : g2 ≠ g1 := fun e => hne e.symm
  have k50 : ((((x).setCell ⟨g1, 0, none⟩ (.int .i64 pw)).setCell ⟨g1, 1, none⟩ (.int .i64 ph)).setCell ⟨g1, 2, none⟩ (.slice a1 n c1)).cell? ⟨g2, 0, none⟩ = some (.int .i64 0) := (World.cell?_setCell_other _ _ _ _ (nb (by assumption))).trans ((World.cell?_setCell_other _ _ _ _ (nb (by assumption))).trans ((World.cell?_setCell_other _ _ _ _ (nb (by assumption))).trans c50))
  have k51 : ((((x).setCell ⟨g1, 0, none⟩ (.int .i64 pw)).setCell ⟨g1, 1, none⟩ (.int .i64 ph)).setCell ⟨g1, 2, none⟩ (.slice a1 n c1)).cell? ⟨g2, 1, none⟩ = some (.int .i64 0) := (World.cell?_setCell_other _ _ _ _ (nb (by assumption))).trans ((World.cell?_setCell_other _ _ _ _ (nb (by assumption))).trans ((World.cell?_setCell_other _ _ _ _ (nb (by assumption))).trans c51))
  have k52 : ((((x).setCell ⟨g1, 0, none⟩ (.int .i64 pw)).setCell ⟨g1, 1, none⟩ (.int .i64 ph)).setCell ⟨g1, 2, none⟩ (.slice a1 n c1)).cell? ⟨g2, 2, none⟩ = some (.slice none 0 0) := (World.cell?_setCell_other _ _ _ _ (nb (by assumption))).trans ((World.cell?_setCell_other _ _ _ _ (nb (by assumption))).trans ((World.cell?_setCell_other _ _ _ _ (nb (by assumption))).trans c52))
  have z5' : ∀ j, ((((x).setCell ⟨g1, 0, none⟩ (.int .i64 pw)).setCell ⟨g1, 1, none⟩ (.int .i64 ph)).setCell ⟨g1, 2, none⟩ (.slice a1 n c1)).frozen? ⟨g2, j, none⟩ = false := fun j => by rw [World.frozen?_setCell, World.frozen?_setCell, World.frozen?_setCell]; exact z5 j
  have m0 : ((((x).setCell ⟨g1, 0, none⟩ (.int .i64 pw)).setCell ⟨g1, 1, none⟩ (.int .i64 ph)).setCell ⟨g1, 2, none⟩ (.slice a1 n c1)).cell? ⟨g1, 0, none⟩ = some (.int .i64 pw) := (World.cell?_setCell_other _ _ _ _ (fun e => by injection e with _ e; cases e)).trans ((World.cell?_setCell_other _ _ _ _ (fun e => by injection e with _ e; cases e)).trans (World.cell?_setCell_same _ _ _ c40))
  have m1 : ((((x).setCell ⟨g1, 0, none⟩ (.int .i64 pw)).setCell ⟨g1, 1, none⟩ (.int .i64 ph)).setCell ⟨g1, 2, none⟩ (.slice a1 n c1)).cell? ⟨g1, 1, none⟩ = some (.int .i64 ph) := (World.cell?_setCell_other _ _ _ _ (fun e => by injection e with _ e; cases e)).trans (World.cell?_setCell_same _ _ _ ((World.cell?_setCell_other _ _ _ _ (fun e => by injection e with _ e; cases e)).trans c41))
  have m2 : ((((x).setCell ⟨g1, 0, none⟩ (.int .i64 pw)).setCell ⟨g1, 1, none⟩ (.int .i64 ph)).setCell ⟨g1, 2, none⟩ (.slice a1 n c1)).cell? ⟨g1, 2, none⟩ = some (.slice a1 n c1) := World.cell?_setCell_same _ _ _ ((World.cell?_setCell_other _ _ _ _ (fun e => by injection e with _ e; cases e)).trans ((World.cell?_setCell_other _ _ _ _ (fun e => by injection e with _ e; cases e)).trans c42))
  refine ⟨⟨?_, ?_, ?_, ?_, ?_, ?_, ?_, ?_, ?_, hne, hlA, hlB, y1, y3⟩, k50, k51, k52, z5'⟩
  · exact ((((((q.set hlA _).set hlA _).set hlA _).set hlB _).set hlB _).set hlB _)
  · rcases h1 with h1 | ⟨b1, ea, l1, r1, u1, z1⟩
    · exact Or.inl h1
    · rcases h3 with h3 | ⟨b2, eb, l2, r2, u2, z2⟩
      · exact Or.inl h3
      · have q1 : b1 ≠ g1 := by omega
        have q2 : b1 ≠ g2 := by omega
        have q3 : b2 ≠ g1 := by omega
        have q4 : b2 ≠ g2 := by omega
        refine Or.inr ⟨b1, b2, ea, eb, by omega, by omega, by omega, q1, q2, q3, q4, fun i hi => ?_, fun i hi => ?_, fun j => ?_, fun j => ?_⟩
        · refine (World.cell?_setCell_other _ _ _ _ (nb (fun e => q2 e.symm))).trans ((World.cell?_setCell_other _ _ _ _ (nb (fun e => q2 e.symm))).trans ((World.cell?_setCell_other _ _ _ _ (nb (fun e => q2 e.symm))).trans ((World.cell?_setCell_other _ _ _ _ (nb (fun e => q1 e.symm))).trans ((World.cell?_setCell_other _ _ _ _ (nb (fun e => q1 e.symm))).trans ((World.cell?_setCell_other _ _ _ _ (nb (fun e => q1 e.symm))).trans ?_)))))
          exact u1 i hi
        · refine (World.cell?_setCell_other _ _ _ _ (nb (fun e => q4 e.symm))).trans ((World.cell?_setCell_other _ _ _ _ (nb (fun e => q4 e.symm))).trans ((World.cell?_setCell_other _ _ _ _ (nb (fun e => q4 e.symm))).trans ((World.cell?_setCell_other _ _ _ _ (nb (fun e => q3 e.symm))).trans ((World.cell?_setCell_other _ _ _ _ (nb (fun e => q3 e.symm))).trans ((World.cell?_setCell_other _ _ _ _ (nb (fun e => q3 e.symm))).trans ?_)))))
          exact u2 i hi
        · rw [World.frozen?_setCell, World.frozen?_setCell, World.frozen?_setCell, World.frozen?_setCell, World.frozen?_setCell, World.frozen?_setCell]; exact z1 j
        · rw [World.frozen?_setCell, World.frozen?_setCell, World.frozen?_setCell, World.frozen?_setCell, World.frozen?_setCell, World.frozen?_setCell]; exact z2 j
  · exact (World.cell?_setCell_other _ _ _ _ (nb (by assumption))).trans ((World.cell?_setCell_other _ _ _ _ (nb (by assumption))).trans ((World.cell?_setCell_other _ _ _ _ (nb (by assumption))).trans m0))
  · exact (World.cell?_setCell_other _ _ _ _ (nb (by assumption))).trans ((World.cell?_setCell_other _ _ _ _ (nb (by assumption))).trans ((World.cell?_setCell_other _ _ _ _ (nb (by assumption))).trans m1))
  · exact (World.cell?_setCell_other _ _ _ _ (nb (by assumption))).trans ((World.cell?_setCell_other _ _ _ _ (nb (by assumption))).trans ((World.cell?_setCell_other _ _ _ _ (nb (by assumption))).trans m2))
  · exact (World.cell?_setCell_other _ _ _ _ (fun e => by injection e with _ e; cases e)).trans ((World.cell?_setCell_other _ _ _ _ (fun e => by injection e with _ e; cases e)).trans (World.cell?_setCell_same _ _ _ k50))
  · exact (World.cell?_setCell_other _ _ _ _ (fun e => by injection e with _ e; cases e)).trans (World.cell?_setCell_same _ _ _ ((World.cell?_setCell_other _ _ _ _ (fun e => by injection e with _ e; cases e)).trans k51))
  · exact World.cell?_setCell_same _ _ _ ((World.cell?_setCell_other _ _ _ _ (fun e => by injection e with _ e; cases e)).trans ((World.cell?_setCell_other _ _ _ _ (fun e => by injection e with _ e; cases e)).trans k52))
  · intro j
    rw [World.frozen?_setCell, World.frozen?_setCell, World.frozen?_setCell, World.frozen?_setCell, World.frozen?_setCell, World.frozen?_setCell, World.frozen?_setCell, World.frozen?_setCell, World.frozen?_setCell, World.frozen?_setCell, World.frozen?_setCell, World.frozen?_setCell]
    exact ⟨z4 j, z5 j⟩
def oCp_0 : Oper := { dst := some 71, op := .load 24 (.tmp 7), type := 24, pos := "outright.go:54", after := #[], guard := none }
def oCp_1 : Oper := { dst := some 72, op := .call { callee := .value (.func 7), args := #[.tmp 71], argTypes := #[24] }, type := 24, pos := "outright.go:54", after := #[⟨0, .data⟩], guard := none }
def oCp_2 : Oper := { dst := some 73, op := .load 24 (.tmp 7), type := 24, pos := "outright.go:54", after := #[], guard := none }
def oCp_3 : Oper := { dst := some 74, op := .call { callee := .value (.func 7), args := #[.tmp 73], argTypes := #[24] }, type := 24, pos := "outright.go:54", after := #[⟨2, .data⟩, ⟨1, .chain⟩], guard := none }
def oCp_4 : Oper := { dst := some 19, op := .alloc 24, type := 0, pos := "outright.go:54", after := #[], guard := none }
def oCp_5 : Oper := { dst := some 20, op := .alloc 24, type := 0, pos := "outright.go:54", after := #[], guard := none }
def oCp_6 : Oper := { dst := none, op := .store 24 (.tmp 19) (.tmp 72), type := 0, pos := "outright.go:54", after := #[⟨4, .data⟩, ⟨1, .data⟩, ⟨3, .chain⟩, ⟨0, .phase⟩, ⟨1, .phase⟩, ⟨2, .textOnly .lateStores⟩, ⟨3, .textOnly .lateStoresUnsure⟩, ⟨4, .phase⟩, ⟨5, .phase⟩], guard := none }
def oCp_7 : Oper := { dst := none, op := .store 24 (.tmp 20) (.tmp 74), type := 0, pos := "outright.go:54", after := #[⟨5, .data⟩, ⟨3, .data⟩, ⟨6, .chain⟩, ⟨0, .phase⟩, ⟨1, .phase⟩, ⟨2, .phase⟩, ⟨3, .phase⟩, ⟨4, .phase⟩, ⟨5, .phase⟩, ⟨6, .phase⟩], guard := none }
def opsCp : List Oper := [oCp_0, oCp_1, oCp_2, oCp_3, oCp_4, oCp_5, oCp_6, oCp_7]
def sCp : List Nat := [71, 72, 73, 74, 19, 20]
def spCp (pw ph : Int) (ad : Option Addr) (n c b5 : Nat) (S : List Nat) : List Sp3 := [iV (.agg #[.int .i64 pw, .int .i64 ph, .slice ad n c]), cpS pw ph n S, iV (.agg #[.int .i64 pw, .int .i64 ph, .slice ad n c]), cpS pw ph n S, bxQ, bxQ]
structure EnvCp (a0 : Act) (w : World) (pw ph : Int) (ad : Option Addr) (n c b5 : Nat) (S : List Nat) : Prop where
  h5 : a0.tmps[7]? = some (.pointer (some ⟨b5, 0, none⟩))
  c0 : w.cell? ⟨b5, 0, none⟩ = some (.int .i64 pw)
  c1 : w.cell? ⟨b5, 1, none⟩ = some (.int .i64 ph)
  c2 : w.cell? ⟨b5, 2, none⟩ = some (.slice ad n c)
  k1 : ∀ x : World, Q w x → Calls Try.prog 7 #[.agg #[.int .i64 pw, .int .i64 ph, .slice ad n c]] x fun e x' => ∃ v, e = .returned v ∧ CpV pw ph n S x.heap.size x'.heap.size x' v ∧ Q x x'
theorem yCp_0 {a0 : Act} {w : World} {pw ph : Int} {ad : Option Addr} {n c b5 : Nat} {S : List Nat} (E : EnvCp a0 w pw ph ad n c b5 S) {R : Exit → Act → World → Prop} {a : Act} {x : World} {val : Nat → Value} (q : Q w x) (oth : ∀ j, j ∉ sCp → a.tmps[j]? = a0.tmps[j]?) (dep : ∀ ed ∈ oCp_0.after, Region.binds .any ed = true → ∀ (s' : Sp3) t', (spCp pw ph ad n c b5 S)[ed.on]? = some s' → sCp[ed.on]? = some t' → a.tmps[t']? = some (val ed.on) ∧ ∃ lo hi, s'.p (val ed.on) val lo hi x) : Yld Try.prog R oCp_0 a x 71 (fun v x' => (iV (.agg #[.int .i64 pw, .int .i64 ph, .slice ad n c])).p v val x.heap.size x'.heap.size x') := by
  have tt := (oth 7 (by decide)).trans E.h5
  have c0 := q.cell E.c0
  have c1 := q.cell E.c1
  have c2 := q.cell E.c2
  exact yld_run (x' := x) rfl (by simp [oCp_0, execOp, tt, go_sem, c0, c1, c2]) (Q.refl x) rfl
theorem yCp_1 {a0 : Act} {w : World} {pw ph : Int} {ad : Option Addr} {n c b5 : Nat} {S : List Nat} (E : EnvCp a0 w pw ph ad n c b5 S) {R : Exit → Act → World → Prop} {a : Act} {x : World} {val : Nat → Value} (q : Q w x) (oth : ∀ j, j ∉ sCp → a.tmps[j]? = a0.tmps[j]?) (dep : ∀ ed ∈ oCp_1.after, Region.binds .any ed = true → ∀ (s' : Sp3) t', (spCp pw ph ad n c b5 S)[ed.on]? = some s' → sCp[ed.on]? = some t' → a.tmps[t']? = some (val ed.on) ∧ ∃ lo hi, s'.p (val ed.on) val lo hi x) : Yld Try.prog R oCp_1 a x 72 (fun v x' => (cpS pw ph n S).p v val x.heap.size x'.heap.size x') := by
  obtain ⟨t0, lo0, hi0, f0⟩ := dep ⟨0, .data⟩ (by simp [oCp_1]) rfl _ 71 rfl rfl
  have f0 : val 0 = (.agg #[.int .i64 pw, .int .i64 ph, .slice ad n c]) := f0
  rw [f0] at t0
  refine yld_call (enters_of Try.func7 (by kernel_rfl) rfl) (vs := #[.agg #[.int .i64 pw, .int .i64 ph, .slice ad n c]]) (by simp [tmp_eval t0]) ((E.k1 x q).mono ?_)
  rintro u x' ⟨v, rfl, h, q'⟩
  exact ⟨v, rfl, q', h⟩
theorem yCp_2 {a0 : Act} {w : World} {pw ph : Int} {ad : Option Addr} {n c b5 : Nat} {S : List Nat} (E : EnvCp a0 w pw ph ad n c b5 S) {R : Exit → Act → World → Prop} {a : Act} {x : World} {val : Nat → Value} (q : Q w x) (oth : ∀ j, j ∉ sCp → a.tmps[j]? = a0.tmps[j]?) (dep : ∀ ed ∈ oCp_2.after, Region.binds .any ed = true → ∀ (s' : Sp3) t', (spCp pw ph ad n c b5 S)[ed.on]? = some s' → sCp[ed.on]? = some t' → a.tmps[t']? = some (val ed.on) ∧ ∃ lo hi, s'.p (val ed.on) val lo hi x) : Yld Try.prog R oCp_2 a x 73 (fun v x' => (iV (.agg #[.int .i64 pw, .int .i64 ph, .slice ad n c])).p v val x.heap.size x'.heap.size x') := by
  have tt := (oth 7 (by decide)).trans E.h5
  have c0 := q.cell E.c0
  have c1 := q.cell E.c1
  have c2 := q.cell E.c2
  exact yld_run (x' := x) rfl (by simp [oCp_2, execOp, tt, go_sem, c0, c1, c2]) (Q.refl x) rfl
theorem yCp_3 {a0 : Act} {w : World} {pw ph : Int} {ad : Option Addr} {n c b5 : Nat} {S : List Nat} (E : EnvCp a0 w pw ph ad n c b5 S) {R : Exit → Act → World → Prop} {a : Act} {x : World} {val : Nat → Value} (q : Q w x) (oth : ∀ j, j ∉ sCp → a.tmps[j]? = a0.tmps[j]?) (dep : ∀ ed ∈ oCp_3.after, Region.binds .any ed = true → ∀ (s' : Sp3) t', (spCp pw ph ad n c b5 S)[ed.on]? = some s' → sCp[ed.on]? = some t' → a.tmps[t']? = some (val ed.on) ∧ ∃ lo hi, s'.p (val ed.on) val lo hi x) : Yld Try.prog R oCp_3 a x 74 (fun v x' => (cpS pw ph n S).p v val x.heap.size x'.heap.size x') := by
  obtain ⟨t2, lo2, hi2, f2⟩ := dep ⟨2, .data⟩ (by simp [oCp_3]) rfl _ 73 rfl rfl
  have f2 : val 2 = (.agg #[.int .i64 pw, .int .i64 ph, .slice ad n c]) := f2
  rw [f2] at t2
  refine yld_call (enters_of Try.func7 (by kernel_rfl) rfl) (vs := #[.agg #[.int .i64 pw, .int .i64 ph, .slice ad n c]]) (by simp [tmp_eval t2]) ((E.k1 x q).mono ?_)
  rintro u x' ⟨v, rfl, h, q'⟩
  exact ⟨v, rfl, q', h⟩
theorem yCp_4 {a0 : Act} {w : World} {pw ph : Int} {ad : Option Addr} {n c b5 : Nat} {S : List Nat} (E : EnvCp a0 w pw ph ad n c b5 S) {R : Exit → Act → World → Prop} {a : Act} {x : World} {val : Nat → Value} (q : Q w x) (oth : ∀ j, j ∉ sCp → a.tmps[j]? = a0.tmps[j]?) (dep : ∀ ed ∈ oCp_4.after, Region.binds .any ed = true → ∀ (s' : Sp3) t', (spCp pw ph ad n c b5 S)[ed.on]? = some s' → sCp[ed.on]? = some t' → a.tmps[t']? = some (val ed.on) ∧ ∃ lo hi, s'.p (val ed.on) val lo hi x) : Yld Try.prog R oCp_4 a x 19 (fun v x' => (bxQ).p v val x.heap.size x'.heap.size x') := by
  exact yld_run (x' := x.alloc (.cells #[.int .i64 0, .int .i64 0, .slice none 0 0] 24)) rfl (by simp [oCp_4, execOp, go_sem]) ((Q.refl x).cells _ _) ⟨rfl, by simp, by simp [go_sem], by simp [go_sem], by simp [go_sem], fun j => by simp [go_sem]⟩
theorem yCp_5 {a0 : Act} {w : World} {pw ph : Int} {ad : Option Addr} {n c b5 : Nat} {S : List Nat} (E : EnvCp a0 w pw ph ad n c b5 S) {R : Exit → Act → World → Prop} {a : Act} {x : World} {val : Nat → Value} (q : Q w x) (oth : ∀ j, j ∉ sCp → a.tmps[j]? = a0.tmps[j]?) (dep : ∀ ed ∈ oCp_5.after, Region.binds .any ed = true → ∀ (s' : Sp3) t', (spCp pw ph ad n c b5 S)[ed.on]? = some s' → sCp[ed.on]? = some t' → a.tmps[t']? = some (val ed.on) ∧ ∃ lo hi, s'.p (val ed.on) val lo hi x) : Yld Try.prog R oCp_5 a x 20 (fun v x' => (bxQ).p v val x.heap.size x'.heap.size x') := by
  exact yld_run (x' := x.alloc (.cells #[.int .i64 0, .int .i64 0, .slice none 0 0] 24)) rfl (by simp [oCp_5, execOp, go_sem]) ((Q.refl x).cells _ _) ⟨rfl, by simp, by simp [go_sem], by simp [go_sem], by simp [go_sem], fun j => by simp [go_sem]⟩
theorem hopCp {a0 : Act} {w : World} {pw ph : Int} {ad : Option Addr} {n c b5 : Nat} {S : List Nat} (E : EnvCp a0 w pw ph ad n c b5 S) {R : Exit → Act → World → Prop} : ∀ (i t : Nat) (o : Oper) (sp : Sp3) (a : Act) (x : World) (val : Nat → Value), sCp[i]? = some t → opsCp[i]? = some o → (spCp pw ph ad n c b5 S)[i]? = some sp → Q w x → (∀ j, j ∉ sCp → a.tmps[j]? = a0.tmps[j]?) → (∀ ed ∈ o.after, Region.binds .any ed = true → ∀ (s' : Sp3) t', (spCp pw ph ad n c b5 S)[ed.on]? = some s' → sCp[ed.on]? = some t' → a.tmps[t']? = some (val ed.on) ∧ ∃ lo hi, s'.p (val ed.on) val lo hi x) → Yld Try.prog R o a x t (fun v x' => sp.p v val x.heap.size x'.heap.size x')
  | 0, t, o, sp, a, x, val, ht, ho, hs, q, oth, dep => by
    have e1 : oCp_0 = o := Option.some.inj ho
    have e2 : 71 = t := Option.some.inj ht
    have e3 := Option.some.inj hs
    subst e1 e2 e3
    exact yCp_0 E q oth dep
  | 1, t, o, sp, a, x, val, ht, ho, hs, q, oth, dep => by
    have e1 : oCp_1 = o := Option.some.inj ho
    have e2 : 72 = t := Option.some.inj ht
    have e3 := Option.some.inj hs
    subst e1 e2 e3
    exact yCp_1 E q oth dep
  | 2, t, o, sp, a, x, val, ht, ho, hs, q, oth, dep => by
    have e1 : oCp_2 = o := Option.some.inj ho
    have e2 : 73 = t := Option.some.inj ht
    have e3 := Option.some.inj hs
    subst e1 e2 e3
    exact yCp_2 E q oth dep
  | 3, t, o, sp, a, x, val, ht, ho, hs, q, oth, dep => by
    have e1 : oCp_3 = o := Option.some.inj ho
    have e2 : 74 = t := Option.some.inj ht
    have e3 := Option.some.inj hs
    subst e1 e2 e3
    exact yCp_3 E q oth dep
  | 4, t, o, sp, a, x, val, ht, ho, hs, q, oth, dep => by
    have e1 : oCp_4 = o := Option.some.inj ho
    have e2 : 19 = t := Option.some.inj ht
    have e3 := Option.some.inj hs
    subst e1 e2 e3
    exact yCp_4 E q oth dep
  | 5, t, o, sp, a, x, val, ht, ho, hs, q, oth, dep => by
    have e1 : oCp_5 = o := Option.some.inj ho
    have e2 : 20 = t := Option.some.inj ht
    have e3 := Option.some.inj hs
    subst e1 e2 e3
    exact yCp_5 E q oth dep
  | i + 6, t, o, sp, a, x, val, ht, ho, hs, q, oth, dep => by cases ht
set_option maxHeartbeats 1000000 in
theorem regionCp {id : Nat} {l : List Oper} {R : Exit → Act → World → Prop} {a0 : Act} {w : World} {pw ph : Int} {ad : Option Addr} {n c b5 : Nat} {S : List Nat} (hl : l = opsCp) (hsz : a0.tmps.size = 308) (E : EnvCp a0 w pw ph ad n c b5 S)
    (hR : ∀ x a1 c1 a2 c2 g1 g2, TwoC pw ph n S a1 c1 a2 c2 g1 g2 w x → R .normal (putAll a0 [(71, .agg #[.int .i64 pw, .int .i64 ph, .slice ad n c]), (72, .agg #[.int .i64 pw, .int .i64 ph, .slice a1 n c1]), (73, .agg #[.int .i64 pw, .int .i64 ph, .slice ad n c]), (74, .agg #[.int .i64 pw, .int .i64 ph, .slice a2 n c2]), (19, .pointer (some ⟨g1, 0, none⟩)), (20, .pointer (some ⟨g2, 0, none⟩))]) x) :
    (Code.region id l.toArray true).wp Try.prog R a0 w := by
  subst hl
  refine wp_region_newI 6 sCp (spCp pw ph ad n c b5 S) [[], [], [], [], [], []] (by kernel_rfl) (by decide +kernel) (by decide +kernel) rfl (by decide) (fun t ht => ?_) (hopCp E) (fun a x val iv q size defers other facts ivs apart => ?_)
  · rw [hsz]
    revert t
    decide
  · obtain ⟨t0, f0⟩ := facts 0 71 _ rfl rfl
    have f0 : val 0 = (.agg #[.int .i64 pw, .int .i64 ph, .slice ad n c]) := f0
    rw [f0] at t0
    obtain ⟨t1, f1⟩ := facts 1 72 _ rfl rfl
    obtain ⟨t2, f2⟩ := facts 2 73 _ rfl rfl
    have f2 : val 2 = (.agg #[.int .i64 pw, .int .i64 ph, .slice ad n c]) := f2
    rw [f2] at t2
    obtain ⟨t3, f3⟩ := facts 3 74 _ rfl rfl
    obtain ⟨t4, f4⟩ := facts 4 19 _ rfl rfl
    obtain ⟨t5, f5⟩ := facts 5 20 _ rfl rfl
    obtain ⟨a1, c1, y1, e1, h1⟩ := f1
    obtain ⟨a2, c2, y3, e3, h3⟩ := f3
    obtain ⟨e4, l4, c40, c41, c42, z4⟩ := f4
    obtain ⟨e5, l5, c50, c51, c52, z5⟩ := f5
    have i1 := ivs 1 (by decide)
    have i3 := ivs 3 (by decide)
    have i4 := ivs 4 (by decide)
    have i5 := ivs 5 (by decide)
    have p14 := apart 1 4 (by decide) (by decide) (by decide)
    have p15 := apart 1 5 (by decide) (by decide) (by decide)
    have p34 := apart 3 4 (by decide) (by decide) (by decide)
    have p35 := apart 3 5 (by decide) (by decide) (by decide)
    have p45 := apart 4 5 (by decide) (by decide) (by decide)
    have p13 := apart 1 3 (by decide) (by decide) (by decide)
    rw [e1] at t1
    rw [e3] at t3
    rw [e4] at t4
    rw [e5] at t5
    generalize (iv 4).1 = g1 at *
    generalize (iv 5).1 = g2 at *
    have hA := act_puts (a := a) (a0 := a0) [(71, .agg #[.int .i64 pw, .int .i64 ph, .slice ad n c]), (72, .agg #[.int .i64 pw, .int .i64 ph, .slice a1 n c1]), (73, .agg #[.int .i64 pw, .int .i64 ph, .slice ad n c]), (74, .agg #[.int .i64 pw, .int .i64 ph, .slice a2 n c2]), (19, .pointer (some ⟨g1, 0, none⟩)), (20, .pointer (some ⟨g2, 0, none⟩))] (show ([71, 72, 73, 74, 19, 20] : List Nat).Nodup by decide) size defers (fun j hj => other j (by simpa [sCp] using hj)) (fun r hr => ?_)
    · refine ⟨?_⟩
      have hne : g1 ≠ g2 := by omega
      have hlA : w.heap.size ≤ g1 := by omega
      have hlB : w.heap.size ≤ g2 := by omega
      have hT := two_mk (pw := pw) (ph := ph) (c1 := c1) (c2 := c2) q c40 c41 c42 c50 c51 c52 z4 z5 hne hlA hlB h1 h3 i1.1 i3.1 y1 y3 p13 p14 p15 p34 p35 l4 l5
      refine post_skip (x' := (((x).setCell ⟨g1, 0, none⟩ (.int .i64 pw)).setCell ⟨g1, 1, none⟩ (.int .i64 ph)).setCell ⟨g1, 2, none⟩ (.slice a1 n c1)) rfl (run_stp t1 t4 c40 c41 c42 z4) ?_
      refine post_skip (x' := ((((((x).setCell ⟨g1, 0, none⟩ (.int .i64 pw)).setCell ⟨g1, 1, none⟩ (.int .i64 ph)).setCell ⟨g1, 2, none⟩ (.slice a1 n c1)).setCell ⟨g2, 0, none⟩ (.int .i64 pw)).setCell ⟨g2, 1, none⟩ (.int .i64 ph)).setCell ⟨g2, 2, none⟩ (.slice a2 n c2)) rfl (run_stp t3 t5 hT.2.1 hT.2.2.1 hT.2.2.2.1 hT.2.2.2.2) ?_
      show R .normal a _
      rw [hA]
      exact hR _ a1 c1 a2 c2 g1 g2 hT.1
    · simp only [List.mem_cons, List.not_mem_nil, or_false] at hr
      rcases hr with rfl | rfl | rfl | rfl | rfl | rfl
      · exact t0
      · exact t1
      · exact t2
      · exact t3
      · exact t4
      · exact t5
set_option maxRecDepth 100000 in
theorem normCp {t0 t1 t2 t3 t4 t5 t6 t7 t8 t9 t10 t11 t12 t13 t14 t15 t16 t17 t18 t19 t20 t21 t22 t23 t24 t25 t26 t27 t28 t29 t30 t31 t32 t33 t34 t35 t36 t37 t38 t39 t40 t41 t42 t43 t44 t45 t46 t47 t48 t49 t50 t51 t52 t53 t54 t55 t56 t57 t58 t59 t60 t61 t62 t63 t64 t65 t66 t67 t68 t69 t70 t71 t72 t73 t74 t75 t76 t77 t78 t79 t80 t81 t82 t83 t84 t85 t86 t87 t88 t89 t90 t91 t92 t93 t94 t95 t96 t97 t98 t99 t100 t101 t102 t103 t104 t105 t106 t107 t108 t109 t110 t111 t112 t113 t114 t115 t116 t117 t118 t119 t120 t121 t122 t123 t124 t125 t126 t127 t128 t129 t130 t131 t132 t133 t134 t135 t136 t137 t138 t139 t140 t141 t142 t143 t144 t145 t146 t147 t148 t149 t150 t151 t152 t153 t154 t155 t156 t157 t158 t159 t160 t161 t162 t163 t164 t165 t166 t167 t168 t169 t170 t171 t172 t173 t174 t175 t176 t177 t178 t179 t180 t181 t182 t183 t184 t185 t186 t187 t188 t189 t190 t191 t192 t193 t194 t195 t196 t197 t198 t199 t200 t201 t202 t203 t204 t205 t206 t207 t208 t209 t210 t211 t212 t213 t214 t215 t216 t217 t218 t219 t220 t221 t222 t223 t224 t225 t226 t227 t228 t229 t230 t231 t232 t233 t234 t235 t236 t237 t238 t239 t240 t241 t242 t243 t244 t245 t246 t247 t248 t249 t250 t251 t252 t253 t254 t255 t256 t257 t258 t259 t260 t261 t262 t263 t264 t265 t266 t267 t268 t269 t270 t271 t272 t273 t274 t275 t276 t277 t278 t279 t280 t281 t282 t283 t284 t285 t286 t287 t288 t289 t290 t291 t292 t293 t294 t295 t296 t297 t298 t299 t300 t301 t302 t303 t304 t305 t306 t307 v71 v72 v73 v74 v19 v20 : Value} {d : List Deferred} : putAll ⟨#[t0, t1, t2, t3, t4, t5, t6, t7, t8, t9, t10, t11, t12, t13, t14, t15, t16, t17, t18, t19, t20, t21, t22, t23, t24, t25, t26, t27, t28, t29, t30, t31, t32, t33, t34, t35, t36, t37, t38, t39, t40, t41, t42, t43, t44, t45, t46, t47, t48, t49, t50, t51, t52, t53, t54, t55, t56, t57, t58, t59, t60, t61, t62, t63, t64, t65, t66, t67, t68, t69, t70, t71, t72, t73, t74, t75, t76, t77, t78, t79, t80, t81, t82, t83, t84, t85, t86, t87, t88, t89, t90, t91, t92, t93, t94, t95, t96, t97, t98, t99, t100, t101, t102, t103, t104, t105, t106, t107, t108, t109, t110, t111, t112, t113, t114, t115, t116, t117, t118, t119, t120, t121, t122, t123, t124, t125, t126, t127, t128, t129, t130, t131, t132, t133, t134, t135, t136, t137, t138, t139, t140, t141, t142, t143, t144, t145, t146, t147, t148, t149, t150, t151, t152, t153, t154, t155, t156, t157, t158, t159, t160, t161, t162, t163, t164, t165, t166, t167, t168, t169, t170, t171, t172, t173, t174, t175, t176, t177, t178, t179, t180, t181, t182, t183, t184, t185, t186, t187, t188, t189, t190, t191, t192, t193, t194, t195, t196, t197, t198, t199, t200, t201, t202, t203, t204, t205, t206, t207, t208, t209, t210, t211, t212, t213, t214, t215, t216, t217, t218, t219, t220, t221, t222, t223, t224, t225, t226, t227, t228, t229, t230, t231, t232, t233, t234, t235, t236, t237, t238, t239, t240, t241, t242, t243, t244, t245, t246, t247, t248, t249, t250, t251, t252, t253, t254, t255, t256, t257, t258, t259, t260, t261, t262, t263, t264, t265, t266, t267, t268, t269, t270, t271, t272, t273, t274, t275, t276, t277, t278, t279, t280, t281, t282, t283, t284, t285, t286, t287, t288, t289, t290, t291, t292, t293, t294, t295, t296, t297, t298, t299, t300, t301, t302, t303, t304, t305, t306, t307], d⟩ [(71, v71), (72, v72), (73, v73), (74, v74), (19, v19), (20, v20)] = ⟨#[t0, t1, t2, t3, t4, t5, t6, t7, t8, t9, t10, t11, t12, t13, t14, t15, t16, t17, t18, v19, v20, t21, t22, t23, t24, t25, t26, t27, t28, t29, t30, t31, t32, t33, t34, t35, t36, t37, t38, t39, t40, t41, t42, t43, t44, t45, t46, t47, t48, t49, t50, t51, t52, t53, t54, t55, t56, t57, t58, t59, t60, t61, t62, t63, t64, t65, t66, t67, t68, t69, t70, v71, v72, v73, v74, t75, t76, t77, t78, t79, t80, t81, t82, t83, t84, t85, t86, t87, t88, t89, t90, t91, t92, t93, t94, t95, t96, t97, t98, t99, t100, t101, t102, t103, t104, t105, t106, t107, t108, t109, t110, t111, t112, t113, t114, t115, t116, t117, t118, t119, t120, t121, t122, t123, t124, t125, t126, t127, t128, t129, t130, t131, t132, t133, t134, t135, t136, t137, t138, t139, t140, t141, t142, t143, t144, t145, t146, t147, t148, t149, t150, t151, t152, t153, t154, t155, t156, t157, t158, t159, t160, t161, t162, t163, t164, t165, t166, t167, t168, t169, t170, t171, t172, t173, t174, t175, t176, t177, t178, t179, t180, t181, t182, t183, t184, t185, t186, t187, t188, t189, t190, t191, t192, t193, t194, t195, t196, t197, t198, t199, t200, t201, t202, t203, t204, t205, t206, t207, t208, t209, t210, t211, t212, t213, t214, t215, t216, t217, t218, t219, t220, t221, t222, t223, t224, t225, t226, t227, t228, t229, t230, t231, t232, t233, t234, t235, t236, t237, t238, t239, t240, t241, t242, t243, t244, t245, t246, t247, t248, t249, t250, t251, t252, t253, t254, t255, t256, t257, t258, t259, t260, t261, t262, t263, t264, t265, t266, t267, t268, t269, t270, t271, t272, t273, t274, t275, t276, t277, t278, t279, t280, t281, t282, t283, t284, t285, t286, t287, t288, t289, t290, t291, t292, t293, t294, t295, t296, t297, t298, t299, t300, t301, t302, t303, t304, t305, t306, t307], d⟩ := by
  kernel_rfl
theorem hcopy_cp (pw ph : Int) (ad : Option Addr) (n c : Nat) (S : List Nat) (x : World) (hU : USl x (.slice ad n c) S) (hn : S.length = n) (h2 : n ≤ 1000000) :
    Calls Try.prog 7 #[.agg #[.int .i64 pw, .int .i64 ph, .slice ad n c]] x fun e x' => ∃ v, e = .returned v ∧ CpV pw ph n S x.heap.size x'.heap.size x' v ∧ Q x x' := by
  rcases Nat.eq_zero_or_pos n with h0 | h0
  · subst h0
    refine (hcopy_none x pw ph ad c).mono ?_
    rintro e x' ⟨v, rfl, rfl, q⟩
    exact ⟨_, rfl, ⟨none, 0, Nat.le_refl _, rfl, Or.inl rfl⟩, q⟩
  · obtain ⟨g, o, d, hs, hle, hI⟩ := hU.some (by omega)
    rw [hn] at hs
    injection hs with e1 e2 e3
    subst e1 e3
    refine (hcopy_some x pw ph g o n _ S hn hI h0 h2).mono ?_
    rintro e x' ⟨v, rfl, b, cap, rfl, h1, h3, ho⟩
    exact ⟨_, rfl, ⟨some ⟨b, 0, none⟩, cap, h1, rfl, Or.inr ⟨b, rfl, ho.new, h3, ho.cells, ho.free⟩⟩, ho.q⟩
end Go.Proofs.Ytikhmlcmmabapaa

/- Appending to a list without room: what lies where. -/
import Derived.Test.YtcolhgngiflkhaaGea29bbe3
import Derived.Laws.Append
import Derived.Laws.AppendOwn
import Derived.OwnWalk
import Derived.Test.YtcolhgngiflkhaaG6559e375
import Derived.Test.YtcolhgngiflkhaaG9907aa2c
namespace Go.Proofs.Ytcolhgngiflkhaa
open Go.RowKit

theorem run_app_new {P : Program} (w : World) (t ty e : TypeId) (i : TypeInfo) (z : Value) (ht : P.underlying t = some (.slice e)) (hi : P.info? e = some i) (hz : i.zero = some z)
    (v : Value) (hv : v = .slice none 0 0 ∨ ∃ b, v = .slice (some b) 0 0) (ad : Addr) (m c : Nat) (news : List Value) (hl : news.length = m * i.size) (hnews : ∀ j u, news[j]? = some u → w.cell? (ad.add j) = some u)
    (h0 : 0 < m) (h63 : m ≤ 1125899906842624) (hby : m * i.bytes ≤ 140737488355328) :
    ∃ cap w', (Builtin.append_ #[t, t] ty #[v, .slice (some ad) m c]).run P w = .ok (.slice (some ⟨w.heap.size, 0, none⟩) m cap) w' ∧ Q w w' ∧ m ≤ cap ∧ w'.heap.size = w.heap.size + 1 ∧
      (∀ j u, news[j]? = some u → w'.cell? ⟨w.heap.size, j, none⟩ = some u) ∧ ∀ j, w'.frozen? ⟨w.heap.size, j, none⟩ = false := by
  have fin : ∀ (cs : Array Value), (∀ (j : Nat) (u : Value), news[j]? = some u → cs[j]? = some u) → Q w (w.drew.alloc (.cells cs e)) ∧ (w.drew.alloc (.cells cs e)).heap.size = w.heap.size + 1 ∧
      (∀ (j : Nat) (u : Value), news[j]? = some u → (w.drew.alloc (.cells cs e)).cell? ⟨w.heap.size, j, none⟩ = some u) ∧ ∀ j, (w.drew.alloc (.cells cs e)).frozen? ⟨w.heap.size, j, none⟩ = false := by
    intro cs hcs
    have hb : (w.drew.alloc (.cells cs e)).heap[w.heap.size]? = some (.cells cs e (0, 0)) := heap_alloc_new w.drew _
    refine ⟨(Q.refl w).drew.cells _ _, by simp, fun j u hu => ?_, fun j => frozen_of_row _ _ _ _ _ hb⟩
    rw [cell_of_row _ _ j cs e (0, 0) hb]
    exact hcs j u hu
  have key : ∀ (n : Nat) (j : Nat) (u : Value), news[j]? = some u → (news.toArray ++ Builtin.zeroCells z.cells n)[j]? = some u := by
    intro n j u hu
    have hj : j < news.length := (List.getElem?_eq_some_iff.1 hu).1
    rw [Array.getElem?_append_left (by simpa using hj)]
    simpa using hu
  rcases hv with rfl | ⟨b, rfl⟩
  · have hr := run_append_nil (P := P) w t ty e i z ht hi hz ad m c news hl hnews h0 (by omega) (by omega)
    obtain ⟨q1, q2, q3, q4⟩ := fin _ (key (grownCap w m 0 e - m))
    exact ⟨_, _, hr, q1, grownCap_ge w m 0 e, q2, q3, q4⟩
  · have hr := run_append_grow (P := P) w t ty e i z ht hi hz b 0 0 [] (by simp) (fun j v h => by simp at h) ad m c news hl hnews (by omega) (by omega) (growslice_fits (by omega) (by rw [Nat.zero_add]; exact hby))
    simp only [Nat.zero_add, Array.empty_append] at hr
    obtain ⟨q1, q2, q3, q4⟩ := fin _ (key (grownCap w m 0 e - m))
    exact ⟨_, _, hr, q1, grownCap_ge w m 0 e, q2, q3, q4⟩

/-- In a list of operations. -/
theorem wpList_app {P : Program} (w : World) {ops : Array Oper} {rest : List Oper} {o : Oper} {a : Act} {R : Exit → Act → World → Prop} (hgd : o.guard = none) (s x : Operand) (t : TypeId)
    (ho : o.op = .call { callee := .builtin .append, args := #[s, x], argTypes := #[t, t] })
    (e : TypeId) (i : TypeInfo) (z : Value) (ht : P.underlying t = some (.slice e)) (hi : P.info? e = some i) (hz : i.zero = some z)
    (v : Value) (hv : v = .slice none 0 0 ∨ ∃ b, v = .slice (some b) 0 0) (hs : a.eval s = v) (ad : Addr) (m c : Nat) (news : List Value) (hx : a.eval x = .slice (some ad) m c) (hl : news.length = m * i.size) (hnews : ∀ j u, news[j]? = some u → w.cell? (ad.add j) = some u)
    (h0 : 0 < m) (h63 : m ≤ 1125899906842624) (hby : m * i.bytes ≤ 140737488355328)
    (h : ∀ cap w', Q w w' → m ≤ cap → w'.heap.size = w.heap.size + 1 → (∀ j u, news[j]? = some u → w'.cell? ⟨w.heap.size, j, none⟩ = some u) → (∀ j, w'.frozen? ⟨w.heap.size, j, none⟩ = false) → wpList P ops R rest (a.put o.dst (.slice (some ⟨w.heap.size, 0, none⟩) m cap)) w') :
    wpList P ops R (o :: rest) a w := by
  obtain ⟨cap, w', hr, h1, h2, h3, h4, h5⟩ := run_app_new (P := P) w t o.type e i z ht hi hz v hv ad m c news hl hnews h0 h63 hby
  refine wpList_plain hgd fun _ hK => ?_
  unfold Oper.wp execOp
  simp only [ho, resolve, invoke, builtin, Sem.run_bind, Sem.run_pure, Result.andThen_ok, List.map_toArray, List.map_cons, List.map_nil, hs, hx, hr]
  exact hK _ _ (h cap w' h1 h2 h3 h4 h5)
end Go.Proofs.Ytcolhgngiflkhaa
/- Appending to a list without room: what lies where, and that all the new room is there. -/
namespace Go.Proofs.Ytcolhgngiflkhaa
open Go.RowKit

theorem run_app_room {P : Program} (w : World) (t ty e : TypeId) (i : TypeInfo) (z : Value) (ht : P.underlying t = some (.slice e)) (hi : P.info? e = some i) (hz : i.zero = some z) (hzs : z.cells.size = i.size)
    (v : Value) (hv : v = .slice none 0 0 ∨ ∃ b, v = .slice (some b) 0 0) (ad : Addr) (m c : Nat) (news : List Value) (hl : news.length = m * i.size) (hnews : ∀ j u, news[j]? = some u → w.cell? (ad.add j) = some u)
    (h0 : 0 < m) (h63 : m ≤ 1125899906842624) (hby : m * i.bytes ≤ 140737488355328) :
    ∃ cap w', (Builtin.append_ #[t, t] ty #[v, .slice (some ad) m c]).run P w = .ok (.slice (some ⟨w.heap.size, 0, none⟩) m cap) w' ∧ Q w w' ∧ m ≤ cap ∧ cap ≤ maxLen ∧ w'.heap.size = w.heap.size + 1 ∧
      (∀ j u, news[j]? = some u → w'.cell? ⟨w.heap.size, j, none⟩ = some u) ∧ (∀ j, j < cap * i.size → ∃ u, w'.cell? ⟨w.heap.size, j, none⟩ = some u) ∧ ∀ j, w'.frozen? ⟨w.heap.size, j, none⟩ = false := by
  have hmm : m ≤ maxLen := by unfold maxLen; omega
  have fin : ∀ (n : Nat) (cs : Array Value), (∀ (j : Nat) (u : Value), news[j]? = some u → cs[j]? = some u) → cs.size = n * i.size → Q w (w.drew.alloc (.cells cs e)) ∧ (w.drew.alloc (.cells cs e)).heap.size = w.heap.size + 1 ∧
      (∀ (j : Nat) (u : Value), news[j]? = some u → (w.drew.alloc (.cells cs e)).cell? ⟨w.heap.size, j, none⟩ = some u) ∧ (∀ j, j < n * i.size → ∃ u, (w.drew.alloc (.cells cs e)).cell? ⟨w.heap.size, j, none⟩ = some u) ∧ ∀ j, (w.drew.alloc (.cells cs e)).frozen? ⟨w.heap.size, j, none⟩ = false := by
    intro n cs hcs hs
    have hb : (w.drew.alloc (.cells cs e)).heap[w.heap.size]? = some (.cells cs e (0, 0)) := heap_alloc_new w.drew _
    refine ⟨(Q.refl w).drew.cells _ _, by simp, fun j u hu => ?_, fun j hj => ?_, fun j => frozen_of_row _ _ _ _ _ hb⟩
    · rw [cell_of_row _ _ j cs e (0, 0) hb]
      exact hcs j u hu
    · rw [cell_of_row _ _ j cs e (0, 0) hb]
      exact ⟨_, Array.getElem?_eq_getElem (by omega)⟩
  have key : ∀ (n : Nat) (j : Nat) (u : Value), news[j]? = some u → (news.toArray ++ Builtin.zeroCells z.cells n)[j]? = some u := by
    intro n j u hu
    have hj : j < news.length := (List.getElem?_eq_some_iff.1 hu).1
    rw [Array.getElem?_append_left (by simpa using hj)]
    simpa using hu
  have size : (news.toArray ++ Builtin.zeroCells z.cells (grownCap w m 0 e - m)).size = grownCap w m 0 e * i.size := by
    have := grownCap_ge w m 0 e
    rw [Array.size_append, size_zeroCells, hzs, List.size_toArray, hl, ← Nat.add_mul]
    congr 1; omega
  rcases hv with rfl | ⟨b, rfl⟩
  · have hr := run_append_nil (P := P) w t ty e i z ht hi hz ad m c news hl hnews h0 (by omega) (by omega)
    obtain ⟨q1, q2, q3, q4, q5⟩ := fin _ _ (key (grownCap w m 0 e - m)) size
    exact ⟨_, _, hr, q1, grownCap_ge w m 0 e, grownCap_le_maxLen w m 0 e hmm, q2, q3, q4, q5⟩
  · have hr := run_append_grow (P := P) w t ty e i z ht hi hz b 0 0 [] (by simp) (fun j v h => by simp at h) ad m c news hl hnews (by omega) (by omega) (growslice_fits (by omega) (by rw [Nat.zero_add]; exact hby))
    simp only [Nat.zero_add, Array.empty_append] at hr
    obtain ⟨q1, q2, q3, q4, q5⟩ := fin _ _ (key (grownCap w m 0 e - m)) size
    exact ⟨_, _, hr, q1, grownCap_ge w m 0 e, grownCap_le_maxLen w m 0 e hmm, q2, q3, q4, q5⟩
/-- In a list of operations. -/
theorem wpList_room {P : Program} (w : World) {ops : Array Oper} {rest : List Oper} {o : Oper} {a : Act} {R : Exit → Act → World → Prop} (hgd : o.guard = none) (s x : Operand) (t : TypeId)
    (ho : o.op = .call { callee := .builtin .append, args := #[s, x], argTypes := #[t, t] })
    (e : TypeId) (i : TypeInfo) (z : Value) (ht : P.underlying t = some (.slice e)) (hi : P.info? e = some i) (hz : i.zero = some z) (hzs : z.cells.size = i.size)
    (v : Value) (hv : v = .slice none 0 0 ∨ ∃ b, v = .slice (some b) 0 0) (hs : a.eval s = v) (ad : Addr) (m c : Nat) (news : List Value) (hx : a.eval x = .slice (some ad) m c) (hl : news.length = m * i.size) (hnews : ∀ j u, news[j]? = some u → w.cell? (ad.add j) = some u)
    (h0 : 0 < m) (h63 : m ≤ 1125899906842624) (hby : m * i.bytes ≤ 140737488355328)
    (h : ∀ cap w', Q w w' → m ≤ cap → cap ≤ maxLen → w'.heap.size = w.heap.size + 1 → (∀ j u, news[j]? = some u → w'.cell? ⟨w.heap.size, j, none⟩ = some u) → (∀ j, j < cap * i.size → ∃ u, w'.cell? ⟨w.heap.size, j, none⟩ = some u) → (∀ j, w'.frozen? ⟨w.heap.size, j, none⟩ = false) → wpList P ops R rest (a.put o.dst (.slice (some ⟨w.heap.size, 0, none⟩) m cap)) w') :
    wpList P ops R (o :: rest) a w := by
  obtain ⟨cap, w', hr, h1, h2, h3, h4, h5, h6, h7⟩ := run_app_room (P := P) w t o.type e i z ht hi hz hzs v hv ad m c news hl hnews h0 h63 hby
  refine wpList_plain hgd fun _ hK => ?_
  unfold Oper.wp execOp
  simp only [ho, resolve, invoke, builtin, Sem.run_bind, Sem.run_pure, Result.andThen_ok, List.map_toArray, List.map_cons, List.map_nil, hs, hx, hr]
  exact hK _ _ (h cap w' h1 h2 h3 h4 h5 h6 h7)
end Go.Proofs.Ytcolhgngiflkhaa
/- Copies of planes. -/
namespace Go.Proofs.Ytcolhgngiflkhaa
open Go.RowKit
set_option linter.unusedVariables false
set_option linter.unusedSimpArgs false

theorem uInfoq : ∃ i, Try.prog.info? 31 = some i ∧ i.size = 1 ∧ i.bytes = 4 ∧ i.zero = some (.int .u32 0) := info_of (by kernel_rfl) (by kernel_rfl)
theorem run_appopq {P : Program} {A : Act} {o : Oper} {x x' : World} {s u : Operand} {t : TypeId} (ho : o.op = .call { callee := .builtin .append, args := #[s, u], argTypes := #[t, t] }) {v v' r : Value} (hs : A.eval s = v) (hu : A.eval u = v') (hr : (Builtin.append_ #[t, t] o.type #[v, v']).run P x = .ok r x') : (execOp A.eval o).run P x = .ok (.value r) x' := by
  unfold execOp
  simp only [ho, resolve, invoke, builtin, Sem.run_bind, Sem.run_pure, Result.andThen_ok, List.map_toArray, List.map_cons, List.map_nil, hs, hu, hr]
set_option maxHeartbeats 2000000 in
set_option maxRecDepth 100000 in
theorem hcopy_some (w : World) (pw ph : Int) (g o n c : Nat) (S : List Nat) (hS : S.length = n) (hI : UIs w g o S) (h1 : 1 ≤ n) (h2 : n ≤ 1000000) :
    Calls Try.prog 11 #[.agg #[.int .i64 pw, .int .i64 ph, .slice (some ⟨g, o, none⟩) n c]] w fun e w' => ∃ v, e = .returned v ∧ ∃ b cap, v = .agg #[.int .i64 pw, .int .i64 ph, .slice (some ⟨b, 0, none⟩) n cap] ∧ n ≤ cap ∧ b < w'.heap.size ∧ Own w w' b S := by
  have HI : Hid (∀ x : World, Q w x → UIs x g o S) := fun x q => hI.next q
  have HN : Hid (S.length = n) := hS
  clear hI hS
  go_enter Try.func11, Try.ntmps11
  go_wp2_with fail
  have HQ : Hid (Q w ((w.alloc (Obj.cells #[Value.int IntKind.i64 pw, Value.int IntKind.i64 ph, .slice (some ⟨g, o, none⟩) n c] 24)).alloc (Obj.cells #[Value.int IntKind.i64 0, Value.int IntKind.i64 0, Value.slice none 0 0] 24))) := ((Q.refl w).cells _ _).cells _ _
  have c0 : ((w.alloc (Obj.cells #[Value.int IntKind.i64 pw, Value.int IntKind.i64 ph, .slice (some ⟨g, o, none⟩) n c] 24)).alloc (Obj.cells #[Value.int IntKind.i64 0, Value.int IntKind.i64 0, Value.slice none 0 0] 24)).cell? ⟨w.heap.size, 0, none⟩ = some (.int .i64 pw) := by simp [go_sem]
  have c1 : ((w.alloc (Obj.cells #[Value.int IntKind.i64 pw, Value.int IntKind.i64 ph, .slice (some ⟨g, o, none⟩) n c] 24)).alloc (Obj.cells #[Value.int IntKind.i64 0, Value.int IntKind.i64 0, Value.slice none 0 0] 24)).cell? ⟨w.heap.size, 1, none⟩ = some (.int .i64 ph) := by simp [go_sem]
  have c2 : ((w.alloc (Obj.cells #[Value.int IntKind.i64 pw, Value.int IntKind.i64 ph, .slice (some ⟨g, o, none⟩) n c] 24)).alloc (Obj.cells #[Value.int IntKind.i64 0, Value.int IntKind.i64 0, Value.slice none 0 0] 24)).cell? ⟨w.heap.size, 2, none⟩ = some (.slice (some ⟨g, o, none⟩) n c) := by simp [go_sem]
  have d0 : ((w.alloc (Obj.cells #[Value.int IntKind.i64 pw, Value.int IntKind.i64 ph, .slice (some ⟨g, o, none⟩) n c] 24)).alloc (Obj.cells #[Value.int IntKind.i64 0, Value.int IntKind.i64 0, Value.slice none 0 0] 24)).cell? ⟨w.heap.size + 1, 0, none⟩ = some (.int .i64 0) := by simp [go_sem]
  have d1 : ((w.alloc (Obj.cells #[Value.int IntKind.i64 pw, Value.int IntKind.i64 ph, .slice (some ⟨g, o, none⟩) n c] 24)).alloc (Obj.cells #[Value.int IntKind.i64 0, Value.int IntKind.i64 0, Value.slice none 0 0] 24)).cell? ⟨w.heap.size + 1, 1, none⟩ = some (.int .i64 0) := by simp [go_sem]
  have d2 : ((w.alloc (Obj.cells #[Value.int IntKind.i64 pw, Value.int IntKind.i64 ph, .slice (some ⟨g, o, none⟩) n c] 24)).alloc (Obj.cells #[Value.int IntKind.i64 0, Value.int IntKind.i64 0, Value.slice none 0 0] 24)).cell? ⟨w.heap.size + 1, 2, none⟩ = some (.slice none 0 0) := by simp [go_sem]
  have fz : ∀ j, ((w.alloc (Obj.cells #[Value.int IntKind.i64 pw, Value.int IntKind.i64 ph, .slice (some ⟨g, o, none⟩) n c] 24)).alloc (Obj.cells #[Value.int IntKind.i64 0, Value.int IntKind.i64 0, Value.slice none 0 0] 24)).frozen? ⟨w.heap.size + 1, j, none⟩ = false := fun j => by simp [go_sem]
  have hsz : ((w.alloc (Obj.cells #[Value.int IntKind.i64 pw, Value.int IntKind.i64 ph, .slice (some ⟨g, o, none⟩) n c] 24)).alloc (Obj.cells #[Value.int IntKind.i64 0, Value.int IntKind.i64 0, Value.slice none 0 0] 24)).heap.size = w.heap.size + 2 := by simp
  generalize ((w.alloc (Obj.cells #[Value.int IntKind.i64 pw, Value.int IntKind.i64 ph, .slice (some ⟨g, o, none⟩) n c] 24)).alloc (Obj.cells #[Value.int IntKind.i64 0, Value.int IntKind.i64 0, Value.slice none 0 0] 24)) = wz at *
  have n0 := qw_some wz
  have f0 := qw_cell c0
  have f1 := qw_cell c1
  have f2 := qw_cell c2
  refine wp_region_mk [0, 1, 2, 3, 4, 5] [[6, 7, 8]] 3 _ (by kernel_rfl) (by kernel_rfl) rfl (by kernel_rfl) ?_
  simp only [List.filterMap_cons, List.filterMap_nil, List.getElem?_cons_zero, List.getElem?_cons_succ]
  repeat (first | go_big_quiet_step (fail) | quiet_step (fail))
  refine wpQuiet_nil ?_
  intro x hx
  obtain ⟨iu, i1, i2, i3, i4⟩ := uInfoq
  obtain ⟨cap, w7, hr7, hq7, hc1, hc2, hz7, hn7, -, hf7⟩ := run_app_room (P := Try.prog) x 22 22 31 iu _ Try.underlying22 i1 i4 (by rw [i2]; rfl) (.slice none 0 0) (Or.inl rfl) ⟨g, o, none⟩ n c (S.map fun (s : Nat) => Value.int .u32 (s : Int)) (by rw [List.length_map, HN.out, i2]; omega) (fun j u hu => by
    rw [List.getElem?_map] at hu
    cases hj : S[j]? with
    | none => rw [hj] at hu; cases hu
    | some s =>
      rw [hj] at hu
      have hu := Option.some.inj hu
      have hjl : j < S.length := (List.getElem?_eq_some_iff.1 hj).1
      have := HI.out x (HQ.out.trans hx) j hjl
      rw [List.getD_eq_getElem?_getD, hj] at this
      rw [← hu, show (⟨g, o, none⟩ : Addr).add j = ⟨g, o + j, none⟩ by unfold Addr.add; split <;> simp_all]
      exact this) (by omega) (by omega) (by rw [i3]; omega)
  have hc7 : ∀ i, i < S.length → w7.cell? ⟨x.heap.size, i, none⟩ = some (.int .u32 ((S.getD i 0 : Nat) : Int)) := fun i hi => by
    refine hn7 i _ ?_
    rw [List.getElem?_map, List.getElem?_eq_getElem hi, List.getD_eq_getElem?_getD, List.getElem?_eq_getElem hi]
    rfl
  have hq2 : Q wz w7 := hx.trans hq7
  refine tree_run 6 rfl rfl (v := .slice (some ⟨x.heap.size, 0, none⟩) n cap) (x' := w7) (run_appopq rfl (v := .slice none 0 0) (v' := .slice (some ⟨g, o, none⟩) n c) (by simp [Act.eval, Act.put]) (by simp [Act.eval, Act.put]) hr7) hq2 ?_
  refine tree_run 7 rfl rfl (v := .agg #[.int .i64 pw, .int .i64 ph, .slice (some ⟨x.heap.size, 0, none⟩) n cap]) (x' := w7) (by simp [execOp, go_sem]) hq2 ?_
  have d02 := hq2.cell d0
  have d12 := hq2.cell d1
  have d22 := hq2.cell d2
  have fz2 : ∀ j, w7.frozen? ⟨w.heap.size + 1, j, none⟩ = false := fun j => (hq2.2 _).trans (fz j)
  refine tree_skipF 8 rfl rfl rfl (x' := (((w7.setCell ⟨w.heap.size + 1, 0, none⟩ (.int .i64 pw)).setCell ⟨w.heap.size + 1, 1, none⟩ (.int .i64 ph)).setCell ⟨w.heap.size + 1, 2, none⟩ (.slice (some ⟨x.heap.size, 0, none⟩) n cap))) (by simp [execOp, go_sem, d02, d12, d22, fz2]) ?_
  refine tree_nil ?_
  have HO : Hid (Own w (((w7.setCell ⟨w.heap.size + 1, 0, none⟩ (.int .i64 pw)).setCell ⟨w.heap.size + 1, 1, none⟩ (.int .i64 ph)).setCell ⟨w.heap.size + 1, 2, none⟩ (.slice (some ⟨x.heap.size, 0, none⟩) n cap)) x.heap.size S) := by
    have hlt : w.heap.size + 1 < x.heap.size := by have := hx.1.size; omega
    have hne : ∀ j, (⟨x.heap.size, j, none⟩ : Addr) ≠ ⟨w.heap.size + 1, 0, none⟩ := fun j e => by injection e with e; omega
    refine ⟨(((HQ.out.trans hq2).set (Nat.le_succ _) _).set (Nat.le_succ _) _).set (Nat.le_succ _) _, by omega, fun i hi => ?_, fun j => ?_⟩
    · rw [World.cell?_setCell_other _ _ _ _ (fun e => by injection e with e; omega), World.cell?_setCell_other _ _ _ _ (fun e => by injection e with e; omega), World.cell?_setCell_other _ _ _ _ (fun e => by injection e with e; omega), Nat.zero_add]
      exact hc7 i hi
    · rw [World.frozen?_setCell, World.frozen?_setCell, World.frozen?_setCell]
      exact hf7 j
  have k0 : (((w7.setCell ⟨w.heap.size + 1, 0, none⟩ (.int .i64 pw)).setCell ⟨w.heap.size + 1, 1, none⟩ (.int .i64 ph)).setCell ⟨w.heap.size + 1, 2, none⟩ (.slice (some ⟨x.heap.size, 0, none⟩) n cap)).cell? ⟨w.heap.size + 1, 0, none⟩ = some (.int .i64 pw) := by simp [go_sem, d02, d12, d22]
  have k1 : (((w7.setCell ⟨w.heap.size + 1, 0, none⟩ (.int .i64 pw)).setCell ⟨w.heap.size + 1, 1, none⟩ (.int .i64 ph)).setCell ⟨w.heap.size + 1, 2, none⟩ (.slice (some ⟨x.heap.size, 0, none⟩) n cap)).cell? ⟨w.heap.size + 1, 1, none⟩ = some (.int .i64 ph) := by simp [go_sem, d02, d12, d22]
  have k2 : (((w7.setCell ⟨w.heap.size + 1, 0, none⟩ (.int .i64 pw)).setCell ⟨w.heap.size + 1, 1, none⟩ (.int .i64 ph)).setCell ⟨w.heap.size + 1, 2, none⟩ (.slice (some ⟨x.heap.size, 0, none⟩) n cap)).cell? ⟨w.heap.size + 1, 2, none⟩ = some (.slice (some ⟨x.heap.size, 0, none⟩) n cap) := by simp [go_sem, d02, d12, d22]
  generalize (((w7.setCell ⟨w.heap.size + 1, 0, none⟩ (.int .i64 pw)).setCell ⟨w.heap.size + 1, 1, none⟩ (.int .i64 ph)).setCell ⟨w.heap.size + 1, 2, none⟩ (.slice (some ⟨x.heap.size, 0, none⟩) n cap)) = w5 at *
  clear d02 d12 d22 fz2 hq2 hx c0 c1 c2 d0 d1 d2 fz hr7 hq7
  go_wp2_with fail
  have hb5 : x.heap.size < w5.heap.size := World.block_lt_of_cell? _ _ (HO.out.cells 0 (by rw [HN.out]; omega))
  exact bodyPost_ret (v := .agg #[.int .i64 pw, .int .i64 ph, .slice (some ⟨x.heap.size, 0, none⟩) n cap]) (by simp [results, Try.results11, go_sem, k0, k1, k2]) rfl ⟨_, rfl, x.heap.size, cap, rfl, hc1, hb5, HO.out⟩
theorem run_app_none (x : World) (ad : Option Addr) (c : Nat) : ∃ w7, (Builtin.append_ #[22, 22] 22 #[.slice none 0 0, .slice ad 0 c]).run Try.prog x = .ok (.slice none 0 0) w7 ∧ Q x w7 := by
  refine ⟨x, ?_, Q.refl x⟩
  cases ad <;> simp [Builtin.append_, go_sem]
set_option maxHeartbeats 2000000 in
set_option maxRecDepth 100000 in
theorem hcopy_none (w : World) (pw ph : Int) (ad : Option Addr) (c : Nat) :
    Calls Try.prog 11 #[.agg #[.int .i64 pw, .int .i64 ph, .slice ad 0 c]] w fun e w' => ∃ v, e = .returned v ∧ v = .agg #[.int .i64 pw, .int .i64 ph, .slice none 0 0] ∧ Q w w' := by
  go_enter Try.func11, Try.ntmps11
  go_wp2_with fail
  have HQ : Hid (Q w ((w.alloc (Obj.cells #[Value.int IntKind.i64 pw, Value.int IntKind.i64 ph, .slice ad 0 c] 24)).alloc (Obj.cells #[Value.int IntKind.i64 0, Value.int IntKind.i64 0, Value.slice none 0 0] 24))) := ((Q.refl w).cells _ _).cells _ _
  have c0 : ((w.alloc (Obj.cells #[Value.int IntKind.i64 pw, Value.int IntKind.i64 ph, .slice ad 0 c] 24)).alloc (Obj.cells #[Value.int IntKind.i64 0, Value.int IntKind.i64 0, Value.slice none 0 0] 24)).cell? ⟨w.heap.size, 0, none⟩ = some (.int .i64 pw) := by simp [go_sem]
  have c1 : ((w.alloc (Obj.cells #[Value.int IntKind.i64 pw, Value.int IntKind.i64 ph, .slice ad 0 c] 24)).alloc (Obj.cells #[Value.int IntKind.i64 0, Value.int IntKind.i64 0, Value.slice none 0 0] 24)).cell? ⟨w.heap.size, 1, none⟩ = some (.int .i64 ph) := by simp [go_sem]
  have c2 : ((w.alloc (Obj.cells #[Value.int IntKind.i64 pw, Value.int IntKind.i64 ph, .slice ad 0 c] 24)).alloc (Obj.cells #[Value.int IntKind.i64 0, Value.int IntKind.i64 0, Value.slice none 0 0] 24)).cell? ⟨w.heap.size, 2, none⟩ = some (.slice ad 0 c) := by simp [go_sem]
  have d0 : ((w.alloc (Obj.cells #[Value.int IntKind.i64 pw, Value.int IntKind.i64 ph, .slice ad 0 c] 24)).alloc (Obj.cells #[Value.int IntKind.i64 0, Value.int IntKind.i64 0, Value.slice none 0 0] 24)).cell? ⟨w.heap.size + 1, 0, none⟩ = some (.int .i64 0) := by simp [go_sem]
  have d1 : ((w.alloc (Obj.cells #[Value.int IntKind.i64 pw, Value.int IntKind.i64 ph, .slice ad 0 c] 24)).alloc (Obj.cells #[Value.int IntKind.i64 0, Value.int IntKind.i64 0, Value.slice none 0 0] 24)).cell? ⟨w.heap.size + 1, 1, none⟩ = some (.int .i64 0) := by simp [go_sem]
  have d2 : ((w.alloc (Obj.cells #[Value.int IntKind.i64 pw, Value.int IntKind.i64 ph, .slice ad 0 c] 24)).alloc (Obj.cells #[Value.int IntKind.i64 0, Value.int IntKind.i64 0, Value.slice none 0 0] 24)).cell? ⟨w.heap.size + 1, 2, none⟩ = some (.slice none 0 0) := by simp [go_sem]
  have fz : ∀ j, ((w.alloc (Obj.cells #[Value.int IntKind.i64 pw, Value.int IntKind.i64 ph, .slice ad 0 c] 24)).alloc (Obj.cells #[Value.int IntKind.i64 0, Value.int IntKind.i64 0, Value.slice none 0 0] 24)).frozen? ⟨w.heap.size + 1, j, none⟩ = false := fun j => by simp [go_sem]
  have hsz : ((w.alloc (Obj.cells #[Value.int IntKind.i64 pw, Value.int IntKind.i64 ph, .slice ad 0 c] 24)).alloc (Obj.cells #[Value.int IntKind.i64 0, Value.int IntKind.i64 0, Value.slice none 0 0] 24)).heap.size = w.heap.size + 2 := by simp
  generalize ((w.alloc (Obj.cells #[Value.int IntKind.i64 pw, Value.int IntKind.i64 ph, .slice ad 0 c] 24)).alloc (Obj.cells #[Value.int IntKind.i64 0, Value.int IntKind.i64 0, Value.slice none 0 0] 24)) = wz at *
  have n0 := qw_some wz
  have f0 := qw_cell c0
  have f1 := qw_cell c1
  have f2 := qw_cell c2
  refine wp_region_mk [0, 1, 2, 3, 4, 5] [[6, 7, 8]] 3 _ (by kernel_rfl) (by kernel_rfl) rfl (by kernel_rfl) ?_
  simp only [List.filterMap_cons, List.filterMap_nil, List.getElem?_cons_zero, List.getElem?_cons_succ]
  repeat (first | go_big_quiet_step (fail) | quiet_step (fail))
  refine wpQuiet_nil ?_
  intro x hx
  obtain ⟨iu, i1, i2, i3, i4⟩ := uInfoq
  obtain ⟨w7, hr7, hq7⟩ : ∃ w7, (Builtin.append_ #[22, 22] 22 #[.slice none 0 0, .slice ad 0 c]).run Try.prog x = .ok (.slice none 0 0) w7 ∧ Q x w7 := run_app_none x ad c
  have hq2 : Q wz w7 := hx.trans hq7
  refine tree_run 6 rfl rfl (v := .slice none 0 0) (x' := w7) (run_appopq rfl (v := .slice none 0 0) (v' := .slice ad 0 c) (by simp [Act.eval, Act.put]) (by simp [Act.eval, Act.put]) hr7) hq2 ?_
  refine tree_run 7 rfl rfl (v := .agg #[.int .i64 pw, .int .i64 ph, .slice none 0 0]) (x' := w7) (by simp [execOp, go_sem]) hq2 ?_
  have d02 := hq2.cell d0
  have d12 := hq2.cell d1
  have d22 := hq2.cell d2
  have fz2 : ∀ j, w7.frozen? ⟨w.heap.size + 1, j, none⟩ = false := fun j => (hq2.2 _).trans (fz j)
  refine tree_skipF 8 rfl rfl rfl (x' := (((w7.setCell ⟨w.heap.size + 1, 0, none⟩ (.int .i64 pw)).setCell ⟨w.heap.size + 1, 1, none⟩ (.int .i64 ph)).setCell ⟨w.heap.size + 1, 2, none⟩ (.slice none 0 0))) (by simp [execOp, go_sem, d02, d12, d22, fz2]) ?_
  refine tree_nil ?_
  have HO : Hid (Q w (((w7.setCell ⟨w.heap.size + 1, 0, none⟩ (.int .i64 pw)).setCell ⟨w.heap.size + 1, 1, none⟩ (.int .i64 ph)).setCell ⟨w.heap.size + 1, 2, none⟩ (.slice none 0 0))) := by
    exact (((HQ.out.trans hq2).set (Nat.le_succ _) _).set (Nat.le_succ _) _).set (Nat.le_succ _) _
  have k0 : (((w7.setCell ⟨w.heap.size + 1, 0, none⟩ (.int .i64 pw)).setCell ⟨w.heap.size + 1, 1, none⟩ (.int .i64 ph)).setCell ⟨w.heap.size + 1, 2, none⟩ (.slice none 0 0)).cell? ⟨w.heap.size + 1, 0, none⟩ = some (.int .i64 pw) := by simp [go_sem, d02, d12, d22]
  have k1 : (((w7.setCell ⟨w.heap.size + 1, 0, none⟩ (.int .i64 pw)).setCell ⟨w.heap.size + 1, 1, none⟩ (.int .i64 ph)).setCell ⟨w.heap.size + 1, 2, none⟩ (.slice none 0 0)).cell? ⟨w.heap.size + 1, 1, none⟩ = some (.int .i64 ph) := by simp [go_sem, d02, d12, d22]
  have k2 : (((w7.setCell ⟨w.heap.size + 1, 0, none⟩ (.int .i64 pw)).setCell ⟨w.heap.size + 1, 1, none⟩ (.int .i64 ph)).setCell ⟨w.heap.size + 1, 2, none⟩ (.slice none 0 0)).cell? ⟨w.heap.size + 1, 2, none⟩ = some (.slice none 0 0) := by simp [go_sem, d02, d12, d22]
  generalize (((w7.setCell ⟨w.heap.size + 1, 0, none⟩ (.int .i64 pw)).setCell ⟨w.heap.size + 1, 1, none⟩ (.int .i64 ph)).setCell ⟨w.heap.size + 1, 2, none⟩ (.slice none 0 0)) = w5 at *
  clear d02 d12 d22 fz2 hq2 hx c0 c1 c2 d0 d1 d2 fz hr7 hq7
  go_wp2_with fail
  exact bodyPost_ret (v := .agg #[.int .i64 pw, .int .i64 ph, .slice none 0 0]) (by simp [results, Try.results11, go_sem, k0, k1, k2]) rfl ⟨_, rfl, rfl, HO.out⟩
end Go.Proofs.Ytcolhgngiflkhaa

/- Appending to a list without room: what lies where. -/
import Derived.Test.YtpobgkcobgecoabGfbefd20e
import Derived.Laws.Append
import Derived.Laws.AppendOwn
import Derived.OwnWalk
import Derived.Test.YtpobgkcobgecoabG450d8149
import Derived.Test.YtpobgkcobgecoabGd6be4843
import Derived.Test.YtpobgkcobgecoabG8dab8c96
namespace Go.Proofs.Ytpobgkcobgecoab
open Go.RowKit

theorem run_app_new {P : Program} (w : World) (t ty e : TypeId) (i : TypeInfo) (z : Value) (ht : P.underlying t = some (.slice e)) (hi : P.info? e = some i) (hz : i.zero = some z)
    (v : Value) (hv : v = .slice none 0 0 ∨ ∃ b, v = .slice (some b) 0 0) (ad : Addr) (m c : Nat) (news : List Value) (hl : news.length = m * i.size) (hnews : ∀ j u, news[j]? = some u → w.cell? (ad.add j) = some u)
    (h0 : 0 < m) (h63 : m ≤ 1125899906842624) (hby : m * i.bytes ≤ 140737488355328) :
    ∃ cap w', (Builtin.append_ #[t, t] ty #[v, .slice (some ad) m c]).run P w = .ok (.slice (some ⟨w.heap.size, 0, none⟩) m cap) w' ∧ Q w w' ∧ m ≤ cap ∧ w'.heap.size = w.heap.size + 1 ∧
      (∀ j u, news[j]? = some u → w'.cell? ⟨w.heap.size, j, none⟩ = some u) ∧ ∀ j, w'.frozen? ⟨w.heap.size, j, none⟩ = false := by
  have fin : ∀ (cs : Array Value), (∀ (j : Nat) (u : Value), news[j]? = some u → cs[j]? = some u) → Q w (w.drew.alloc (.cells cs e)) ∧ (w.drew.alloc (.cells cs e)).heap.size = w.heap.size + 1 ∧
      (∀ (j : Nat) (u : Value), news[j]? = some u → (w.drew.alloc (.cells cs e)).cell? ⟨w.heap.size, j, none⟩ = some u) ∧ ∀ j, (w.drew.alloc (.cells cs e)).frozen? ⟨w.heap.size, j, none⟩ = false := by
    intro cs hcs
    have hb : (w.drew.alloc (.cells cs e)).heap[w.heap.size]? = some (.cells cs e (0, 0)) := heap_alloc_new w.drew _
    refine ⟨(Q.refl w).drew.cells _ _, by simp, fun j u hu => ?_, fun j => frozen_of_row _ _ _ _ _ hb⟩
    rw [cell_of_row _ _ j cs e (0, 0) hb]
    exact hcs j u hu
  have key : ∀ (n : Nat) (j : Nat) (u : Value), news[j]? = some u → (news.toArray ++ Builtin.zeroCells z.cells n)[j]? = some u := by
    intro n j u hu
    have hj : j < news.length := (List.getElem?_eq_some_iff.1 hu).1
    rw [Array.getElem?_append_left (by simpa using hj)]
    simpa using hu
  rcases hv with rfl | ⟨b, rfl⟩
  · have hr := run_append_nil (P := P) w t ty e i z ht hi hz ad m c news hl hnews h0 (by omega) (by omega)
    obtain ⟨q1, q2, q3, q4⟩ := fin _ (key (grownCap w m 0 e - m))
    exact ⟨_, _, hr, q1, grownCap_ge w m 0 e, q2, q3, q4⟩
  · have hr := run_append_grow (P := P) w t ty e i z ht hi hz b 0 0 [] (by simp) (fun j v h => by simp at h) ad m c news hl hnews (by omega) (by omega) (growslice_fits (by omega) (by rw [Nat.zero_add]; exact hby))
    simp only [Nat.zero_add, Array.empty_append] at hr
    obtain ⟨q1, q2, q3, q4⟩ := fin _ (key (grownCap w m 0 e - m))
    exact ⟨_, _, hr, q1, grownCap_ge w m 0 e, q2, q3, q4⟩

/-- In a list of operations. -/
theorem wpList_app {P : Program} (w : World) {ops : Array Oper} {rest : List Oper} {o : Oper} {a : Act} {R : Exit → Act → World → Prop} (hgd : o.guard = none) (s x : Operand) (t : TypeId)
    (ho : o.op = .call { callee := .builtin .append, args := #[s, x], argTypes := #[t, t] })
    (e : TypeId) (i : TypeInfo) (z : Value) (ht : P.underlying t = some (.slice e)) (hi : P.info? e = some i) (hz : i.zero = some z)
    (v : Value) (hv : v = .slice none 0 0 ∨ ∃ b, v = .slice (some b) 0 0) (hs : a.eval s = v) (ad : Addr) (m c : Nat) (news : List Value) (hx : a.eval x = .slice (some ad) m c) (hl : news.length = m * i.size) (hnews : ∀ j u, news[j]? = some u → w.cell? (ad.add j) = some u)
    (h0 : 0 < m) (h63 : m ≤ 1125899906842624) (hby : m * i.bytes ≤ 140737488355328)
    (h : ∀ cap w', Q w w' → m ≤ cap → w'.heap.size = w.heap.size + 1 → (∀ j u, news[j]? = some u → w'.cell? ⟨w.heap.size, j, none⟩ = some u) → (∀ j, w'.frozen? ⟨w.heap.size, j, none⟩ = false) → wpList P ops R rest (a.put o.dst (.slice (some ⟨w.heap.size, 0, none⟩) m cap)) w') :
    wpList P ops R (o :: rest) a w := by
  obtain ⟨cap, w', hr, h1, h2, h3, h4, h5⟩ := run_app_new (P := P) w t o.type e i z ht hi hz v hv ad m c news hl hnews h0 h63 hby
  refine wpList_plain hgd fun _ hK => ?_
  unfold Oper.wp execOp
  simp only [ho, resolve, invoke, builtin, Sem.run_bind, Sem.run_pure, Result.andThen_ok, List.map_toArray, List.map_cons, List.map_nil, hs, hx, hr]
  exact hK _ _ (h cap w' h1 h2 h3 h4 h5)
end Go.Proofs.Ytpobgkcobgecoab
/- Appending to a list without room: what lies where, and that all the new room is there. -/
namespace Go.Proofs.Ytpobgkcobgecoab
open Go.RowKit

theorem run_app_room {P : Program} (w : World) (t ty e : TypeId) (i : TypeInfo) (z : Value) (ht : P.underlying t = some (.slice e)) (hi : P.info? e = some i) (hz : i.zero = some z) (hzs : z.cells.size = i.size)
    (v : Value) (hv : v = .slice none 0 0 ∨ ∃ b, v = .slice (some b) 0 0) (ad : Addr) (m c : Nat) (news : List Value) (hl : news.length = m * i.size) (hnews : ∀ j u, news[j]? = some u → w.cell? (ad.add j) = some u)
    (h0 : 0 < m) (h63 : m ≤ 1125899906842624) (hby : m * i.bytes ≤ 140737488355328) :
    ∃ cap w', (Builtin.append_ #[t, t] ty #[v, .slice (some ad) m c]).run P w = .ok (.slice (some ⟨w.heap.size, 0, none⟩) m cap) w' ∧ Q w w' ∧ m ≤ cap ∧ cap ≤ maxLen ∧ w'.heap.size = w.heap.size + 1 ∧
      (∀ j u, news[j]? = some u → w'.cell? ⟨w.heap.size, j, none⟩ = some u) ∧ (∀ j, j < cap * i.size → ∃ u, w'.cell? ⟨w.heap.size, j, none⟩ = some u) ∧ ∀ j, w'.frozen? ⟨w.heap.size, j, none⟩ = false := by
  have hmm : m ≤ maxLen := by unfold maxLen; omega
  have fin : ∀ (n : Nat) (cs : Array Value), (∀ (j : Nat) (u : Value), news[j]? = some u → cs[j]? = some u) → cs.size = n * i.size → Q w (w.drew.alloc (.cells cs e)) ∧ (w.drew.alloc (.cells cs e)).heap.size = w.heap.size + 1 ∧
      (∀ (j : Nat) (u : Value), news[j]? = some u → (w.drew.alloc (.cells cs e)).cell? ⟨w.heap.size, j, none⟩ = some u) ∧ (∀ j, j < n * i.size → ∃ u, (w.drew.alloc (.cells cs e)).cell? ⟨w.heap.size, j, none⟩ = some u) ∧ ∀ j, (w.drew.alloc (.cells cs e)).frozen? ⟨w.heap.size, j, none⟩ = false := by
    intro n cs hcs hs
    have hb : (w.drew.alloc (.cells cs e)).heap[w.heap.size]? = some (.cells cs e (0, 0)) := heap_alloc_new w.drew _
    refine ⟨(Q.refl w).drew.cells _ _, by simp, fun j u hu => ?_, fun j hj => ?_, fun j => frozen_of_row _ _ _ _ _ hb⟩
    · rw [cell_of_row _ _ j cs e (0, 0) hb]
      exact hcs j u hu
    · rw [cell_of_row _ _ j cs e (0, 0) hb]
      exact ⟨_, Array.getElem?_eq_getElem (by omega)⟩
  have key : ∀ (n : Nat) (j : Nat) (u : Value), news[j]? = some u → (news.toArray ++ Builtin.zeroCells z.cells n)[j]? = some u := by
    intro n j u hu
    have hj : j < news.length := (List.getElem?_eq_some_iff.1 hu).1
    rw [Array.getElem?_append_left (by simpa using hj)]
    simpa using hu
  have size : (news.toArray ++ Builtin.zeroCells z.cells (grownCap w m 0 e - m)).size = grownCap w m 0 e * i.size := by
    have := grownCap_ge w m 0 e
    rw [Array.size_append, size_zeroCells, hzs, List.size_toArray, hl, ← Nat.add_mul]
    congr 1; omega
  rcases hv with rfl | ⟨b, rfl⟩
  · have hr := run_append_nil (P := P) w t ty e i z ht hi hz ad m c news hl hnews h0 (by omega) (by omega)
    obtain ⟨q1, q2, q3, q4, q5⟩ := fin _ _ (key (grownCap w m 0 e - m)) size
    exact ⟨_, _, hr, q1, grownCap_ge w m 0 e, grownCap_le_maxLen w m 0 e hmm, q2, q3, q4, q5⟩
  · have hr := run_append_grow (P := P) w t ty e i z ht hi hz b 0 0 [] (by simp) (fun j v h => by simp at h) ad m c news hl hnews (by omega) (by omega) (growslice_fits (by omega) (by rw [Nat.zero_add]; exact hby))
    simp only [Nat.zero_add, Array.empty_append] at hr
    obtain ⟨q1, q2, q3, q4, q5⟩ := fin _ _ (key (grownCap w m 0 e - m)) size
    exact ⟨_, _, hr, q1, grownCap_ge w m 0 e, grownCap_le_maxLen w m 0 e hmm, q2, q3, q4, q5⟩
/-- In a list of operations. -/
theorem wpList_room {P : Program} (w : World) {ops : Array Oper} {rest : List Oper} {o : Oper} {a : Act} {R : Exit → Act → World → Prop} (hgd : o.guard = none) (s x : Operand) (t : TypeId)
    (ho : o.op = .call { callee := .builtin .append, args := #[s, x], argTypes := #[t, t] })
    (e : TypeId) (i : TypeInfo) (z : Value) (ht : P.underlying t = some (.slice e)) (hi : P.info? e = some i) (hz : i.zero = some z) (hzs : z.cells.size = i.size)
    (v : Value) (hv : v = .slice none 0 0 ∨ ∃ b, v = .slice (some b) 0 0) (hs : a.eval s = v) (ad : Addr) (m c : Nat) (news : List Value) (hx : a.eval x = .slice (some ad) m c) (hl : news.length = m * i.size) (hnews : ∀ j u, news[j]? = some u → w.cell? (ad.add j) = some u)
    (h0 : 0 < m) (h63 : m ≤ 1125899906842624) (hby : m * i.bytes ≤ 140737488355328)
    (h : ∀ cap w', Q w w' → m ≤ cap → cap ≤ maxLen → w'.heap.size = w.heap.size + 1 → (∀ j u, news[j]? = some u → w'.cell? ⟨w.heap.size, j, none⟩ = some u) → (∀ j, j < cap * i.size → ∃ u, w'.cell? ⟨w.heap.size, j, none⟩ = some u) → (∀ j, w'.frozen? ⟨w.heap.size, j, none⟩ = false) → wpList P ops R rest (a.put o.dst (.slice (some ⟨w.heap.size, 0, none⟩) m cap)) w') :
    wpList P ops R (o :: rest) a w := by
  obtain ⟨cap, w', hr, h1, h2, h3, h4, h5, h6, h7⟩ := run_app_room (P := P) w t o.type e i z ht hi hz hzs v hv ad m c news hl hnews h0 h63 hby
  refine wpList_plain hgd fun _ hK => ?_
  unfold Oper.wp execOp
  simp only [ho, resolve, invoke, builtin, Sem.run_bind, Sem.run_pure, Result.andThen_ok, List.map_toArray, List.map_cons, List.map_nil, hs, hx, hr]
  exact hK _ _ (h cap w' h1 h2 h3 h4 h5 h6 h7)
end Go.Proofs.Ytpobgkcobgecoab
/- Copies of planes. -/
namespace Go.Proofs.Ytpobgkcobgecoab
open Go.RowKit
set_option linter.unusedVariables false
set_option linter.unusedSimpArgs false

theorem uInfoq : ∃ i, Try.prog.info? 25 = some i ∧ i.size = 1 ∧ i.bytes = 4 ∧ i.zero = some (.int .u32 0) := info_of (by kernel_rfl) (by kernel_rfl)
theorem run_appopq {P : Program} {A : Act} {o : Oper} {x x' : World} {s u : Operand} {t : TypeId} (ho : o.op = .call { callee := .builtin .append, args := #[s, u], argTypes := #[t, t] }) {v v' r : Value} (hs : A.eval s = v) (hu : A.eval u = v') (hr : (Builtin.append_ #[t, t] o.type #[v, v']).run P x = .ok r x') : (execOp A.eval o).run P x = .ok (.value r) x' := by
  unfold execOp
  simp only [ho, resolve, invoke, builtin, Sem.run_bind, Sem.run_pure, Result.andThen_ok, List.map_toArray, List.map_cons, List.map_nil, hs, hu, hr]
set_option maxHeartbeats 2000000 in
set_option maxRecDepth 100000 in
theorem hcopy_some (w : World) (pw ph : Int) (g o n c : Nat) (S : List Nat) (hS : S.length = n) (hI : UIs w g o S) (h1 : 1 ≤ n) (h2 : n ≤ 1000000) :
    Calls Try.prog 29 #[.agg #[.int .i64 pw, .int .i64 ph, .slice (some ⟨g, o, none⟩) n c]] w fun e w' => ∃ v, e = .returned v ∧ ∃ b cap, v = .agg #[.int .i64 pw, .int .i64 ph, .slice (some ⟨b, 0, none⟩) n cap] ∧ n ≤ cap ∧ b < w'.heap.size ∧ Own w w' b S := by
  have HI : Hid (∀ x : World, Q w x → UIs x g o S) := fun x q => hI.next q
  have HN : Hid (S.length = n) := hS
  clear hI hS
  go_enter Try.func29, Try.ntmps29
  go_wp2_with fail
  have HQ : Hid (Q w ((w.alloc (Obj.cells #[Value.int IntKind.i64 pw, Value.int IntKind.i64 ph, .slice (some ⟨g, o, none⟩) n c] 24)).alloc (Obj.cells #[Value.int IntKind.i64 0, Value.int IntKind.i64 0, Value.slice none 0 0] 24))) := ((Q.refl w).cells _ _).cells _ _
  have c0 : ((w.alloc (Obj.cells #[Value.int IntKind.i64 pw, Value.int IntKind.i64 ph, .slice (some ⟨g, o, none⟩) n c] 24)).alloc (Obj.cells #[Value.int IntKind.i64 0, Value.int IntKind.i64 0, Value.slice none 0 0] 24)).cell? ⟨w.heap.size, 0, none⟩ = some (.int .i64 pw) := by simp [go_sem]
  have c1 : ((w.alloc (Obj.cells #[Value.int IntKind.i64 pw, Value.int IntKind.i64 ph, .slice (some ⟨g, o, none⟩) n c] 24)).alloc (Obj.cells #[Value.int IntKind.i64 0, Value.int IntKind.i64 0, Value.slice none 0 0] 24)).cell? ⟨w.heap.size, 1, none⟩ = some (.int .i64 ph) := by simp [go_sem]
  have c2 : ((w.alloc (Obj.cells #[Value.int IntKind.i64 pw, Value.int IntKind.i64 ph, .slice (some ⟨g, o, none⟩) n c] 24)).alloc (Obj.cells #[Value.int IntKind.i64 0, Value.int IntKind.i64 0, Value.slice none 0 0] 24)).cell? ⟨w.heap.size, 2, none⟩ = some (.slice (some ⟨g, o, none⟩) n c) := by simp [go_sem]
  have d0 : ((w.alloc (Obj.cells #[Value.int IntKind.i64 pw, Value.int IntKind.i64 ph, .slice (some ⟨g, o, none⟩) n c] 24)).alloc (Obj.cells #[Value.int IntKind.i64 0, Value.int IntKind.i64 0, Value.slice none 0 0] 24)).cell? ⟨w.heap.size + 1, 0, none⟩ = some (.int .i64 0) := by simp [go_sem]
  have d1 : ((w.alloc (Obj.cells #[Value.int IntKind.i64 pw, Value.int IntKind.i64 ph, .slice (some ⟨g, o, none⟩) n c] 24)).alloc (Obj.cells #[Value.int IntKind.i64 0, Value.int IntKind.i64 0, Value.slice none 0 0] 24)).cell? ⟨w.heap.size + 1, 1, none⟩ = some (.int .i64 0) := by simp [go_sem]
  have d2 : ((w.alloc (Obj.cells #[Value.int IntKind.i64 pw, Value.int IntKind.i64 ph, .slice (some ⟨g, o, none⟩) n c] 24)).alloc (Obj.cells #[Value.int IntKind.i64 0, Value.int IntKind.i64 0, Value.slice none 0 0] 24)).cell? ⟨w.heap.size + 1, 2, none⟩ = some (.slice none 0 0) := by simp [go_sem]
  have fz : ∀ j, ((w.alloc (Obj.cells #[Value.int IntKind.i64 pw, Value.int IntKind.i64 ph, .slice (some ⟨g, o, none⟩) n c] 24)).alloc (Obj.cells #[Value.int IntKind.i64 0, Value.int IntKind.i64 0, Value.slice none 0 0] 24)).frozen? ⟨w.heap.size + 1, j, none⟩ = false := fun j => by simp [go_sem]
  have hsz : ((w.alloc (Obj.cells #[Value.int IntKind.i64 pw, Value.int IntKind.i64 ph, .slice (some ⟨g, o, none⟩) n c] 24)).alloc (Obj.cells #[Value.int IntKind.i64 0, Value.int IntKind.i64 0, Value.slice none 0 0] 24)).heap.size = w.heap.size + 2 := by simp
  generalize ((w.alloc (Obj.cells #[Value.int IntKind.i64 pw, Value.int IntKind.i64 ph, .slice (some ⟨g, o, none⟩) n c] 24)).alloc (Obj.cells #[Value.int IntKind.i64 0, Value.int IntKind.i64 0, Value.slice none 0 0] 24)) = wz at *
  have n0 := qw_some wz
  have f0 := qw_cell c0
  have f1 := qw_cell c1
  have f2 := qw_cell c2
  refine wp_region_mk [0, 1, 2, 3, 4, 5] [[6, 7, 8]] 3 _ (by kernel_rfl) (by kernel_rfl) rfl (by kernel_rfl) ?_
  simp only [List.filterMap_cons, List.filterMap_nil, List.getElem?_cons_zero, List.getElem?_cons_succ]
  repeat (first | go_big_quiet_step (fail) | quiet_step (fail))
  refine wpQuiet_nil ?_
  intro x hx
  obtain ⟨iu, i1, i2, i3, i4⟩ := uInfoq
  obtain ⟨cap, w7, hr7, hq7, hc1, hc2, hz7, hn7, -, hf7⟩ := run_app_room (P := Try.prog) x 22 22 25 iu _ Try.underlying22 i1 i4 (by rw [i2]; rfl) (.slice none 0 0) (Or.inl rfl) ⟨g, o, none⟩ n c (S.map fun (s : Nat) => Value.int .u32 (s : Int)) (by rw [List.length_map, HN.out, i2]; omega) (fun j u hu => by
    rw [List.getElem?_map] at hu
    cases hj : S[j]? with
    | none => rw [hj] at hu; cases hu
    | some s =>
      rw [hj] at hu
      have hu := Option.some.inj hu
      have hjl : j < S.length := (List.getElem?_eq_some_iff.1 hj).1
      have := HI.out x (HQ.out.trans hx) j hjl
      rw [List.getD_eq_getElem?_getD, hj] at this
      rw [← hu, show (⟨g, o, none⟩ : Addr).add j = ⟨g, o + j, none⟩ by unfold Addr.add; split <;> simp_all]
      exact this) (by omega) (by omega) (by rw [i3]; omega)
  have hc7 : ∀ i, i < S.length → w7.cell? ⟨x.heap.size, i, none⟩ = some (.int .u32 ((S.getD i 0 : Nat) : Int)) := fun i hi => by
    refine hn7 i _ ?_
    rw [List.getElem?_map, List.getElem?_eq_getElem hi, List.getD_eq_getElem?_getD, List.getElem?_eq_getElem hi]
    rfl
  have hq2 : Q wz w7 := hx.trans hq7
  refine tree_run 6 rfl rfl (v := .slice (some ⟨x.heap.size, 0, none⟩) n cap) (x' := w7) (run_appopq rfl (v := .slice none 0 0) (v' := .slice (some ⟨g, o, none⟩) n c) (by simp [Act.eval, Act.put]) (by simp [Act.eval, Act.put]) hr7) hq2 ?_
  refine tree_run 7 rfl rfl (v := .agg #[.int .i64 pw, .int .i64 ph, .slice (some ⟨x.heap.size, 0, none⟩) n cap]) (x' := w7) (by simp [execOp, go_sem]) hq2 ?_
  have d02 := hq2.cell d0
  have d12 := hq2.cell d1
  have d22 := hq2.cell d2
  have fz2 : ∀ j, w7.frozen? ⟨w.heap.size + 1, j, none⟩ = false := fun j => (hq2.2 _).trans (fz j)
  refine tree_skipF 8 rfl rfl rfl (x' := (((w7.setCell ⟨w.heap.size + 1, 0, none⟩ (.int .i64 pw)).setCell ⟨w.heap.size + 1, 1, none⟩ (.int .i64 ph)).setCell ⟨w.heap.size + 1, 2, none⟩ (.slice (some ⟨x.heap.size, 0, none⟩) n cap))) (by simp [execOp, go_sem, d02, d12, d22, fz2]) ?_
  refine tree_nil ?_
  have HO : Hid (Own w (((w7.setCell ⟨w.heap.size + 1, 0, none⟩ (.int .i64 pw)).setCell ⟨w.heap.size + 1, 1, none⟩ (.int .i64 ph)).setCell ⟨w.heap.size + 1, 2, none⟩ (.slice (some ⟨x.heap.size, 0, none⟩) n cap)) x.heap.size S) := by
    have hlt : w.heap.size + 1 < x.heap.size := by have := hx.1.size; omega
    have hne : ∀ j, (⟨x.heap.size, j, none⟩ : Addr) ≠ ⟨w.heap.size + 1, 0, none⟩ := fun j e => by injection e with e; omega
    refine ⟨(((HQ.out.trans hq2).set (Nat.le_succ _) _).set (Nat.le_succ _) _).set (Nat.le_succ _) _, by omega, fun i hi => ?_, fun j => ?_⟩
    · rw [World.cell?_setCell_other _ _ _ _ (fun e => by injection e with e; omega), World.cell?_setCell_other _ _ _ _ (fun e => by injection e with e; omega), World.cell?_setCell_other _ _ _ _ (fun e => by injection e with e; omega), Nat.zero_add]
      exact hc7 i hi
    · rw [World.frozen?_setCell, World.frozen?_setCell, World.frozen?_setCell]
      exact hf7 j
  have k0 : (((w7.setCell ⟨w.heap.size + 1, 0, none⟩ (.int .i64 pw)).setCell ⟨w.heap.size + 1, 1, none⟩ (.int .i64 ph)).setCell ⟨w.heap.size + 1, 2, none⟩ (.slice (some ⟨x.heap.size, 0, none⟩) n cap)).cell? ⟨w.heap.size + 1, 0, none⟩ = some (.int .i64 pw) := by simp [go_sem, d02, d12, d22]
  have k1 : (((w7.setCell ⟨w.heap.size + 1, 0, none⟩ (.int .i64 pw)).setCell ⟨w.heap.size + 1, 1, none⟩ (.int .i64 ph)).setCell ⟨w.heap.size + 1, 2, none⟩ (.slice (some ⟨x.heap.size, 0, none⟩) n cap)).cell? ⟨w.heap.size + 1, 1, none⟩ = some (.int .i64 ph) := by simp [go_sem, d02, d12, d22]
  have k2 : (((w7.setCell ⟨w.heap.size + 1, 0, none⟩ (.int .i64 pw)).setCell ⟨w.heap.size + 1, 1, none⟩ (.int .i64 ph)).setCell ⟨w.heap.size + 1, 2, none⟩ (.slice (some ⟨x.heap.size, 0, none⟩) n cap)).cell? ⟨w.heap.size + 1, 2, none⟩ = some (.slice (some ⟨x.heap.size, 0, none⟩) n cap) := by simp [go_sem, d02, d12, d22]
  generalize (((w7.setCell ⟨w.heap.size + 1, 0, none⟩ (.int .i64 pw)).setCell ⟨w.heap.size + 1, 1, none⟩ (.int .i64 ph)).setCell ⟨w.heap.size + 1, 2, none⟩ (.slice (some ⟨x.heap.size, 0, none⟩) n cap)) = w5 at *
  clear d02 d12 d22 fz2 hq2 hx c0 c1 c2 d0 d1 d2 fz hr7 hq7
  go_wp2_with fail
  have hb5 : x.heap.size < w5.heap.size := World.block_lt_of_cell? _ _ (HO.out.cells 0 (by rw [HN.out]; omega))
  exact bodyPost_ret (v := .agg #[.int .i64 pw, .int .i64 ph, .slice (some ⟨x.heap.size, 0, none⟩) n cap]) (by simp [results, Try.results29, go_sem, k0, k1, k2]) rfl ⟨_, rfl, x.heap.size, cap, rfl, hc1, hb5, HO.out⟩
theorem run_app_none (x : World) (ad : Option Addr) (c : Nat) : ∃ w7, (Builtin.append_ #[22, 22] 22 #[.slice none 0 0, .slice ad 0 c]).run Try.prog x = .ok (.slice none 0 0) w7 ∧ Q x w7 := by
  refine ⟨x, ?_, Q.refl x⟩
  cases ad <;> simp [Builtin.append_, go_sem]
set_option maxHeartbeats 2000000 in
set_option maxRecDepth 100000 in
theorem hcopy_none (w : World) (pw ph : Int) (ad : Option Addr) (c : Nat) :
    Calls Try.prog 29 #[.agg #[.int .i64 pw, .int .i64 ph, .slice ad 0 c]] w fun e w' => ∃ v, e = .returned v ∧ v = .agg #[.int .i64 pw, .int .i64 ph, .slice none 0 0] ∧ Q w w' := by
  go_enter Try.func29, Try.ntmps29
  go_wp2_with fail
  have HQ : Hid (Q w ((w.alloc (Obj.cells #[Value.int IntKind.i64 pw, Value.int IntKind.i64 ph, .slice ad 0 c] 24)).alloc (Obj.cells #[Value.int IntKind.i64 0, Value.int IntKind.i64 0, Value.slice none 0 0] 24))) := ((Q.refl w).cells _ _).cells _ _
  have c0 : ((w.alloc (Obj.cells #[Value.int IntKind.i64 pw, Value.int IntKind.i64 ph, .slice ad 0 c] 24)).alloc (Obj.cells #[Value.int IntKind.i64 0, Value.int IntKind.i64 0, Value.slice none 0 0] 24)).cell? ⟨w.heap.size, 0, none⟩ = some (.int .i64 pw) := by simp [go_sem]
  have c1 : ((w.alloc (Obj.cells #[Value.int IntKind.i64 pw, Value.int IntKind.i64 ph, .slice ad 0 c] 24)).alloc (Obj.cells #[Value.int IntKind.i64 0, Value.int IntKind.i64 0, Value.slice none 0 0] 24)).cell? ⟨w.heap.size, 1, none⟩ = some (.int .i64 ph) := by simp [go_sem]
  have c2 : ((w.alloc (Obj.cells #[Value.int IntKind.i64 pw, Value.int IntKind.i64 ph, .slice ad 0 c] 24)).alloc (Obj.cells #[Value.int IntKind.i64 0, Value.int IntKind.i64 0, Value.slice none 0 0] 24)).cell? ⟨w.heap.size, 2, none⟩ = some (.slice ad 0 c) := by simp [go_sem]
  have d0 : ((w.alloc (Obj.cells #[Value.int IntKind.i64 pw, Value.int IntKind.i64 ph, .slice ad 0 c] 24)).alloc (Obj.cells #[Value.int IntKind.i64 0, Value.int IntKind.i64 0, Value.slice none 0 0] 24)).cell? ⟨w.heap.size + 1, 0, none⟩ = some (.int .i64 0) := by simp [go_sem]
  have d1 : ((w.alloc (Obj.cells #[Value.int IntKind.i64 pw, Value.int IntKind.i64 ph, .slice ad 0 c] 24)).alloc (Obj.cells #[Value.int IntKind.i64 0, Value.int IntKind.i64 0, Value.slice none 0 0] 24)).cell? ⟨w.heap.size + 1, 1, none⟩ = some (.int .i64 0) := by simp [go_sem]
  have d2 : ((w.alloc (Obj.cells #[Value.int IntKind.i64 pw, Value.int IntKind.i64 ph, .slice ad 0 c] 24)).alloc (Obj.cells #[Value.int IntKind.i64 0, Value.int IntKind.i64 0, Value.slice none 0 0] 24)).cell? ⟨w.heap.size + 1, 2, none⟩ = some (.slice none 0 0) := by simp [go_sem]
  have fz : ∀ j, ((w.alloc (Obj.cells #[Value.int IntKind.i64 pw, Value.int IntKind.i64 ph, .slice ad 0 c] 24)).alloc (Obj.cells #[Value.int IntKind.i64 0, Value.int IntKind.i64 0, Value.slice none 0 0] 24)).frozen? ⟨w.heap.size + 1, j, none⟩ = false := fun j => by simp [go_sem]
  have hsz : ((w.alloc (Obj.cells #[Value.int IntKind.i64 pw, Value.int IntKind.i64 ph, .slice ad 0 c] 24)).alloc (Obj.cells #[Value.int IntKind.i64 0, Value.int IntKind.i64 0, Value.slice none 0 0] 24)).heap.size = w.heap.size + 2 := by simp
  generalize ((w.alloc (Obj.cells #[Value.int IntKind.i64 pw, Value.int IntKind.i64 ph, .slice ad 0 c] 24)).alloc (Obj.cells #[Value.int IntKind.i64 0, Value.int IntKind.i64 0, Value.slice none 0 0] 24)) = wz at *
  have n0 := qw_some wz
  have f0 := qw_cell c0
  have f1 := qw_cell c1
  have f2 := qw_cell c2
  refine wp_region_mk [0, 1, 2, 3, 4, 5] [[6, 7, 8]] 3 _ (by kernel_rfl) (by kernel_rfl) rfl (by kernel_rfl) ?_
  simp only [List.filterMap_cons, List.filterMap_nil, List.getElem?_cons_zero, List.getElem?_cons_succ]
  repeat (first | go_big_quiet_step (fail) | quiet_step (fail))
  refine wpQuiet_nil ?_
  intro x hx
  obtain ⟨iu, i1, i2, i3, i4⟩ := uInfoq
  obtain ⟨w7, hr7, hq7⟩ : ∃ w7, (Builtin.append_ #[22, 22] 22 #[.slice none 0 0, .slice ad 0 c]).run Try.prog x = .ok (.slice none 0 0) w7 ∧ Q x w7 := run_app_none x ad c
  have hq2 : Q wz w7 := hx.trans hq7
  refine tree_run 6 rfl rfl (v := .slice none 0 0) (x' := w7) (run_appopq rfl (v := .slice none 0 0) (v' := .slice ad 0 c) (by simp [Act.eval, Act.put]) (by simp [Act.eval, Act.put]) hr7) hq2 ?_
  refine tree_run 7 rfl rfl (v := .agg #[.int .i64 pw, .int .i64 ph, .slice none 0 0]) (x' := w7) (by simp [execOp, go_sem]) hq2 ?_
  have d02 := hq2.cell d0
  have d12 := hq2.cell d1
  have d22 := hq2.cell d2
  have fz2 : ∀ j, w7.frozen? ⟨w.heap.size + 1, j, none⟩ = false := fun j => (hq2.2 _).trans (fz j)
  refine tree_skipF 8 rfl rfl rfl (x' := (((w7.setCell ⟨w.heap.size + 1, 0, none⟩ (.int .i64 pw)).setCell ⟨w.heap.size + 1, 1, none⟩ (.int .i64 ph)).setCell ⟨w.heap.size + 1, 2, none⟩ (.slice none 0 0))) (by simp [execOp, go_sem, d02, d12, d22, fz2]) ?_
  refine tree_nil ?_
  have HO : Hid (Q w (((w7.setCell ⟨w.heap.size + 1, 0, none⟩ (.int .i64 pw)).setCell ⟨w.heap.size + 1, 1, none⟩ (.int .i64 ph)).setCell ⟨w.heap.size + 1, 2, none⟩ (.slice none 0 0))) := by
    exact (((HQ.out.trans hq2).set (Nat.le_succ _) _).set (Nat.le_succ _) _).set (Nat.le_succ _) _
  have k0 : (((w7.setCell ⟨w.heap.size + 1, 0, none⟩ (.int .i64 pw)).setCell ⟨w.heap.size + 1, 1, none⟩ (.int .i64 ph)).setCell ⟨w.heap.size + 1, 2, none⟩ (.slice none 0 0)).cell? ⟨w.heap.size + 1, 0, none⟩ = some (.int .i64 pw) := by simp [go_sem, d02, d12, d22]
  have k1 : (((w7.setCell ⟨w.heap.size + 1, 0, none⟩ (.int .i64 pw)).setCell ⟨w.heap.size + 1, 1, none⟩ (.int .i64 ph)).setCell ⟨w.heap.size + 1, 2, none⟩ (.slice none 0 0)).cell? ⟨w.heap.size + 1, 1, none⟩ = some (.int .i64 ph) := by simp [go_sem, d02, d12, d22]
  have k2 : (((w7.setCell ⟨w.heap.size + 1, 0, none⟩ (.int .i64 pw)).setCell ⟨w.heap.size + 1, 1, none⟩ (.int .i64 ph)).setCell ⟨w.heap.size + 1, 2, none⟩ (.slice none 0 0)).cell? ⟨w.heap.size + 1, 2, none⟩ = some (.slice none 0 0) := by simp [go_sem, d02, d12, d22]
  generalize (((w7.setCell ⟨w.heap.size + 1, 0, none⟩ (.int .i64 pw)).setCell ⟨w.heap.size + 1, 1, none⟩ (.int .i64 ph)).setCell ⟨w.heap.size + 1, 2, none⟩ (.slice none 0 0)) = w5 at *
  clear d02 d12 d22 fz2 hq2 hx c0 c1 c2 d0 d1 d2 fz hr7 hq7
  go_wp2_with fail
  exact bodyPost_ret (v := .agg #[.int .i64 pw, .int .i64 ph, .slice none 0 0]) (by simp [results, Try.results29, go_sem, k0, k1, k2]) rfl ⟨_, rfl, rfl, HO.out⟩
end Go.Proofs.Ytpobgkcobgecoab
/- Planes moved round: what halidelaw11's moved answers (P11.9). -/
namespace Go.Proofs.Ytpobgkcobgecoab
open Go.RowKit
set_option linter.unusedVariables false
set_option linter.unusedSimpArgs false

def mvD (pa pb dx dy x y : Nat) : Nat := (y + dy) % pb * pa + (x + dx) % pa
def mvS (pa pb dx dy j : Nat) : Nat := (j / pa + (pb - dy)) % pb * pa + (j % pa + (pa - dx)) % pa
theorem mv_one {p d x : Nat} (hd : d < p) (hx : x < p) : ((x + d) % p + (p - d)) % p = x ∧ ((x + (p - d)) % p + d) % p = x := by
  constructor
  · rw [Nat.mod_add_mod, show x + d + (p - d) = x + p by omega, Nat.add_mod_right, Nat.mod_eq_of_lt hx]
  · rw [Nat.mod_add_mod, show x + (p - d) + d = x + p by omega, Nat.add_mod_right, Nat.mod_eq_of_lt hx]
theorem mv_in {pa pb u v : Nat} (hu : u < pa) (hv : v < pb) : v * pa + u < pa * pb := by
  have : (v + 1) * pa ≤ pb * pa := Nat.mul_le_mul_right _ hv
  rw [Nat.add_mul, Nat.one_mul, Nat.mul_comm pb pa] at this
  omega
theorem mv_dm {pa u v : Nat} (hu : u < pa) : (v * pa + u) / pa = v ∧ (v * pa + u) % pa = u := by
  constructor
  · rw [Nat.mul_comm, Nat.mul_add_div (by omega), Nat.div_eq_of_lt hu]; omega
  · rw [Nat.mul_comm, Nat.mul_add_mod, Nat.mod_eq_of_lt hu]
theorem mvD_in {pa pb dx dy x y : Nat} (ha : 0 < pa) (hb : 0 < pb) : mvD pa pb dx dy x y < pa * pb := mv_in (Nat.mod_lt _ ha) (Nat.mod_lt _ hb)
theorem mvS_in {pa pb dx dy j : Nat} (ha : 0 < pa) (hb : 0 < pb) : mvS pa pb dx dy j < pa * pb := mv_in (Nat.mod_lt _ ha) (Nat.mod_lt _ hb)
theorem mv_fwd {pa pb dx dy x y : Nat} (hdx : dx < pa) (hdy : dy < pb) (hx : x < pa) (hy : y < pb) : mvS pa pb dx dy (mvD pa pb dx dy x y) = y * pa + x := by
  unfold mvS mvD
  have h := mv_dm (pa := pa) (u := (x + dx) % pa) (v := (y + dy) % pb) (Nat.mod_lt _ (by omega))
  rw [h.1, h.2, (mv_one hdx hx).1, (mv_one hdy hy).1]
theorem mv_back {pa pb dx dy j : Nat} (hdx : dx < pa) (hdy : dy < pb) (hj : j < pa * pb) : ∃ x y, x < pa ∧ y < pb ∧ mvD pa pb dx dy x y = j := by
  have h1 : j % pa < pa := Nat.mod_lt _ (by omega)
  have h2 : j / pa < pb := Nat.div_lt_of_lt_mul hj
  refine ⟨(j % pa + (pa - dx)) % pa, (j / pa + (pb - dy)) % pb, Nat.mod_lt _ (by omega), Nat.mod_lt _ (by omega), ?_⟩
  unfold mvD
  rw [(mv_one hdx h1).2, (mv_one hdy h2).2]
  exact Nat.div_add_mod' j pa
/-- A plane moved round, by its places. -/
def mvF (pa pb dx dy : Nat) (S : List Nat) (j : Nat) : Nat := S.getD (mvS pa pb dx dy j) 0
structure MvI (w x : World) (bq pa pb n b cap g0 o0 c0 : Nat) (F : Nat → Nat) : Prop where
  p : Pbb w x w.heap.size (pa : Int) (pb : Int) (.slice (some ⟨g0, o0, none⟩) n c0)
  r : Pbb w x (w.heap.size + 1) 0 0 (.slice none 0 0)
  rf : ∀ j, x.frozen? ⟨w.heap.size + 1, j, none⟩ = false
  bx : Pbb w x bq (pa : Int) (pb : Int) (.slice (some ⟨b, 0, none⟩) n cap)
  v : VR x b n (fun j => .int .u32 ((F j : Nat) : Int))
  ap : w.heap.size + 1 < b ∧ bq ≠ b ∧ n ≤ cap
theorem MvI.next {w x y : World} {bq pa pb n b cap g0 o0 c0 : Nat} {F : Nat → Nat} (h : MvI w x bq pa pb n b cap g0 o0 c0 F) (q : Q x y) : MvI w y bq pa pb n b cap g0 o0 c0 F := ⟨h.p.next q, h.r.next q, fun j => by rw [q.2]; exact h.rf j, h.bx.next q, h.v.next q, h.ap⟩
theorem MvI.put {w x : World} {bq pa pb n b cap g0 o0 c0 : Nat} {F : Nat → Nat} (h : MvI w x bq pa pb n b cap g0 o0 c0 F) {i s : Nat} (hi : i < n) : MvI w (x.setCell ⟨b, i, none⟩ (.int .u32 (s : Int))) bq pa pb n b cap g0 o0 c0 (putF F i s) := by
  have a := h.ap
  exact ⟨h.p.set (by show b ≠ _; omega) (by show _ ≤ b; omega) _, h.r.set (by show b ≠ _; omega) (by show _ ≤ b; omega) _, fun j => by rw [World.frozen?_setCell]; exact h.rf j, h.bx.set (by show b ≠ bq; exact fun e => a.2.1 e.symm) (by show _ ≤ b; omega) _, h.v.put hi (by unfold putF; rw [if_pos rfl]) (fun j _ hj => by unfold putF; rw [if_neg hj]), a⟩
def Mvd (pa pb dx dy : Nat) (S : List Nat) (F : Nat → Nat) (t0 u0 : Nat) : Prop := ∀ x y, x < pa → (y < t0 ∨ (y = t0 ∧ x < u0)) → F (mvD pa pb dx dy x y) = mvF pa pb dx dy S (mvD pa pb dx dy x y)
theorem Mvd.step {pa pb dx dy : Nat} {S : List Nat} {F : Nat → Nat} {t0 u0 : Nat} (h : Mvd pa pb dx dy S F t0 u0) : Mvd pa pb dx dy S (putF F (mvD pa pb dx dy u0 t0) (mvF pa pb dx dy S (mvD pa pb dx dy u0 t0))) t0 (u0 + 1) := fun x y hx hxy => by
  unfold putF
  split
  · rename_i e; rw [e]
  · rename_i e
    refine h x y hx ?_
    rcases hxy with c | ⟨c1, c2⟩
    · exact Or.inl c
    · refine Or.inr ⟨c1, ?_⟩
      rcases Nat.lt_or_ge x u0 with d | d
      · exact d
      · exfalso
        apply e
        rw [c1, show x = u0 by omega]
theorem Mvd.line {pa pb dx dy : Nat} {S : List Nat} {F : Nat → Nat} {t0 : Nat} (h : Mvd pa pb dx dy S F t0 pa) : Mvd pa pb dx dy S F (t0 + 1) 0 := fun x y hx hxy => h x y hx (by omega)
theorem Mvd.all {pa pb dx dy : Nat} {S : List Nat} {F : Nat → Nat} (h : Mvd pa pb dx dy S F pb 0) (hdx : dx < pa) (hdy : dy < pb) {j : Nat} (hj : j < pa * pb) : F j = mvF pa pb dx dy S j := by
  obtain ⟨x, y, hx, hy, rfl⟩ := mv_back hdx hdy hj
  exact h x y hx (Or.inl hy)
set_option maxHeartbeats 8000000 in
set_option maxRecDepth 100000 in
theorem moved_any (w : World) (pa pb dx dy g0 o0 c n : Nat) (S : List Nat) (hsz : Size pa pb) (hnn : n = pa * pb) (hS : S.length = n) (hI : UIs w g0 o0 S) (hdx : dx < pa) (hdy : dy < pb) :
    Calls Try.prog 12 #[.agg #[.int .i64 (pa : Int), .int .i64 (pb : Int), .slice (some ⟨g0, o0, none⟩) n c], .int .i64 (dx : Int), .int .i64 (dy : Int)] w fun e w' => ∃ v, e = .returned v ∧ ∃ b cap, v = .agg #[.int .i64 (pa : Int), .int .i64 (pb : Int), .slice (some ⟨b, 0, none⟩) n cap] ∧ n ≤ cap ∧ VR w' b n (fun j => .int .u32 ((mvF pa pb dx dy S j : Nat) : Int)) ∧ Q w w' := by
  obtain ⟨w1, hw1⟩ : ∃ w1, (w.alloc (.cells #[.int .i64 (pa : Int), .int .i64 (pb : Int), .slice (some ⟨g0, o0, none⟩) n c] 24)).alloc (.cells #[.int .i64 0, .int .i64 0, .slice none 0 0] 24) = w1 := ⟨_, rfl⟩
  have q1 : Q w w1 := by rw [← hw1]; exact ((Q.refl w).cells _ _).cells _ _
  have k0 : w1.cell? ⟨w.heap.size, 0, none⟩ = some (.int .i64 (pa : Int)) := by rw [← hw1]; simp [go_sem]
  have k1 : w1.cell? ⟨w.heap.size, 1, none⟩ = some (.int .i64 (pb : Int)) := by rw [← hw1]; simp [go_sem]
  have k2 : w1.cell? ⟨w.heap.size, 2, none⟩ = some (.slice (some ⟨g0, o0, none⟩) n c) := by rw [← hw1]; simp [go_sem]
  have HR : Hid ((w1.cell? ⟨w.heap.size + 1, 0, none⟩ = some (.int .i64 0) ∧ w1.cell? ⟨w.heap.size + 1, 1, none⟩ = some (.int .i64 0) ∧ w1.cell? ⟨w.heap.size + 1, 2, none⟩ = some (.slice none 0 0) ∧ (∀ j, w1.frozen? ⟨w.heap.size + 1, j, none⟩ = false) ∧ w1.heap.size = w.heap.size + 2) ∧ Q w w1 ∧ w1.cell? ⟨w.heap.size, 0, none⟩ = some (.int .i64 (pa : Int)) ∧ w1.cell? ⟨w.heap.size, 1, none⟩ = some (.int .i64 (pb : Int)) ∧ w1.cell? ⟨w.heap.size, 2, none⟩ = some (.slice (some ⟨g0, o0, none⟩) n c)) := by
    refine ⟨?_, q1, k0, k1, k2⟩
    rw [← hw1]
    exact ⟨by simp [go_sem], by simp [go_sem], by simp [go_sem], fun j => by simp [go_sem], by simp⟩
  have hn1 : 1 ≤ n := by rw [hnn]; exact hsz.pos
  have hn2 : n ≤ 65536 := by rw [hnn]; exact hsz.ab
  have CC := hcopy_some w1 (pa : Int) (pb : Int) g0 o0 n c S hS (hI.next q1) hn1 (by omega)
  have HSZ : Hid (Size pa pb ∧ n = pa * pb ∧ S.length = n ∧ (∀ x, Q w x → UIs x g0 o0 S)) := ⟨hsz, hnn, hS, fun x q => hI.next q⟩
  have ha1 := hsz.a1
  have hb1 := hsz.b1
  have ha2 := hsz.a2
  have hb2 := hsz.b2
  clear hsz hnn hS hI q1
  go_enter Try.func12, Try.ntmps12
  go_wp2_with fail
  refine CC.mono ?_
  rintro e w2 ⟨v, rfl, b, cap, rfl, hcap, hb, hO⟩
  obtain ⟨w3, hw3⟩ : ∃ w3, w2.alloc (.cells #[.int .i64 (pa : Int), .int .i64 (pb : Int), .slice (some ⟨b, 0, none⟩) n cap] 24) = w3 := ⟨_, rfl⟩
  have HX0 : Hid (MvI w w3 w2.heap.size pa pb n b cap g0 o0 c (fun j => S.getD j 0)) := by
    have q23 : Q w2 w3 := by rw [← hw3]; exact (Q.refl w2).cells _ _
    have h := HR.out
    have hnew := hO.new
    have q13 := hO.q.trans q23
    refine ⟨⟨q13.cell h.2.2.1, q13.cell h.2.2.2.1, q13.cell h.2.2.2.2, h.2.1.trans q13⟩, ⟨q13.cell h.1.1, q13.cell h.1.2.1, q13.cell h.1.2.2.1, h.2.1.trans q13⟩, fun j => by rw [q13.2]; exact h.1.2.2.2.1 j, ?_, ⟨fun i hi => ?_, fun j => by rw [q23.2]; exact hO.free j⟩, by omega, by omega, hcap⟩
    · rw [← hw3]
      exact Pbb.mk' w w2 (h.2.1.trans hO.q) _ _ _ _ _
    · have := hO.cells i (by rw [HSZ.out.2.2.1]; exact hi)
      rw [Nat.zero_add] at this
      exact q23.cell this
  clear hO CC k0 k1 k2 hw1 HR hb
  obtain ⟨bq, hbq⟩ : ∃ bq, w2.heap.size = bq := ⟨_, rfl⟩
  go_wp2_with fail
  rw [hbq] at HX0
  go_loopg [8, 9] pb (fun m s8 s9 wr => ∃ (t : Nat) (F : Nat → Nat), s8 = .int .i64 (t : Int) ∧ t + m = pb ∧ Hid (MvI w wr bq pa pb n b cap g0 o0 c F ∧ Mvd pa pb dx dy S F t 0))
  case atStart => exact ⟨0, _, by simp, by omega, ⟨HX0.out, fun x y _ h => by omega⟩⟩
  case round =>
    clear HX0 hw3
    obtain ⟨t, F, rfl, ht, HX⟩ := hrel
    by_cases hlt : t < pb
    · have k1 := HX.out.1.p.c1
      go_wp2_with fail
      go_loopg [9] pa (fun m s9 wx => ∃ (u : Nat) (F : Nat → Nat), s9 = .int .i64 (u : Int) ∧ u + m = pa ∧ Hid (MvI w wx bq pa pb n b cap g0 o0 c F ∧ Mvd pa pb dx dy S F t u))
      case atStart => exact ⟨0, F, by simp, by omega, HX⟩
      case round =>
        clear HX k1
        obtain ⟨u, F, rfl, hu, HX⟩ := hrel
        by_cases hlu : u < pa
        · have k0 := HX.out.1.p.c0
          have k1 := HX.out.1.p.c1
          have k2 := HX.out.1.p.c2
          have j2 := HX.out.1.bx.c2
          have n0 := qw_some wr
          have f0 := qw_cell k0
          have f1 := qw_cell k1
          have f2 := qw_cell k2
          have f3 := qw_cell j2
          obtain ⟨Y, hY⟩ : ∃ Y, (t + dy) % pb = Y := ⟨_, rfl⟩
          obtain ⟨X, hX⟩ : ∃ X, (u + dx) % pa = X := ⟨_, rfl⟩
          have HY : Hid (IntKind.i64.wrap ((t : Int) + (dy : Int)) = ((t + dy : Nat) : Int) ∧ Int.tmod ((t : Int) + (dy : Int)) (pb : Int) = (Y : Int) ∧ Y < pb ∧ IntKind.i64.wrap (Y : Int) = (Y : Int)) := by
            have hl : Y < pb := by rw [← hY]; exact Nat.mod_lt _ (by omega)
            refine ⟨by rw [IntKind.wrap_i64]; omega, by rw [← hY, ← Int.natCast_add]; rfl, hl, by rw [IntKind.wrap_i64]; omega⟩
          have HXX : Hid (IntKind.i64.wrap ((u : Int) + (dx : Int)) = ((u + dx : Nat) : Int) ∧ Int.tmod ((u : Int) + (dx : Int)) (pa : Int) = (X : Int) ∧ X < pa ∧ IntKind.i64.wrap (X : Int) = (X : Int)) := by
            have hl : X < pa := by rw [← hX]; exact Nat.mod_lt _ (by omega)
            refine ⟨by rw [IntKind.wrap_i64]; omega, by rw [← hX, ← Int.natCast_add]; rfl, hl, by rw [IntKind.wrap_i64]; omega⟩
          have HA : Hid (Y * pa + X = mvD pa pb dx dy u t) := by show _ = _; unfold mvD; rw [hX, hY]
          clear hX hY
          obtain ⟨A, hA⟩ : ∃ A, Y * pa + X = A := ⟨_, rfl⟩
          obtain ⟨B, hB⟩ : ∃ B, t * pa + u = B := ⟨_, rfl⟩
          have hBn : B < n := by rw [← hB, HSZ.out.2.1]; exact mv_in hlu hlt
          have hAn : A < n := by rw [← hA, HSZ.out.2.1]; exact mv_in HXX.out.2.2.1 HY.out.2.2.1
          have HWA : Hid (IntKind.i64.wrap (IntKind.i64.wrap ((IntKind.i64.wrap ((t : Int) + (dy : Int))).tmod (pb : Int) * (pa : Int)) + (IntKind.i64.wrap ((u : Int) + (dx : Int))).tmod (pa : Int)) = (A : Int) ∧ A < n) := ⟨by rw [← hA, HY.out.1, HXX.out.1, Int.natCast_add, Int.natCast_add, HY.out.2.1, HXX.out.2.1]; exact (wrap_idx (m := Y * pa) (a := X) (p := (Y : Int) * (pa : Int)) (by rw [Int.natCast_mul]) (by omega)).1, hAn⟩
          have HWB : Hid (IntKind.i64.wrap (IntKind.i64.wrap ((t : Int) * (pa : Int)) + (u : Int)) = (B : Int) ∧ B < n) := ⟨by rw [← hB]; exact (wrap_idx (m := t * pa) (a := u) (p := (t : Int) * (pa : Int)) (by rw [Int.natCast_mul]) (by omega)).1, hBn⟩
          obtain ⟨vv, hvv⟩ : ∃ vv, S.getD B 0 = vv := ⟨_, rfl⟩
          have HCI : Hid (wr.cell? ⟨g0, o0 + B, none⟩ = some (.int .u32 (vv : Int))) := by
            have := HSZ.out.2.2.2 wr HX.out.1.p.q B (by rw [HSZ.out.2.2.1]; exact hBn)
            rw [hvv] at this
            exact this
          have HMS : Hid (Mvd pa pb dx dy S (putF F A vv) t (u + 1)) := by
            have e1 : A = mvD pa pb dx dy u t := by rw [← hA]; exact HA.out
            have e2 : vv = mvF pa pb dx dy S (mvD pa pb dx dy u t) := by unfold mvF; rw [mv_fwd hdx hdy hlu hlt, hB, hvv]
            show Mvd _ _ _ _ _ _ _ _
            rw [e1, e2]
            exact HX.out.2.step
          have HZZ : Hid (wr.cell? ⟨b, A, none⟩ = some (.int .u32 ((F A : Nat) : Int)) ∧ wr.frozen? ⟨b, A, none⟩ = false) := ⟨HX.out.1.v.cell A hAn, HX.out.1.v.free A⟩
          clear hA hB hvv hAn hBn
          have zan : ¬ pa = 0 := by omega
          have zbn : ¬ pb = 0 := by omega
          have za : ¬ (pa : Int) = 0 := by omega
          have zb : ¬ (pb : Int) = 0 := by omega
          have za' : ((pa : Int) == 0) = false := by simpa using za
          have zb' : ((pb : Int) == 0) = false := by simpa using zb
          go_wp2_with fail
          refine wp_region_mk [0, 1, 2, 3, 4, 5, 6, 7, 8, 9, 10, 11, 12, 13, 14, 15, 16, 17, 18, 19, 20, 21, 22, 23, 24, 25, 26, 27, 28] [[29]] 1 _ (by kernel_rfl) (by kernel_rfl) rfl (by kernel_rfl) ?_
          simp only [List.filterMap_cons, List.filterMap_nil, List.getElem?_cons_zero, List.getElem?_cons_succ]
          repeat (first | go_big_quiet_step (fail) | quiet_step (fail))
          refine wpQuiet_val rfl (v := .pointer (some ⟨g0, o0 + B, none⟩)) (fun z _ => by have hw := HWB.out; simp [execOp, go_sem, hw.1, hw.2]) ?_
          refine wpQuiet_val rfl (v := .int .u32 (vv : Int)) (fun z hz => by obtain ⟨nn, rfl⟩ := hz; have hc := nn.q.cell HCI.out; simp [execOp, go_sem, Act.put, hc]) ?_
          refine wpQuiet_val rfl (v := .pointer (some ⟨b, A, none⟩)) (fun z _ => by have hw := HWA.out; simp [execOp, go_sem, Act.put, hw.1, hw.2]) ?_
          refine wpQuiet_nil ?_
          intro w8 hx8
          have d5 := hx8.cell HZZ.out.1
          have d6 : w8.frozen? ⟨b, A, none⟩ = false := by rw [hx8.2]; exact HZZ.out.2
          refine tree_skipF 29 rfl rfl rfl (x' := w8.setCell ⟨b, A, none⟩ (.int .u32 (vv : Int))) (by simp [execOp, go_sem, Act.put, d5, d6]) ?_
          refine tree_nil ?_
          have HP10 : Hid (MvI w (w8.setCell ⟨b, A, none⟩ (.int .u32 (vv : Int))) bq pa pb n b cap g0 o0 c (putF F A vv) ∧ Mvd pa pb dx dy S (putF F A vv) t (u + 1)) := ⟨(HX.out.1.next hx8).put HWA.out.2, HMS.out⟩
          generalize w8.setCell ⟨b, A, none⟩ (.int .u32 (vv : Int)) = w9 at HP10 ⊢
          clear n0 f0 f1 f2 f3 d5 d6 hx8 k0 k1 k2 j2 za zb za' zb' zan zbn
          go_wp2_with fail
          go_roundg (pa - (u + 1))
          case measure => go_light; omega
          case rel => go_light; exact ⟨u + 1, _, by simp, by omega, HP10⟩
        · have hu2 : u = pa := by omega
          have k0 := HX.out.1.p.c0
          have HX9 : Hid (MvI w wr bq pa pb n b cap g0 o0 c F ∧ Mvd pa pb dx dy S F (t + 1) 0) := ⟨HX.out.1, by have := HX.out.2; rw [hu2] at this; exact this.line⟩
          clear hu2
          go_wp2_with fail
          go_roundg (pb - (t + 1))
          case measure => go_light; omega
          case rel => go_light; exact ⟨t + 1, F, by simp, by omega, HX9⟩
    · have ht2 : t = pb := by omega
      have k1 := HX.out.1.p.c1
      have j0 := HX.out.1.bx.c0
      have j1 := HX.out.1.bx.c1
      have j2 := HX.out.1.bx.c2
      have o0' := HX.out.1.r.c0
      have o1' := HX.out.1.r.c1
      have o2' := HX.out.1.r.c2
      have fo := HX.out.1.rf
      have HMA : Hid (Mvd pa pb dx dy S F pb 0) := by have := HX.out.2; rw [ht2] at this; exact this
      clear ht2
      go_wp2_with fail
      have HF : Hid (n ≤ cap ∧ VR (((wr.setCell ⟨w.heap.size + 1, 0, none⟩ (.int .i64 (pa : Int))).setCell ⟨w.heap.size + 1, 1, none⟩ (.int .i64 (pb : Int))).setCell ⟨w.heap.size + 1, 2, none⟩ (.slice (some ⟨b, 0, none⟩) n cap)) b n (fun j => .int .u32 ((mvF pa pb dx dy S j : Nat) : Int)) ∧ Q w (((wr.setCell ⟨w.heap.size + 1, 0, none⟩ (.int .i64 (pa : Int))).setCell ⟨w.heap.size + 1, 1, none⟩ (.int .i64 (pb : Int))).setCell ⟨w.heap.size + 1, 2, none⟩ (.slice (some ⟨b, 0, none⟩) n cap))) := by
        have a := HX.out.1.ap
        have hl' : w.heap.size ≤ w.heap.size + 1 := by omega
        refine ⟨a.2.2, (((HX.out.1.v.other (p := ⟨w.heap.size + 1, 0, none⟩) (by show w.heap.size + 1 ≠ b; omega) _).other (p := ⟨w.heap.size + 1, 1, none⟩) (by show w.heap.size + 1 ≠ b; omega) _).other (p := ⟨w.heap.size + 1, 2, none⟩) (by show w.heap.size + 1 ≠ b; omega) _).congr (fun j hj => ?_), ((HX.out.1.p.q.set hl' _).set hl' _).set hl' _⟩
        rw [HMA.out.all hdx hdy (by rw [← HSZ.out.2.1]; exact hj)]
      have y0 : (((wr.setCell ⟨w.heap.size + 1, 0, none⟩ (.int .i64 (pa : Int))).setCell ⟨w.heap.size + 1, 1, none⟩ (.int .i64 (pb : Int))).setCell ⟨w.heap.size + 1, 2, none⟩ (.slice (some ⟨b, 0, none⟩) n cap)).cell? ⟨w.heap.size + 1, 0, none⟩ = some (.int .i64 (pa : Int)) := (World.cell?_setCell_other _ _ _ _ (fun e => by injection e with _ e; cases e)).trans ((World.cell?_setCell_other _ _ _ _ (fun e => by injection e with _ e; cases e)).trans (World.cell?_setCell_same _ _ _ o0'))
      have y1 : (((wr.setCell ⟨w.heap.size + 1, 0, none⟩ (.int .i64 (pa : Int))).setCell ⟨w.heap.size + 1, 1, none⟩ (.int .i64 (pb : Int))).setCell ⟨w.heap.size + 1, 2, none⟩ (.slice (some ⟨b, 0, none⟩) n cap)).cell? ⟨w.heap.size + 1, 1, none⟩ = some (.int .i64 (pb : Int)) := (World.cell?_setCell_other _ _ _ _ (fun e => by injection e with _ e; cases e)).trans (World.cell?_setCell_same _ _ _ ((World.cell?_setCell_other _ _ _ _ (fun e => by injection e with _ e; cases e)).trans o1'))
      have y2 : (((wr.setCell ⟨w.heap.size + 1, 0, none⟩ (.int .i64 (pa : Int))).setCell ⟨w.heap.size + 1, 1, none⟩ (.int .i64 (pb : Int))).setCell ⟨w.heap.size + 1, 2, none⟩ (.slice (some ⟨b, 0, none⟩) n cap)).cell? ⟨w.heap.size + 1, 2, none⟩ = some (.slice (some ⟨b, 0, none⟩) n cap) := World.cell?_setCell_same _ _ _ ((World.cell?_setCell_other _ _ _ _ (fun e => by injection e with _ e; cases e)).trans ((World.cell?_setCell_other _ _ _ _ (fun e => by injection e with _ e; cases e)).trans o2'))
      generalize ((wr.setCell ⟨w.heap.size + 1, 0, none⟩ (.int .i64 (pa : Int))).setCell ⟨w.heap.size + 1, 1, none⟩ (.int .i64 (pb : Int))).setCell ⟨w.heap.size + 1, 2, none⟩ (.slice (some ⟨b, 0, none⟩) n cap) = w9 at HF y0 y1 y2 ⊢
      exact bodyPost_ret (v := .agg #[.int .i64 (pa : Int), .int .i64 (pb : Int), .slice (some ⟨b, 0, none⟩) n cap]) (by simp [results, Try.results12, go_sem, y0, y1, y2, Act.put]) rfl ⟨_, rfl, b, cap, rfl, HF.out.1, HF.out.2.1, HF.out.2.2⟩
end Go.Proofs.Ytpobgkcobgecoab
/- Radius 0, and slopes of planes moved round (P11.9): plain facts. -/
namespace Go.Proofs.Ytpobgkcobgecoab
open Go.RowKit
set_option linter.unusedVariables false
set_option linter.unusedSimpArgs false

theorem bor_self {k : Nat} {n i : Int} (hk : k = 1 ∨ k = 2 ∨ k = 3) (h0 : 0 ≤ i) (h1 : i < n) : borV k n i = i := by
  rcases hk with rfl | rfl | rfl
  · show claV n i = i
    unfold claV
    rw [if_neg (by omega), if_pos h1]
  · show mirV n i = i
    unfold mirV
    by_cases h : n = 1
    · rw [if_pos h]; omega
    · rw [if_neg h]
      have e : i % (2 * (n - 1)) = i := Int.emod_eq_of_lt h0 (by omega)
      rw [e, if_pos h1]
  · show i % n = i
    exact Int.emod_eq_of_lt h0 h1
/-- A sample, a NaN in its one form. -/
def canS (x : Nat) : Nat := if rung32 x ≤ 2139095040 then x else 2143289344
theorem canS_can (x : Nat) : canS (canS x) = canS x := by
  unfold canS
  by_cases h : rung32 x ≤ 2139095040
  · rw [if_pos h, if_pos h]
  · rw [if_neg h, if_neg (by decide)]
theorem canS_lt {x : Nat} (h : x < 4294967296) : canS x < 4294967296 := by
  unfold canS
  split
  · exact h
  · decide
theorem mix_zero {kind : Int} (hw : bwE kind ((0 : Nat) : Int) = 0) {F : Nat → Nat} {x : Nat} (hx4 : x < 4294967296) (hF : F 0 = x) : mixB kind 0 F = canS x := by
  by_cases h : rung32 x ≤ 2139095040
  · unfold canS
    rw [if_pos h]
    refine mix_const (r := 0) (by decide) hw h hx4 (fun i hi => ?_)
    have e : i = 0 := by omega
    rw [e]
    exact hF
  · unfold canS
    rw [if_neg h]
    have hn : wideW x = 9221120237041090560 := by
      unfold wideW
      rw [if_pos (by unfold nanN; unfold rung32 at h; exact decide_eq_true (by omega))]
    have hb : bwV kind 0 0 = 1 := by unfold bwV; split <;> rfl
    show narW (opT .quo (opT .mul (floatOfInt .f64 (bwV kind 0 0)) (wideW (F 0))) (floatOfInt .f64 (0 + bwV kind 0 0))) = _
    rw [hF, hn, hb]
    decide +kernel
theorem blu_zero {kind : Int} {k pa pb j : Nat} {S : List Nat} (hw : bwE kind ((0 : Nat) : Int) = 0) (hk : k = 1 ∨ k = 2 ∨ k = 3) (ha : 0 < pa) (hb : 0 < pb) (hl : ∀ i, S.getD i 0 < 4294967296) (hj : j < pa * pb) : bluV kind 0 k pa pb S j = canS (S.getD j 0) := by
  have h1 : j % pa < pa := Nat.mod_lt _ ha
  have h2 : j / pa < pb := Nat.div_lt_of_lt_mul hj
  have hd : j / pa * pa + j % pa = j := Nat.div_add_mod' j pa
  have key : ∀ y n : Nat, y < n → (borV k n ((y : Int) + ((0 : Nat) : Int) - ((0 : Nat) : Int))).toNat = y := fun y n h => by
    rw [bor_self hk (by omega) (by omega)]; omega
  have e1 : (borV k pb (((j / pa : Nat) : Int) + ((0 : Nat) : Int) - ((0 : Nat) : Int))).toNat = j / pa := key _ _ h2
  have e2 : (borV k pa (((j % pa : Nat) : Int) + ((0 : Nat) : Int) - ((0 : Nat) : Int))).toNat = j % pa := key _ _ h1
  have hr : rowB (mixB kind 0) 0 k pa S j = canS (S.getD j 0) := by
    unfold rowB alV
    refine mix_zero hw (hl j) ?_
    show S.getD (j / pa * pa + (borV k pa (((j % pa : Nat) : Int) + ((0 : Nat) : Int) - ((0 : Nat) : Int))).toNat) 0 = _
    rw [e2, hd]
  unfold bluV colB alV
  rw [mix_zero (x := canS (S.getD j 0)) hw (canS_lt (hl j)) ?_, canS_can]
  show (tabB (pa * pb) (rowB (mixB kind 0) 0 k pa S)).getD ((borV k pb (((j / pa : Nat) : Int) + ((0 : Nat) : Int) - ((0 : Nat) : Int))).toNat * pa + j % pa) 0 = _
  rw [e1, hd, tabB_at hj, hr]
theorem emod_nat {p : Nat} (hp : 0 < p) (i : Int) : ((i % (p : Int)).toNat : Int) = i % (p : Int) := Int.toNat_of_nonneg (Int.emod_nonneg _ (by omega))
/-- Ahead or behind, then moved: moved, then ahead or behind. -/
theorem mv_bor {p d x t : Nat} (hd : d < p) : ((borV 3 p ((x : Int) + (t : Int) - ((1 : Nat) : Int))).toNat + (p - d)) % p = (borV 3 p ((((x + (p - d)) % p : Nat) : Int) + (t : Int) - ((1 : Nat) : Int))).toNat := by
  have hp : 0 < p := by omega
  show ((((x : Int) + (t : Int) - ((1 : Nat) : Int)) % (p : Int)).toNat + (p - d)) % p = (((((x + (p - d)) % p : Nat) : Int) + (t : Int) - ((1 : Nat) : Int)) % (p : Int)).toNat
  have h : (((((((x : Int) + (t : Int) - ((1 : Nat) : Int)) % (p : Int)).toNat + (p - d)) % p : Nat)) : Int) = ((((((x + (p - d)) % p : Nat) : Int) + (t : Int) - ((1 : Nat) : Int)) % (p : Int)).toNat : Int) := by
    rw [emod_nat hp, Int.natCast_emod, Int.natCast_add, emod_nat hp, Int.emod_add_emod, Int.natCast_emod, show (((x + (p - d) : Nat) : Int) % (p : Int) + (t : Int) - ((1 : Nat) : Int)) = ((x + (p - d) : Nat) : Int) % (p : Int) + ((t : Int) - ((1 : Nat) : Int)) from Int.add_sub_assoc _ _ _, Int.emod_add_emod]
    congr 1
    omega
  exact Int.ofNat.inj h
theorem mvS_dm {pa pb dx dy j : Nat} (ha : 0 < pa) : mvS pa pb dx dy j / pa = (j / pa + (pb - dy)) % pb ∧ mvS pa pb dx dy j % pa = (j % pa + (pa - dx)) % pa := mv_dm (Nat.mod_lt _ ha)
theorem row_moved {pa pb dx dy j : Nat} {S : List Nat} (ha : 0 < pa) (hb : 0 < pb) (hdx : dx < pa) (hdy : dy < pb) (hj : j < pa * pb) : rowB slpV 1 3 pa (tabB (pa * pb) (mvF pa pb dx dy S)) j = mvF pa pb dx dy (tabB (pa * pb) (rowB slpV 1 3 pa S)) j := by
  unfold mvF
  rw [tabB_at (mvS_in ha hb)]
  unfold rowB alV
  congr 1
  funext t
  have h2 : j / pa < pb := Nat.div_lt_of_lt_mul hj
  have h3 := borV_lt (k := ((3 : Nat) : Int)) (n := (pa : Int)) (((j % pa : Nat) : Int) + (t : Int) - ((1 : Nat) : Int)) (by omega)
  show (tabB (pa * pb) (fun j => S.getD (mvS pa pb dx dy j) 0)).getD (j / pa * pa + (borV ((3 : Nat) : Int) pa (((j % pa : Nat) : Int) + (t : Int) - ((1 : Nat) : Int))).toNat) 0 = S.getD (mvS pa pb dx dy j / pa * pa + (borV ((3 : Nat) : Int) pa (((mvS pa pb dx dy j % pa : Nat) : Int) + (t : Int) - ((1 : Nat) : Int))).toNat) 0
  have hl : (borV ((3 : Nat) : Int) pa (((j % pa : Nat) : Int) + (t : Int) - ((1 : Nat) : Int))).toNat < pa := by omega
  rw [tabB_at (mv_in hl h2), (mvS_dm ha).1, (mvS_dm ha).2]
  show S.getD (mvS pa pb dx dy (j / pa * pa + (borV ((3 : Nat) : Int) pa (((j % pa : Nat) : Int) + (t : Int) - ((1 : Nat) : Int))).toNat)) 0 = _
  unfold mvS
  rw [(mv_dm hl).1, (mv_dm hl).2]
  congr 2
  exact mv_bor hdx
theorem col_moved {pa pb dx dy j : Nat} {S : List Nat} (ha : 0 < pa) (hb : 0 < pb) (hdx : dx < pa) (hdy : dy < pb) (hj : j < pa * pb) : colB slpV 1 3 pa pb (tabB (pa * pb) (mvF pa pb dx dy S)) j = mvF pa pb dx dy (tabB (pa * pb) (colB slpV 1 3 pa pb S)) j := by
  unfold mvF
  rw [tabB_at (mvS_in ha hb)]
  unfold colB alV
  congr 1
  funext t
  have h2 : j % pa < pa := Nat.mod_lt _ ha
  have h3 := borV_lt (k := ((3 : Nat) : Int)) (n := (pb : Int)) (((j / pa : Nat) : Int) + (t : Int) - ((1 : Nat) : Int)) (by omega)
  have hl : (borV ((3 : Nat) : Int) pb (((j / pa : Nat) : Int) + (t : Int) - ((1 : Nat) : Int))).toNat < pb := by omega
  show (tabB (pa * pb) (fun j => S.getD (mvS pa pb dx dy j) 0)).getD ((borV ((3 : Nat) : Int) pb (((j / pa : Nat) : Int) + (t : Int) - ((1 : Nat) : Int))).toNat * pa + j % pa) 0 = S.getD ((borV ((3 : Nat) : Int) pb (((mvS pa pb dx dy j / pa : Nat) : Int) + (t : Int) - ((1 : Nat) : Int))).toNat * pa + mvS pa pb dx dy j % pa) 0
  rw [tabB_at (mv_in h2 hl), (mvS_dm ha).1, (mvS_dm ha).2]
  show S.getD (mvS pa pb dx dy ((borV ((3 : Nat) : Int) pb (((j / pa : Nat) : Int) + (t : Int) - ((1 : Nat) : Int))).toNat * pa + j % pa)) 0 = _
  unfold mvS
  rw [(mv_dm h2).1, (mv_dm h2).2]
  congr 3
  exact mv_bor hdy
theorem tabB_ext {n : Nat} {F G : Nat → Nat} (h : ∀ j, j < n → F j = G j) : tabB n F = tabB n G := by
  unfold tabB
  exact List.map_congr_left fun j hj => h j (List.mem_range.1 hj)
end Go.Proofs.Ytpobgkcobgecoab

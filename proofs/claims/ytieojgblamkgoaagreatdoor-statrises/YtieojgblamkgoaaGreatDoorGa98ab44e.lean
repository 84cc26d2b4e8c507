/- Appending to a list without room: what lies where. -/
import Derived.Test.YtieojgblamkgoaaGreatDoorG6be878c8
import Derived.Laws.Append
import Derived.Laws.AppendOwn
import Derived.OwnWalk
import Derived.Test.YtieojgblamkgoaaGreatDoorG4085d0f8
import Derived.Test.YtieojgblamkgoaaGreatDoorGcbd86916
namespace Go.Proofs.YtieojgblamkgoaaGreatDoor
open Go.RowKit

theorem run_app_new {P : Program} (w : World) (t ty e : TypeId) (i : TypeInfo) (z : Value) (ht : P.underlying t = some (.slice e)) (hi : P.info? e = some i) (hz : i.zero = some z)
    (v : Value) (hv : v = .slice none 0 0 ∨ ∃ b, v = .slice (some b) 0 0) (ad : Addr) (m c : Nat) (news : List Value) (hl : news.length = m * i.size) (hnews : ∀ j u, news[j]? = some u → w.cell? (ad.add j) = some u)
    (h0 : 0 < m) (h63 : m ≤ 1125899906842624) (hby : m * i.bytes ≤ 140737488355328) :
    ∃ cap w', (Builtin.append_ #[t, t] ty #[v, .slice (some ad) m c]).run P w = .ok (.slice (some ⟨w.heap.size, 0, none⟩) m cap) w' ∧ Q w w' ∧ m ≤ cap ∧ w'.heap.size = w.heap.size + 1 ∧
      (∀ j u, news[j]? = some u → w'.cell? ⟨w.heap.size, j, none⟩ = some u) ∧ ∀ j, w'.frozen? ⟨w.heap.size, j, none⟩ = false := by
  have fin : ∀ (cs : Array Value), (∀ (j : Nat) (u : Value), news[j]? = some u → cs[j]? = some u) → Q w (w.drew.alloc (.cells cs e)) ∧ (w.drew.alloc (.cells cs e)).heap.size = w.heap.size + 1 ∧
      (∀ (j : Nat) (u : Value), news[j]? = some u → (w.drew.alloc (.cells cs e)).cell? ⟨w.heap.size, j, none⟩ = some u) ∧ ∀ j, (w.drew.alloc (.cells cs e)).frozen? ⟨w.heap.size, j, none⟩ = false := by
    intro cs hcs
    have hb : (w.drew.alloc (.cells cs e)).heap[w.heap.size]? = some (.cells cs e (0, 0)) := heap_alloc_new w.drew _
    refine ⟨(Q.refl w).drew.cells _ _, by simp, fun j u hu => ?_, fun j => frozen_of_row _ _ _ _ _ hb⟩
    rw [cell_of_row _ _ j cs e (0, 0) hb]
    exact hcs j u hu
  have key : ∀ (n : Nat) (j : Nat) (u : Value), news[j]? = some u → (news.toArray ++ Builtin.zeroCells z.cells n)[j]? = some u := by
    intro n j u hu
    have hj : j < news.length := (List.getElem?_eq_some_iff.1 hu).1
    rw [Array.getElem?_append_left (by simpa using hj)]
    simpa using hu
  rcases hv with rfl | ⟨b, rfl⟩
  · have hr := run_append_nil (P := P) w t ty e i z ht hi hz ad m c news hl hnews h0 (by omega) (by omega)
    obtain ⟨q1, q2, q3, q4⟩ := fin _ (key (grownCap w m 0 e - m))
    exact ⟨_, _, hr, q1, grownCap_ge w m 0 e, q2, q3, q4⟩
  · have hr := run_append_grow (P := P) w t ty e i z ht hi hz b 0 0 [] (by simp) (fun j v h => by simp at h) ad m c news hl hnews (by omega) (by omega) (growslice_fits (by omega) (by rw [Nat.zero_add]; exact hby))
    simp only [Nat.zero_add, Array.empty_append] at hr
    obtain ⟨q1, q2, q3, q4⟩ := fin _ (key (grownCap w m 0 e - m))
    exact ⟨_, _, hr, q1, grownCap_ge w m 0 e, q2, q3, q4⟩

/-- In a list of operations. -/
theorem wpList_app {P : Program} (w : World) {ops : Array Oper} {rest : List Oper} {o : Oper} {a : Act} {R : Exit → Act → World → Prop} (hgd : o.guard = none) (s x : Operand) (t : TypeId)
    (ho : o.op = .call { callee := .builtin .append, args := #[s, x], argTypes := #[t, t] })
    (e : TypeId) (i : TypeInfo) (z : Value) (ht : P.underlying t = some (.slice e)) (hi : P.info? e = some i) (hz : i.zero = some z)
    (v : Value) (hv : v = .slice none 0 0 ∨ ∃ b, v = .slice (some b) 0 0) (hs : a.eval s = v) (ad : Addr) (m c : Nat) (news : List Value) (hx : a.eval x = .slice (some ad) m c) (hl : news.length = m * i.size) (hnews : ∀ j u, news[j]? = some u → w.cell? (ad.add j) = some u)
    (h0 : 0 < m) (h63 : m ≤ 1125899906842624) (hby : m * i.bytes ≤ 140737488355328)
    (h : ∀ cap w', Q w w' → m ≤ cap → w'.heap.size = w.heap.size + 1 → (∀ j u, news[j]? = some u → w'.cell? ⟨w.heap.size, j, none⟩ = some u) → (∀ j, w'.frozen? ⟨w.heap.size, j, none⟩ = false) → wpList P ops R rest (a.put o.dst (.slice (some ⟨w.heap.size, 0, none⟩) m cap)) w') :
    wpList P ops R (o :: rest) a w := by
  obtain ⟨cap, w', hr, h1, h2, h3, h4, h5⟩ := run_app_new (P := P) w t o.type e i z ht hi hz v hv ad m c news hl hnews h0 h63 hby
  refine wpList_plain hgd fun _ hK => ?_
  unfold Oper.wp execOp
  simp only [ho, resolve, invoke, builtin, Sem.run_bind, Sem.run_pure, Result.andThen_ok, List.map_toArray, List.map_cons, List.map_nil, hs, hx, hr]
  exact hK _ _ (h cap w' h1 h2 h3 h4 h5)
end Go.Proofs.YtieojgblamkgoaaGreatDoor
/- Appending samples: a copy of a list; one more sample behind a list of the call's own. -/
namespace Go.Proofs.YtieojgblamkgoaaGreatDoor
open Go.RowKit
set_option linter.unusedVariables false
set_option linter.unusedSimpArgs false

def newsR (S : List Nat) : List Value := S.map fun (x : Nat) => .int .u32 (x : Int)
theorem newsR_at {S : List Nat} {j : Nat} {u : Value} (h : (newsR S)[j]? = some u) : j < S.length ∧ u = .int .u32 ((S.getD j 0 : Nat) : Int) := by
  unfold newsR at h
  rw [List.getElem?_map] at h
  cases hj : S[j]? with
  | none => rw [hj] at h; cases h
  | some x =>
    rw [hj] at h
    simp only [Option.map_some, Option.some.injEq] at h
    refine ⟨(List.getElem?_eq_some_iff.1 hj).1, ?_⟩
    rw [List.getD_eq_getElem?_getD, hj, ← h]; rfl
theorem run_app_zeroR {P : Program} (w : World) (t ty e : TypeId) (i : TypeInfo) (ht : P.underlying t = some (.slice e)) (hi : P.info? e = some i) (a : Option Addr) (c : Nat) : (Builtin.append_ #[t, t] ty #[.slice none 0 0, .slice a 0 c]).run P w = .ok (.slice none 0 0) w := by
  cases a <;> simp [Builtin.append_, run_underlying ht, sizeOf, typeInfo, hi, Builtin.lenOf, Builtin.firstCells, loadCells, loadCellsFrom, storeCells]
theorem wpList_copyR (w : World) {ops : Array Oper} {rest : List Oper} {o : Oper} {a : Act} {R : Exit → Act → World → Prop} (hgd : o.guard = none) (x : Operand)
    (ho : o.op = .call { callee := .builtin .append, args := #[.const (.slice none 0 0), x], argTypes := #[24, 24] })
    (ad : Option Addr) (n c : Nat) (S : List Nat) (hn : S.length = n) (h100 : n ≤ 2000) (hx : a.eval x = .slice ad n c) (hS : USl w (.slice ad n c) S)
    (h : ∀ la lc w', Q w w' → USl w' (.slice la n lc) S → wpList Tryz.prog ops R rest (a.put o.dst (.slice la n lc)) w') :
    wpList Tryz.prog ops R (o :: rest) a w := by
  obtain ⟨iu, i1, i2, i3, i4⟩ := u32Info
  refine wpList_plain hgd fun _ hK => ?_
  unfold Oper.wp execOp
  by_cases h0 : n = 0
  · subst h0
    have hr := run_app_zeroR (P := Tryz.prog) w 24 o.type 43 iu Tryz.underlying24 i1 ad c
    simp only [ho, resolve, invoke, builtin, Sem.run_bind, Sem.run_pure, Result.andThen_ok, List.map_toArray, List.map_cons, List.map_nil, Act.eval, hr]
    simp only [Act.eval] at hx
    rw [hx, hr]
    exact hK _ _ (h none 0 w (Q.refl w) (Or.inr ⟨_, _, rfl, List.eq_nil_of_length_eq_zero hn⟩))
  · obtain ⟨g, o', c', e1, hcap, e3⟩ := hS.some (by omega)
    have hx' := hx
    rw [e1] at hx'
    have hl : (newsR S).length = S.length := by simp [newsR]
    obtain ⟨lc, w', hr, q1, q2, q3, q4, q5⟩ := run_app_new (P := Tryz.prog) w 24 o.type 43 iu _ Tryz.underlying24 i1 i4 _ (Or.inl rfl) ⟨g, o', none⟩ S.length c' (newsR S) (by rw [i2, hl, Nat.mul_one]) (fun j u hu => by
      obtain ⟨hj, rfl⟩ := newsR_at hu
      rw [show (⟨g, o', none⟩ : Addr).add j = ⟨g, o' + j, none⟩ by unfold Addr.add; split <;> simp_all]
      exact e3 j hj) (by omega) (by omega) (by rw [i3]; omega)
    simp only [ho, resolve, invoke, builtin, Sem.run_bind, Sem.run_pure, Result.andThen_ok, List.map_toArray, List.map_cons, List.map_nil, Act.eval]
    simp only [Act.eval] at hx'
    rw [hx', hr]
    refine hK _ _ ?_
    have hh := h (some ⟨w.heap.size, 0, none⟩) lc w' q1 (Or.inl ⟨w.heap.size, 0, lc, by rw [hn], by omega, fun j hj => ?_⟩)
    · rw [hn]; exact hh
    · rw [Nat.zero_add]
      refine q4 j _ ?_
      unfold newsR
      rw [List.getElem?_map, List.getD_eq_getElem?_getD, List.getElem?_eq_getElem hj]; rfl
/-- A list of the call's own, to which samples are appended. -/
def OwnR (w0 w : World) (v : Value) (L : List Nat) : Prop := w.ownsRow w0.heap.size 43 1 v L.length (newsR L) ∧ Q w0 w
theorem OwnR.start (w0 w : World) (q : Q w0 w) : OwnR w0 w (.slice none 0 0) [] := ⟨⟨rfl, Or.inl ⟨rfl, rfl⟩⟩, q⟩
theorem OwnR.next {w0 w w' : World} {v : Value} {L : List Nat} (h : OwnR w0 w v L) (q : Q w w') : OwnR w0 w' v L := by
  obtain ⟨⟨h1, h2⟩, hq⟩ := h
  refine ⟨⟨h1, ?_⟩, hq.trans q⟩
  rcases h2 with h2 | ⟨g, cap, cur, rfl, hb, hg, rest⟩
  · exact Or.inl h2
  · exact Or.inr ⟨g, cap, cur, rfl, hb, (q.1.block g (Array.getElem?_eq_some_iff.1 hg).1).trans hg, rest⟩
theorem OwnR.usl {w0 w : World} {v : Value} {L : List Nat} (h : OwnR w0 w v L) : USl w v L := by
  obtain ⟨⟨_, ⟨rfl, h0⟩ | ⟨g, cap, cur, rfl, _, hh, hc, _, hsz, ht⟩⟩, _⟩ := h
  · exact Or.inr ⟨_, _, rfl, List.eq_nil_of_length_eq_zero h0⟩
  · refine Or.inl ⟨g, 0, cap, rfl, hc, fun i hi => ?_⟩
    have hg : cur.toList[i]? = some (.int .u32 ((L.getD i 0 : Nat) : Int)) := by
      have e : (cur.toList.take (L.length * 1))[i]? = (newsR L)[i]? := by rw [ht]
      rw [List.getElem?_take, if_pos (by omega)] at e
      rw [e]
      unfold newsR
      rw [List.getElem?_map, List.getElem?_eq_getElem hi, List.getD_eq_getElem?_getD, List.getElem?_eq_getElem hi]
      rfl
    unfold World.cell?
    simp only [hh, Nat.zero_add]
    rw [Array.getElem?_toList] at hg
    exact hg
theorem wpList_addR (w w0 : World) {ops : Array Oper} {rest : List Oper} {o : Oper} {a : Act} {R : Exit → Act → World → Prop} (hgd : o.guard = none) (s x : Operand)
    (ho : o.op = .call { callee := .builtin .append, args := #[s, x], argTypes := #[24, 24] })
    (v : Value) (L : List Nat) (hs : a.eval s = v) (hown : OwnR w0 w v L)
    (g0 : Nat) (u : Nat) (hx : a.eval x = .slice (some ⟨g0, 0, none⟩) 1 1) (hu : w.cell? ⟨g0, 0, none⟩ = some (.int .u32 (u : Int))) (h63 : L.length + 1 ≤ 100000)
    (h : ∀ v' w', OwnR w0 w' v' (L ++ [u]) → wpList Tryz.prog ops R rest (a.put o.dst v') w') :
    wpList Tryz.prog ops R (o :: rest) a w := by
  obtain ⟨iu, i1, i2, i3, i4⟩ := u32Info
  refine wpList_plain hgd fun _ hK => ?_
  unfold Oper.wp execOp
  have hap : newsR (L ++ [u]) = newsR L ++ [.int .u32 (u : Int)] := by simp [newsR]
  obtain ⟨g, cap, w', hr, ho2, hq, hgb, hgg⟩ := run_app_qg (P := Tryz.prog) w w0 hown.2 24 o.type 43 iu _ 1 4 Tryz.underlying24 i1 i4 i2 i3 rfl (by decide) v L.length (newsR L) hown.1 ⟨g0, 0, none⟩ 1 1 [.int .u32 (u : Int)] rfl (fun j z hz => by
    cases j with
    | zero => cases hz; exact hu
    | succ j => cases hz) (fun z hz => by rw [List.mem_singleton.1 hz]; rfl) (by decide) (by unfold maxLen; omega) (by omega)
  simp only [ho, resolve, invoke, builtin, Sem.run_bind, Sem.run_pure, Result.andThen_ok, List.map_toArray, List.map_cons, List.map_nil, hs, hx, hr]
  rw [← hap] at ho2
  refine hK _ _ (h _ w' ⟨?_, hq⟩)
  rw [List.length_append]; exact ho2
end Go.Proofs.YtieojgblamkgoaaGreatDoor

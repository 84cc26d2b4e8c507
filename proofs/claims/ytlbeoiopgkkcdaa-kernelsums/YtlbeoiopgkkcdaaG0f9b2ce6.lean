/- Appending to a list without room: what lies where. -/
import Derived.Test.YtlbeoiopgkkcdaaG5a24c025
import Derived.Laws.Append
import Derived.Laws.AppendOwn
import Derived.OwnWalk
import Derived.Test.YtlbeoiopgkkcdaaG5f31e9cc
namespace Go.Proofs.Ytlbeoiopgkkcdaa
open Go.RowKit

theorem run_app_new {P : Program} (w : World) (t ty e : TypeId) (i : TypeInfo) (z : Value) (ht : P.underlying t = some (.slice e)) (hi : P.info? e = some i) (hz : i.zero = some z)
    (v : Value) (hv : v = .slice none 0 0 ∨ ∃ b, v = .slice (some b) 0 0) (ad : Addr) (m c : Nat) (news : List Value) (hl : news.length = m * i.size) (hnews : ∀ j u, news[j]? = some u → w.cell? (ad.add j) = some u)
    (h0 : 0 < m) (h63 : m ≤ 1125899906842624) (hby : m * i.bytes ≤ 140737488355328) :
    ∃ cap w', (Builtin.append_ #[t, t] ty #[v, .slice (some ad) m c]).run P w = .ok (.slice (some ⟨w.heap.size, 0, none⟩) m cap) w' ∧ Q w w' ∧ m ≤ cap ∧ w'.heap.size = w.heap.size + 1 ∧
      (∀ j u, news[j]? = some u → w'.cell? ⟨w.heap.size, j, none⟩ = some u) ∧ ∀ j, w'.frozen? ⟨w.heap.size, j, none⟩ = false := by
  have fin : ∀ (cs : Array Value), (∀ (j : Nat) (u : Value), news[j]? = some u → cs[j]? = some u) → Q w (w.drew.alloc (.cells cs e)) ∧ (w.drew.alloc (.cells cs e)).heap.size = w.heap.size + 1 ∧
      (∀ (j : Nat) (u : Value), news[j]? = some u → (w.drew.alloc (.cells cs e)).cell? ⟨w.heap.size, j, none⟩ = some u) ∧ ∀ j, (w.drew.alloc (.cells cs e)).frozen? ⟨w.heap.size, j, none⟩ = false := by
    intro cs hcs
    have hb : (w.drew.alloc (.cells cs e)).heap[w.heap.size]? = some (.cells cs e (0, 0)) := heap_alloc_new w.drew _
    refine ⟨(Q.refl w).drew.cells _ _, by simp, fun j u hu => ?_, fun j => frozen_of_row _ _ _ _ _ hb⟩
    rw [cell_of_row _ _ j cs e (0, 0) hb]
    exact hcs j u hu
  have key : ∀ (n : Nat) (j : Nat) (u : Value), news[j]? = some u → (news.toArray ++ Builtin.zeroCells z.cells n)[j]? = some u := by
    intro n j u hu
    have hj : j < news.length := (List.getElem?_eq_some_iff.1 hu).1
    rw [Array.getElem?_append_left (by simpa using hj)]
    simpa using hu
  rcases hv with rfl | ⟨b, rfl⟩
  · have hr := run_append_nil (P := P) w t ty e i z ht hi hz ad m c news hl hnews h0 (by omega) (by omega)
    obtain ⟨q1, q2, q3, q4⟩ := fin _ (key (grownCap w m 0 e - m))
    exact ⟨_, _, hr, q1, grownCap_ge w m 0 e, q2, q3, q4⟩
  · have hr := run_append_grow (P := P) w t ty e i z ht hi hz b 0 0 [] (by simp) (fun j v h => by simp at h) ad m c news hl hnews (by omega) (by omega) (growslice_fits (by omega) (by rw [Nat.zero_add]; exact hby))
    simp only [Nat.zero_add, Array.empty_append] at hr
    obtain ⟨q1, q2, q3, q4⟩ := fin _ (key (grownCap w m 0 e - m))
    exact ⟨_, _, hr, q1, grownCap_ge w m 0 e, q2, q3, q4⟩

/-- In a list of operations. -/
theorem wpList_app {P : Program} (w : World) {ops : Array Oper} {rest : List Oper} {o : Oper} {a : Act} {R : Exit → Act → World → Prop} (hgd : o.guard = none) (s x : Operand) (t : TypeId)
    (ho : o.op = .call { callee := .builtin .append, args := #[s, x], argTypes := #[t, t] })
    (e : TypeId) (i : TypeInfo) (z : Value) (ht : P.underlying t = some (.slice e)) (hi : P.info? e = some i) (hz : i.zero = some z)
    (v : Value) (hv : v = .slice none 0 0 ∨ ∃ b, v = .slice (some b) 0 0) (hs : a.eval s = v) (ad : Addr) (m c : Nat) (news : List Value) (hx : a.eval x = .slice (some ad) m c) (hl : news.length = m * i.size) (hnews : ∀ j u, news[j]? = some u → w.cell? (ad.add j) = some u)
    (h0 : 0 < m) (h63 : m ≤ 1125899906842624) (hby : m * i.bytes ≤ 140737488355328)
    (h : ∀ cap w', Q w w' → m ≤ cap → w'.heap.size = w.heap.size + 1 → (∀ j u, news[j]? = some u → w'.cell? ⟨w.heap.size, j, none⟩ = some u) → (∀ j, w'.frozen? ⟨w.heap.size, j, none⟩ = false) → wpList P ops R rest (a.put o.dst (.slice (some ⟨w.heap.size, 0, none⟩) m cap)) w') :
    wpList P ops R (o :: rest) a w := by
  obtain ⟨cap, w', hr, h1, h2, h3, h4, h5⟩ := run_app_new (P := P) w t o.type e i z ht hi hz v hv ad m c news hl hnews h0 h63 hby
  refine wpList_plain hgd fun _ hK => ?_
  unfold Oper.wp execOp
  simp only [ho, resolve, invoke, builtin, Sem.run_bind, Sem.run_pure, Result.andThen_ok, List.map_toArray, List.map_cons, List.map_nil, hs, hx, hr]
  exact hK _ _ (h cap w' h1 h2 h3 h4 h5)
end Go.Proofs.Ytlbeoiopgkkcdaa
/- Lists lent out. -/
namespace Go.Proofs.Ytlbeoiopgkkcdaa
open Go.RowKit
set_option linter.unusedVariables false
set_option linter.unusedSimpArgs false

theorem run_app_zeroI {P : Program} (w : World) (t ty e : TypeId) (i : TypeInfo) (ht : P.underlying t = some (.slice e)) (hi : P.info? e = some i) (a : Option Addr) (c : Nat) : (Builtin.append_ #[t, t] ty #[.slice none 0 0, .slice a 0 c]).run P w = .ok (.slice none 0 0) w := by
  cases a <;> simp [Builtin.append_, run_underlying ht, sizeOf, typeInfo, hi, Builtin.lenOf, Builtin.firstCells, loadCells, loadCellsFrom]
/-- Appending weights to nothing. -/
theorem wpList_lendI (w : World) {ops : Array Oper} {rest : List Oper} {o : Oper} {a : Act} {R : Exit → Act → World → Prop} (hgd : o.guard = none) (x : Operand)
    (ho : o.op = .call { callee := .builtin .append, args := #[.const (.slice none 0 0), x], argTypes := #[36, 36] })
    (ad : Option Addr) (n c : Nat) (xs : List Int) (hn : xs.length = n) (h100 : n ≤ 2000) (hx : a.eval x = .slice ad n c) (hS : ISl w (.slice ad n c) xs)
    (h : ∀ la lc w', Q w w' → ISl w' (.slice la n lc) xs → wpList Try.prog ops R rest (a.put o.dst (.slice la n lc)) w') :
    wpList Try.prog ops R (o :: rest) a w := by
  obtain ⟨iu, i1, i2, i3, i4⟩ := iInfo
  refine wpList_plain hgd fun _ hK => ?_
  unfold Oper.wp execOp
  by_cases h0 : n = 0
  · subst h0
    have hr := run_app_zeroI (P := Try.prog) w 36 o.type 3 iu Try.underlying36 i1 ad c
    simp only [ho, resolve, invoke, builtin, Sem.run_bind, Sem.run_pure, Result.andThen_ok, List.map_toArray, List.map_cons, List.map_nil, Act.eval, hr]
    simp only [Act.eval] at hx
    rw [hx, hr]
    exact hK _ _ (h none 0 w (Q.refl w) (Or.inr ⟨_, _, rfl, List.length_eq_zero_iff.1 hn⟩))
  · obtain ⟨g, o', c', e1, e3⟩ := hS.some (by omega)
    have hx' := hx
    rw [e1] at hx'
    obtain ⟨lc, w', hr, q1, q2, q3, q4, q5⟩ := run_app_new (P := Try.prog) w 36 o.type 3 iu _ Try.underlying36 i1 i4 _ (Or.inl rfl) ⟨g, o', none⟩ xs.length c' (xs.map fun (x : Int) => Value.int .i64 x) (by rw [i2, List.length_map, Nat.mul_one]) (fun j u hj => by
      rw [List.getElem?_map] at hj
      have hjl : j < xs.length := by
        cases g : xs[j]? with
        | none => rw [g] at hj; cases hj
        | some y => exact (List.getElem?_eq_some_iff.1 g).1
      rw [show (⟨g, o', none⟩ : Addr).add j = ⟨g, o' + j, none⟩ by unfold Addr.add; split <;> simp_all]
      rw [e3 j hjl, List.getD_eq_getElem?_getD]
      rw [List.getElem?_eq_getElem hjl] at hj ⊢
      exact hj) (by omega) (by omega) (by rw [i3]; omega)
    simp only [ho, resolve, invoke, builtin, Sem.run_bind, Sem.run_pure, Result.andThen_ok, List.map_toArray, List.map_cons, List.map_nil, Act.eval]
    simp only [Act.eval] at hx'
    rw [hx', hr]
    refine hK _ _ ?_
    have hh := h (some ⟨w.heap.size, 0, none⟩) lc w' q1 (Or.inl ⟨w.heap.size, 0, lc, by rw [hn], fun j hj => ?_⟩)
    · rw [hn]; exact hh
    · rw [Nat.zero_add]
      refine q4 j _ ?_
      rw [List.getElem?_map, List.getD_eq_getElem?_getD, List.getElem?_eq_getElem hj]; rfl
end Go.Proofs.Ytlbeoiopgkkcdaa

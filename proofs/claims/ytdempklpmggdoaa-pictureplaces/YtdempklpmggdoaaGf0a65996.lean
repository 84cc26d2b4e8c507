/- Appending to a list without room: what lies where. -/
import Derived.Test.YtdempklpmggdoaaG5a5b3126
import Derived.Laws.Append
import Derived.Laws.AppendOwn
import Derived.OwnWalk
namespace Go.Proofs.Ytdempklpmggdoaa
open Go.RowKit

theorem run_app_new {P : Program} (w : World) (t ty e : TypeId) (i : TypeInfo) (z : Value) (ht : P.underlying t = some (.slice e)) (hi : P.info? e = some i) (hz : i.zero = some z)
    (v : Value) (hv : v = .slice none 0 0 ∨ ∃ b, v = .slice (some b) 0 0) (ad : Addr) (m c : Nat) (news : List Value) (hl : news.length = m * i.size) (hnews : ∀ j u, news[j]? = some u → w.cell? (ad.add j) = some u)
    (h0 : 0 < m) (h63 : m ≤ 1125899906842624) (hby : m * i.bytes ≤ 140737488355328) :
    ∃ cap w', (Builtin.append_ #[t, t] ty #[v, .slice (some ad) m c]).run P w = .ok (.slice (some ⟨w.heap.size, 0, none⟩) m cap) w' ∧ Q w w' ∧ m ≤ cap ∧ w'.heap.size = w.heap.size + 1 ∧
      (∀ j u, news[j]? = some u → w'.cell? ⟨w.heap.size, j, none⟩ = some u) ∧ ∀ j, w'.frozen? ⟨w.heap.size, j, none⟩ = false := by
  have fin : ∀ (cs : Array Value), (∀ (j : Nat) (u : Value), news[j]? = some u → cs[j]? = some u) → Q w (w.drew.alloc (.cells cs e)) ∧ (w.drew.alloc (.cells cs e)).heap.size = w.heap.size + 1 ∧
      (∀ (j : Nat) (u : Value), news[j]? = some u → (w.drew.alloc (.cells cs e)).cell? ⟨w.heap.size, j, none⟩ = some u) ∧ ∀ j, (w.drew.alloc (.cells cs e)).frozen? ⟨w.heap.size, j, none⟩ = false := by
    intro cs hcs
    have hb : (w.drew.alloc (.cells cs e)).heap[w.heap.size]? = some (.cells cs e (0, 0)) := heap_alloc_new w.drew _
    refine ⟨(Q.refl w).drew.cells _ _, by simp, fun j u hu => ?_, fun j => frozen_of_row _ _ _ _ _ hb⟩
    rw [cell_of_row _ _ j cs e (0, 0) hb]
    exact hcs j u hu
  have key : ∀ (n : Nat) (j : Nat) (u : Value), news[j]? = some u → (news.toArray ++ Builtin.zeroCells z.cells n)[j]? = some u := by
    intro n j u hu
    have hj : j < news.length := (List.getElem?_eq_some_iff.1 hu).1
    rw [Array.getElem?_append_left (by simpa using hj)]
    simpa using hu
  rcases hv with rfl | ⟨b, rfl⟩
  · have hr := run_append_nil (P := P) w t ty e i z ht hi hz ad m c news hl hnews h0 (by omega) (by omega)
    obtain ⟨q1, q2, q3, q4⟩ := fin _ (key (grownCap w m 0 e - m))
    exact ⟨_, _, hr, q1, grownCap_ge w m 0 e, q2, q3, q4⟩
  · have hr := run_append_grow (P := P) w t ty e i z ht hi hz b 0 0 [] (by simp) (fun j v h => by simp at h) ad m c news hl hnews (by omega) (by omega) (growslice_fits (by omega) (by rw [Nat.zero_add]; exact hby))
    simp only [Nat.zero_add, Array.empty_append] at hr
    obtain ⟨q1, q2, q3, q4⟩ := fin _ (key (grownCap w m 0 e - m))
    exact ⟨_, _, hr, q1, grownCap_ge w m 0 e, q2, q3, q4⟩

/-- In a list of operations. -/
theorem wpList_app {P : Program} (w : World) {ops : Array Oper} {rest : List Oper} {o : Oper} {a : Act} {R : Exit → Act → World → Prop} (hgd : o.guard = none) (s x : Operand) (t : TypeId)
    (ho : o.op = .call { callee := .builtin .append, args := #[s, x], argTypes := #[t, t] })
    (e : TypeId) (i : TypeInfo) (z : Value) (ht : P.underlying t = some (.slice e)) (hi : P.info? e = some i) (hz : i.zero = some z)
    (v : Value) (hv : v = .slice none 0 0 ∨ ∃ b, v = .slice (some b) 0 0) (hs : a.eval s = v) (ad : Addr) (m c : Nat) (news : List Value) (hx : a.eval x = .slice (some ad) m c) (hl : news.length = m * i.size) (hnews : ∀ j u, news[j]? = some u → w.cell? (ad.add j) = some u)
    (h0 : 0 < m) (h63 : m ≤ 1125899906842624) (hby : m * i.bytes ≤ 140737488355328)
    (h : ∀ cap w', Q w w' → m ≤ cap → w'.heap.size = w.heap.size + 1 → (∀ j u, news[j]? = some u → w'.cell? ⟨w.heap.size, j, none⟩ = some u) → (∀ j, w'.frozen? ⟨w.heap.size, j, none⟩ = false) → wpList P ops R rest (a.put o.dst (.slice (some ⟨w.heap.size, 0, none⟩) m cap)) w') :
    wpList P ops R (o :: rest) a w := by
  obtain ⟨cap, w', hr, h1, h2, h3, h4, h5⟩ := run_app_new (P := P) w t o.type e i z ht hi hz v hv ad m c news hl hnews h0 h63 hby
  refine wpList_plain hgd fun _ hK => ?_
  unfold Oper.wp execOp
  simp only [ho, resolve, invoke, builtin, Sem.run_bind, Sem.run_pure, Result.andThen_ok, List.map_toArray, List.map_cons, List.map_nil, hs, hx, hr]
  exact hK _ _ (h cap w' h1 h2 h3 h4 h5)
end Go.Proofs.Ytdempklpmggdoaa

/- Appending to a list without room: what lies where. -/
import Derived.Test.YtdbbpmadkhedlaaG933c5a4e
import Derived.Laws.Append
import Derived.Laws.AppendOwn
import Derived.OwnWalk
import Derived.Test.YtdbbpmadkhedlaaG17fb7a69
import Derived.Test.YtdbbpmadkhedlaaG0e643b20
import Derived.Test.YtdbbpmadkhedlaaGd414b444
import Derived.Test.YtdbbpmadkhedlaaGfc8d9c6d
import Derived.Test.YtdbbpmadkhedlaaGb0e9e536
namespace Go.Proofs.Ytdbbpmadkhedlaa
open Go.RowKit

theorem run_app_new {P : Program} (w : World) (t ty e : TypeId) (i : TypeInfo) (z : Value) (ht : P.underlying t = some (.slice e)) (hi : P.info? e = some i) (hz : i.zero = some z)
    (v : Value) (hv : v = .slice none 0 0 ∨ ∃ b, v = .slice (some b) 0 0) (ad : Addr) (m c : Nat) (news : List Value) (hl : news.length = m * i.size) (hnews : ∀ j u, news[j]? = some u → w.cell? (ad.add j) = some u)
    (h0 : 0 < m) (h63 : m ≤ 1125899906842624) (hby : m * i.bytes ≤ 140737488355328) :
    ∃ cap w', (Builtin.append_ #[t, t] ty #[v, .slice (some ad) m c]).run P w = .ok (.slice (some ⟨w.heap.size, 0, none⟩) m cap) w' ∧ Q w w' ∧ m ≤ cap ∧ w'.heap.size = w.heap.size + 1 ∧
      (∀ j u, news[j]? = some u → w'.cell? ⟨w.heap.size, j, none⟩ = some u) ∧ ∀ j, w'.frozen? ⟨w.heap.size, j, none⟩ = false := by
  have fin : ∀ (cs : Array Value), (∀ (j : Nat) (u : Value), news[j]? = some u → cs[j]? = some u) → Q w (w.drew.alloc (.cells cs e)) ∧ (w.drew.alloc (.cells cs e)).heap.size = w.heap.size + 1 ∧
      (∀ (j : Nat) (u : Value), news[j]? = some u → (w.drew.alloc (.cells cs e)).cell? ⟨w.heap.size, j, none⟩ = some u) ∧ ∀ j, (w.drew.alloc (.cells cs e)).frozen? ⟨w.heap.size, j, none⟩ = false := by
    intro cs hcs
    have hb : (w.drew.alloc (.cells cs e)).heap[w.heap.size]? = some (.cells cs e (0, 0)) := heap_alloc_new w.drew _
    refine ⟨(Q.refl w).drew.cells _ _, by simp, fun j u hu => ?_, fun j => frozen_of_row _ _ _ _ _ hb⟩
    rw [cell_of_row _ _ j cs e (0, 0) hb]
    exact hcs j u hu
  have key : ∀ (n : Nat) (j : Nat) (u : Value), news[j]? = some u → (news.toArray ++ Builtin.zeroCells z.cells n)[j]? = some u := by
    intro n j u hu
    have hj : j < news.length := (List.getElem?_eq_some_iff.1 hu).1
    rw [Array.getElem?_append_left (by simpa using hj)]
    simpa using hu
  rcases hv with rfl | ⟨b, rfl⟩
  · have hr := run_append_nil (P := P) w t ty e i z ht hi hz ad m c news hl hnews h0 (by omega) (by omega)
    obtain ⟨q1, q2, q3, q4⟩ := fin _ (key (grownCap w m 0 e - m))
    exact ⟨_, _, hr, q1, grownCap_ge w m 0 e, q2, q3, q4⟩
  · have hr := run_append_grow (P := P) w t ty e i z ht hi hz b 0 0 [] (by simp) (fun j v h => by simp at h) ad m c news hl hnews (by omega) (by omega) (growslice_fits (by omega) (by rw [Nat.zero_add]; exact hby))
    simp only [Nat.zero_add, Array.empty_append] at hr
    obtain ⟨q1, q2, q3, q4⟩ := fin _ (key (grownCap w m 0 e - m))
    exact ⟨_, _, hr, q1, grownCap_ge w m 0 e, q2, q3, q4⟩

/-- In a list of operations. -/
theorem wpList_app {P : Program} (w : World) {ops : Array Oper} {rest : List Oper} {o : Oper} {a : Act} {R : Exit → Act → World → Prop} (hgd : o.guard = none) (s x : Operand) (t : TypeId)
    (ho : o.op = .call { callee := .builtin .append, args := #[s, x], argTypes := #[t, t] })
    (e : TypeId) (i : TypeInfo) (z : Value) (ht : P.underlying t = some (.slice e)) (hi : P.info? e = some i) (hz : i.zero = some z)
    (v : Value) (hv : v = .slice none 0 0 ∨ ∃ b, v = .slice (some b) 0 0) (hs : a.eval s = v) (ad : Addr) (m c : Nat) (news : List Value) (hx : a.eval x = .slice (some ad) m c) (hl : news.length = m * i.size) (hnews : ∀ j u, news[j]? = some u → w.cell? (ad.add j) = some u)
    (h0 : 0 < m) (h63 : m ≤ 1125899906842624) (hby : m * i.bytes ≤ 140737488355328)
    (h : ∀ cap w', Q w w' → m ≤ cap → w'.heap.size = w.heap.size + 1 → (∀ j u, news[j]? = some u → w'.cell? ⟨w.heap.size, j, none⟩ = some u) → (∀ j, w'.frozen? ⟨w.heap.size, j, none⟩ = false) → wpList P ops R rest (a.put o.dst (.slice (some ⟨w.heap.size, 0, none⟩) m cap)) w') :
    wpList P ops R (o :: rest) a w := by
  obtain ⟨cap, w', hr, h1, h2, h3, h4, h5⟩ := run_app_new (P := P) w t o.type e i z ht hi hz v hv ad m c news hl hnews h0 h63 hby
  refine wpList_plain hgd fun _ hK => ?_
  unfold Oper.wp execOp
  simp only [ho, resolve, invoke, builtin, Sem.run_bind, Sem.run_pure, Result.andThen_ok, List.map_toArray, List.map_cons, List.map_nil, hs, hx, hr]
  exact hK _ _ (h cap w' h1 h2 h3 h4 h5)
end Go.Proofs.Ytdbbpmadkhedlaa
/- Appending samples: a copy of a list; one more sample behind a list of the call's own. -/
namespace Go.Proofs.Ytdbbpmadkhedlaa
open Go.RowKit
set_option linter.unusedVariables false
set_option linter.unusedSimpArgs false

def newsR (S : List Nat) : List Value := S.map fun (x : Nat) => .int .u32 (x : Int)
theorem newsR_at {S : List Nat} {j : Nat} {u : Value} (h : (newsR S)[j]? = some u) : j < S.length ∧ u = .int .u32 ((S.getD j 0 : Nat) : Int) := by
  unfold newsR at h
  rw [List.getElem?_map] at h
  cases hj : S[j]? with
  | none => rw [hj] at h; cases h
  | some x =>
    rw [hj] at h
    simp only [Option.map_some, Option.some.injEq] at h
    refine ⟨(List.getElem?_eq_some_iff.1 hj).1, ?_⟩
    rw [List.getD_eq_getElem?_getD, hj, ← h]; rfl
theorem run_app_zeroR {P : Program} (w : World) (t ty e : TypeId) (i : TypeInfo) (ht : P.underlying t = some (.slice e)) (hi : P.info? e = some i) (a : Option Addr) (c : Nat) : (Builtin.append_ #[t, t] ty #[.slice none 0 0, .slice a 0 c]).run P w = .ok (.slice none 0 0) w := by
  cases a <;> simp [Builtin.append_, run_underlying ht, sizeOf, typeInfo, hi, Builtin.lenOf, Builtin.firstCells, loadCells, loadCellsFrom, storeCells]
theorem wpList_copyR (w : World) {ops : Array Oper} {rest : List Oper} {o : Oper} {a : Act} {R : Exit → Act → World → Prop} (hgd : o.guard = none) (x : Operand)
    (ho : o.op = .call { callee := .builtin .append, args := #[.const (.slice none 0 0), x], argTypes := #[31, 31] })
    (ad : Option Addr) (n c : Nat) (S : List Nat) (hn : S.length = n) (h100 : n ≤ 2000) (hx : a.eval x = .slice ad n c) (hS : USl w (.slice ad n c) S)
    (h : ∀ la lc w', Q w w' → USl w' (.slice la n lc) S → wpList Try.prog ops R rest (a.put o.dst (.slice la n lc)) w') :
    wpList Try.prog ops R (o :: rest) a w := by
  obtain ⟨iu, i1, i2, i3, i4⟩ := u32Info
  refine wpList_plain hgd fun _ hK => ?_
  unfold Oper.wp execOp
  by_cases h0 : n = 0
  · subst h0
    have hr := run_app_zeroR (P := Try.prog) w 31 o.type 34 iu Try.underlying31 i1 ad c
    simp only [ho, resolve, invoke, builtin, Sem.run_bind, Sem.run_pure, Result.andThen_ok, List.map_toArray, List.map_cons, List.map_nil, Act.eval, hr]
    simp only [Act.eval] at hx
    rw [hx, hr]
    exact hK _ _ (h none 0 w (Q.refl w) (Or.inr ⟨_, _, rfl, List.eq_nil_of_length_eq_zero hn⟩))
  · obtain ⟨g, o', c', e1, hcap, e3⟩ := hS.some (by omega)
    have hx' := hx
    rw [e1] at hx'
    have hl : (newsR S).length = S.length := by simp [newsR]
    obtain ⟨lc, w', hr, q1, q2, q3, q4, q5⟩ := run_app_new (P := Try.prog) w 31 o.type 34 iu _ Try.underlying31 i1 i4 _ (Or.inl rfl) ⟨g, o', none⟩ S.length c' (newsR S) (by rw [i2, hl, Nat.mul_one]) (fun j u hu => by
      obtain ⟨hj, rfl⟩ := newsR_at hu
      rw [show (⟨g, o', none⟩ : Addr).add j = ⟨g, o' + j, none⟩ by unfold Addr.add; split <;> simp_all]
      exact e3 j hj) (by omega) (by omega) (by rw [i3]; omega)
    simp only [ho, resolve, invoke, builtin, Sem.run_bind, Sem.run_pure, Result.andThen_ok, List.map_toArray, List.map_cons, List.map_nil, Act.eval]
    simp only [Act.eval] at hx'
    rw [hx', hr]
    refine hK _ _ ?_
    have hh := h (some ⟨w.heap.size, 0, none⟩) lc w' q1 (Or.inl ⟨w.heap.size, 0, lc, by rw [hn], by omega, fun j hj => ?_⟩)
    · rw [hn]; exact hh
    · rw [Nat.zero_add]
      refine q4 j _ ?_
      unfold newsR
      rw [List.getElem?_map, List.getD_eq_getElem?_getD, List.getElem?_eq_getElem hj]; rfl
/-- A list of the call's own, to which samples are appended. -/
def OwnR (w0 w : World) (v : Value) (L : List Nat) : Prop := w.ownsRow w0.heap.size 34 1 v L.length (newsR L) ∧ Q w0 w
theorem OwnR.start (w0 w : World) (q : Q w0 w) : OwnR w0 w (.slice none 0 0) [] := ⟨⟨rfl, Or.inl ⟨rfl, rfl⟩⟩, q⟩
theorem OwnR.next {w0 w w' : World} {v : Value} {L : List Nat} (h : OwnR w0 w v L) (q : Q w w') : OwnR w0 w' v L := by
  obtain ⟨⟨h1, h2⟩, hq⟩ := h
  refine ⟨⟨h1, ?_⟩, hq.trans q⟩
  rcases h2 with h2 | ⟨g, cap, cur, rfl, hb, hg, rest⟩
  · exact Or.inl h2
  · exact Or.inr ⟨g, cap, cur, rfl, hb, (q.1.block g (Array.getElem?_eq_some_iff.1 hg).1).trans hg, rest⟩
theorem OwnR.usl {w0 w : World} {v : Value} {L : List Nat} (h : OwnR w0 w v L) : USl w v L := by
  obtain ⟨⟨_, ⟨rfl, h0⟩ | ⟨g, cap, cur, rfl, _, hh, hc, _, hsz, ht⟩⟩, _⟩ := h
  · exact Or.inr ⟨_, _, rfl, List.eq_nil_of_length_eq_zero h0⟩
  · refine Or.inl ⟨g, 0, cap, rfl, hc, fun i hi => ?_⟩
    have hg : cur.toList[i]? = some (.int .u32 ((L.getD i 0 : Nat) : Int)) := by
      have e : (cur.toList.take (L.length * 1))[i]? = (newsR L)[i]? := by rw [ht]
      rw [List.getElem?_take, if_pos (by omega)] at e
      rw [e]
      unfold newsR
      rw [List.getElem?_map, List.getElem?_eq_getElem hi, List.getD_eq_getElem?_getD, List.getElem?_eq_getElem hi]
      rfl
    unfold World.cell?
    simp only [hh, Nat.zero_add]
    rw [Array.getElem?_toList] at hg
    exact hg
theorem wpList_addR (w w0 : World) {ops : Array Oper} {rest : List Oper} {o : Oper} {a : Act} {R : Exit → Act → World → Prop} (hgd : o.guard = none) (s x : Operand)
    (ho : o.op = .call { callee := .builtin .append, args := #[s, x], argTypes := #[31, 31] })
    (v : Value) (L : List Nat) (hs : a.eval s = v) (hown : OwnR w0 w v L)
    (g0 : Nat) (u : Nat) (hx : a.eval x = .slice (some ⟨g0, 0, none⟩) 1 1) (hu : w.cell? ⟨g0, 0, none⟩ = some (.int .u32 (u : Int))) (h63 : L.length + 1 ≤ 100000)
    (h : ∀ v' w', OwnR w0 w' v' (L ++ [u]) → wpList Try.prog ops R rest (a.put o.dst v') w') :
    wpList Try.prog ops R (o :: rest) a w := by
  obtain ⟨iu, i1, i2, i3, i4⟩ := u32Info
  refine wpList_plain hgd fun _ hK => ?_
  unfold Oper.wp execOp
  have hap : newsR (L ++ [u]) = newsR L ++ [.int .u32 (u : Int)] := by simp [newsR]
  obtain ⟨g, cap, w', hr, ho2, hq, hgb, hgg⟩ := run_app_qg (P := Try.prog) w w0 hown.2 31 o.type 34 iu _ 1 4 Try.underlying31 i1 i4 i2 i3 rfl (by decide) v L.length (newsR L) hown.1 ⟨g0, 0, none⟩ 1 1 [.int .u32 (u : Int)] rfl (fun j z hz => by
    cases j with
    | zero => cases hz; exact hu
    | succ j => cases hz) (fun z hz => by rw [List.mem_singleton.1 hz]; rfl) (by decide) (by unfold maxLen; omega) (by omega)
  simp only [ho, resolve, invoke, builtin, Sem.run_bind, Sem.run_pure, Result.andThen_ok, List.map_toArray, List.map_cons, List.map_nil, hs, hx, hr]
  rw [← hap] at ho2
  refine hK _ _ (h _ w' ⟨?_, hq⟩)
  rw [List.length_append]; exact ho2
end Go.Proofs.Ytdbbpmadkhedlaa
/- Rows of values in memory, told by a function of the place. -/
namespace Go.Proofs.Ytdbbpmadkhedlaa
open Go.RowKit
set_option linter.unusedVariables false
set_option linter.unusedSimpArgs false

/-- A row of values that may be written. -/
structure VR (x : World) (g n : Nat) (F : Nat → Value) : Prop where
  cell : ∀ i, i < n → x.cell? ⟨g, i, none⟩ = some (F i)
  free : ∀ j, x.frozen? ⟨g, j, none⟩ = false
theorem VR.next {x x' : World} {g n : Nat} {F : Nat → Value} (h : VR x g n F) (q : Q x x') : VR x' g n F := ⟨fun i hi => q.cell (h.cell i hi), fun j => by rw [q.2]; exact h.free j⟩
theorem VR.other {x : World} {g n : Nat} {F : Nat → Value} (h : VR x g n F) {p : Addr} (hp : p.block ≠ g) (v : Value) : VR (x.setCell p v) g n F :=
  ⟨fun i hi => (World.cell?_setCell_other _ _ _ _ (fun e => hp (by rw [e]))).trans (h.cell i hi), fun j => by rw [World.frozen?_setCell]; exact h.free j⟩
theorem VR.put {x : World} {g n : Nat} {F G : Nat → Value} (h : VR x g n F) {i : Nat} (hi : i < n) {v : Value} (hv : G i = v) (ho : ∀ j, j < n → j ≠ i → G j = F j) : VR (x.setCell ⟨g, i, none⟩ v) g n G := by
  refine ⟨fun j hj => ?_, fun j => by rw [World.frozen?_setCell]; exact h.free j⟩
  by_cases e : j = i
  · subst e; rw [hv]; exact World.cell?_setCell_same _ _ _ (h.cell j hi)
  · rw [ho j hj e]
    exact (World.cell?_setCell_other _ _ _ _ (fun k => e (by injection k with _ k; exact k.symm))).trans (h.cell j hj)
theorem VR.congr {x : World} {g n : Nat} {F G : Nat → Value} (h : VR x g n F) (hG : ∀ j, j < n → G j = F j) : VR x g n G := ⟨fun i hi => by rw [hG i hi]; exact h.cell i hi, h.free⟩
theorem VR.lt {x : World} {g n : Nat} {F : Nat → Value} (h : VR x g n F) (hn : 1 ≤ n) : g < x.heap.size := World.block_lt_of_cell? _ _ (h.cell 0 hn)
/-- What lies there by now. -/
def sofar (L : Nat → Value) (z : Value) (k : Nat) (j : Nat) : Value := if j < k then L j else z
theorem sofar_zero (L : Nat → Value) (z : Value) : sofar L z 0 = fun _ => z := by funext j; unfold sofar; rw [if_neg (by omega)]
theorem sofar_step {L : Nat → Value} {z : Value} {k n : Nat} : (∀ j, j < n → j ≠ k → sofar L z (k + 1) j = sofar L z k j) ∧ sofar L z (k + 1) k = L k := by
  refine ⟨fun j hj he => ?_, by unfold sofar; rw [if_pos (by omega)]⟩
  unfold sofar
  by_cases h : j < k
  · rw [if_pos h, if_pos (by omega)]
  · rw [if_neg h, if_neg (by omega)]
theorem sofar_all {L : Nat → Value} {z : Value} {n j : Nat} (h : j < n) : sofar L z n j = L j := by unfold sofar; rw [if_pos h]
theorem VR.fill {x : World} {g n k : Nat} {L : Nat → Value} {z v : Value} (h : VR x g n (sofar L z k)) (hk : k < n) (hv : v = L k) : VR (x.setCell ⟨g, k, none⟩ v) g n (sofar L z (k + 1)) :=
  h.put hk (by rw [hv]; exact (sofar_step (n := n)).2) (sofar_step (n := n)).1
theorem VR.full {x : World} {g n : Nat} {L : Nat → Value} {z : Value} (h : VR x g n (sofar L z n)) : VR x g n L := h.congr fun j hj => (sofar_all hj).symm
theorem made_vr {z : Value} (hz : z.cells = #[z]) (e : TypeId) (n : Nat) (w : World) : VR (w.alloc (.cells (madeCells z.cells (n * 1)) e)) w.heap.size n (fun _ => z) := by
  have hb : (w.alloc (.cells (madeCells z.cells (n * 1)) e)).heap[w.heap.size]? = some (.cells (madeCells z.cells (n * 1)) e (0, 0)) := heap_alloc_new w _
  refine ⟨fun j hj => ?_, fun j => frozen_of_row _ _ _ _ _ hb⟩
  rw [cell_of_row _ _ j _ e (0, 0) hb]
  unfold madeCells
  rw [hz]
  simp [hj, Nat.mod_one]
theorem intInfoV : ∃ i, Try.prog.info? 3 = some i ∧ i.size = 1 ∧ i.bytes = 8 ∧ i.zero = some (.int .i64 0) := info_of (by kernel_rfl) (by kernel_rfl)
theorem fltInfoV : ∃ i, Try.prog.info? 100 = some i ∧ i.size = 1 ∧ i.bytes = 8 ∧ i.zero = some (.float .f64 0) := info_of (by kernel_rfl) (by kernel_rfl)
theorem u32InfoV : ∃ i, Try.prog.info? 34 = some i ∧ i.size = 1 ∧ i.bytes = 4 ∧ i.zero = some (.int .u32 0) := info_of (by kernel_rfl) (by kernel_rfl)
theorem make_vi (n : Nat) (hn : n ≤ 1048576) : ∃ M : Array Value, (∀ w : World, (Instr.makeSlice 51 (.int .i64 (n : Int)) (.int .i64 (n : Int))).run Try.prog w = .ok (.slice (some ⟨w.heap.size, 0, none⟩) n n) (w.alloc (.cells M 3))) ∧
    ∀ w : World, VR (w.alloc (.cells M 3)) w.heap.size n (fun _ => .int .i64 0) := by
  obtain ⟨i, i1, i2, i3, i4⟩ := intInfoV
  refine ⟨madeCells (Value.int .i64 0).cells (n * 1), fun w => ?_, fun w => made_vr rfl _ n w⟩
  have := run_make (P := Try.prog) w 51 3 i _ Try.underlying51 i1 i4 .i64 .i64 n n (by omega) (by omega) (by rw [i3]; omega) (by omega)
  rw [i2] at this
  simp only [Int.toNat_natCast] at this
  exact this
theorem make_vu (n : Nat) (hn : n ≤ 1048576) : ∃ M : Array Value, (∀ w : World, (Instr.makeSlice 31 (.int .i64 (n : Int)) (.int .i64 (n : Int))).run Try.prog w = .ok (.slice (some ⟨w.heap.size, 0, none⟩) n n) (w.alloc (.cells M 34))) ∧
    ∀ w : World, VR (w.alloc (.cells M 34)) w.heap.size n (fun _ => .int .u32 0) := by
  obtain ⟨i, i1, i2, i3, i4⟩ := u32InfoV
  refine ⟨madeCells (Value.int .u32 0).cells (n * 1), fun w => ?_, fun w => made_vr rfl _ n w⟩
  have := run_make (P := Try.prog) w 31 34 i _ Try.underlying31 i1 i4 .i64 .i64 n n (by omega) (by omega) (by rw [i3]; omega) (by omega)
  rw [i2] at this
  simp only [Int.toNat_natCast] at this
  exact this
end Go.Proofs.Ytdbbpmadkhedlaa
/- ScaleSame: rows that are put together. -/
namespace Go.Proofs.Ytdbbpmadkhedlaa
open Go.RowKit
set_option linter.unusedVariables false
set_option linter.unusedSimpArgs false

theorem rInfo : ∃ i, Try.prog.info? 31 = some i ∧ i.size = 1 ∧ i.bytes = 24 ∧ i.zero = some (.slice none 0 0) := kinfo_of (by kernel_rfl)
def newsB (W : Nat) (bs : List Nat) : List Value := bs.map fun (b : Nat) => .slice (some ⟨b, 0, none⟩) W W
/-- Rows of W samples, in a list of the call's own. -/
structure Rws (w0 wr : World) (v : Value) (bs : List Nat) (W : Nat) (R : Nat → List Nat) : Prop where
  own : wr.ownsRow w0.heap.size 31 1 v bs.length (newsB W bs)
  q : Q w0 wr
  rows : ∀ j b, bs[j]? = some b → UIs wr b 0 (R j) ∧ some b ≠ v.ownBlock ∧ b < wr.heap.size
theorem Rws.start {w0 wr : World} (q : Q w0 wr) (W : Nat) (R : Nat → List Nat) : Rws w0 wr (.slice none 0 0) [] W R := ⟨⟨rfl, Or.inl ⟨rfl, rfl⟩⟩, q, fun j b h => by cases h⟩
theorem Rws.next {w0 wr wx : World} {v : Value} {bs : List Nat} {W : Nat} {R : Nat → List Nat} (h : Rws w0 wr v bs W R) (q : Q wr wx) : Rws w0 wx v bs W R :=
  ⟨own_q (w0 := w0) h.own q, h.q.trans q, fun j b hb => ⟨(h.rows j b hb).1.next q, (h.rows j b hb).2.1, Nat.lt_of_lt_of_le (h.rows j b hb).2.2 q.1.size⟩⟩
theorem Rws.olt {w0 wr : World} {v : Value} {bs : List Nat} {W : Nat} {R : Nat → List Nat} (h : Rws w0 wr v bs W R) {g : Nat} (hg : v.ownBlock = some g) : g < wr.heap.size := by
  rcases h.own.2 with ⟨rfl, _⟩ | ⟨g', c, cur, rfl, _, hh, _⟩
  · cases hg
  · injection hg with hg
    subst hg
    exact (Array.getElem?_eq_some_iff.1 hh).1
/-- A row that is new, behind the others. wb: the world ahead of the row. -/
theorem Rws.app {w0 wb wr : World} {v : Value} {bs : List Nat} {W : Nat} {R : Nat → List Nat} (hb : Rws w0 wb v bs W R) (q : Q wb wr) {b : Nat} (hn : wb.heap.size ≤ b) (hlt : b < wr.heap.size) (hI : UIs wr b 0 (R bs.length)) (hsz : bs.length ≤ 100000) :
    ∃ v' x2, (Builtin.append_ #[45, 45] 45 #[v, .slice (some ⟨wr.heap.size, 0, none⟩) 1 1]).run Try.prog (wr.alloc (.cells #[.slice (some ⟨b, 0, none⟩) W W] 31)) = .ok v' x2 ∧ Rws w0 x2 v' (bs ++ [b]) W R := by
  have h := hb.next q
  obtain ⟨iu, i1, i2, i3, i4⟩ := rInfo
  have hq2 : Q wr (wr.alloc (.cells #[.slice (some ⟨b, 0, none⟩) W W] 31)) := (Q.refl wr).cells _ _
  obtain ⟨g, c, x2, r1, o1, q1, hg, hor⟩ := run_app_qg (P := Try.prog) (wr.alloc (.cells #[.slice (some ⟨b, 0, none⟩) W W] 31)) w0 (h.q.cells _ _) 45 45 31 iu _ 1 24 Try.underlying45 i1 i4 i2 i3 rfl (by decide) v bs.length _ (own_q (w0 := w0) h.own hq2) ⟨wr.heap.size, 0, none⟩ 1 1 [.slice (some ⟨b, 0, none⟩) W W] rfl (fun j z hz => by
    cases j with
    | zero => cases hz; simp [go_sem]
    | succ j => cases hz) (fun z hz => by rw [List.mem_singleton.1 hz]; rfl) (by decide) (by unfold maxLen; omega) (by omega)
  refine ⟨_, x2, r1, ⟨?_, q1, fun j b' hb' => ?_⟩⟩
  · rw [List.length_append]
    have e : newsB W (bs ++ [b]) = newsB W bs ++ [.slice (some ⟨b, 0, none⟩) W W] := by simp [newsB]
    rw [e]
    exact o1
  · have hfact : UIs wr b' 0 (R j) ∧ some b' ≠ v.ownBlock ∧ b' < wr.heap.size := by
      rcases Nat.lt_or_ge j bs.length with hj | hj
      · rw [List.getElem?_append_left hj] at hb'
        exact h.rows j b' hb'
      · rw [List.getElem?_append_right hj] at hb'
        have hj0 : j - bs.length = 0 := by
          have := (List.getElem?_eq_some_iff.1 hb').1
          simp at this
          omega
        rw [hj0] at hb'
        simp at hb'
        subst hb'
        have : j = bs.length := by omega
        subst this
        exact ⟨hI, fun e => by have := hb.olt e.symm; omega, hlt⟩
    obtain ⟨f1, f2, f3⟩ := hfact
    have hs2 : (wr.alloc (.cells #[.slice (some ⟨b, 0, none⟩) W W] 31)).heap.size = wr.heap.size + 1 := by simp
    refine ⟨fun i hi => ?_, fun e => ?_, ?_⟩
    · have c1 := hq2.cell (f1 i hi)
      have hl := World.block_lt_of_cell? _ _ c1
      rw [← c1]
      unfold World.cell?
      rw [hg.block b' hl f2]
    · injection e with e
      rcases hor with hv | hv
      · exact f2 (by rw [hv, e])
      · have : b' = g := e
        omega
    · exact Nat.lt_of_lt_of_le (by omega) hg.size
/-- A row is read. -/
theorem Rws.at_ {w0 wr : World} {v : Value} {bs : List Nat} {W : Nat} {R : Nat → List Nat} (h : Rws w0 wr v bs W R) {j b : Nat} (hj : bs[j]? = some b) : ∃ g cap, v = .slice (some ⟨g, 0, none⟩) bs.length cap ∧ wr.cell? ⟨g, j, none⟩ = some (.slice (some ⟨b, 0, none⟩) W W) := by
  have hjl := (List.getElem?_eq_some_iff.1 hj).1
  rcases h.own.2 with ⟨_, e⟩ | ⟨g, cap, cur, rfl, _, hh, _, _, _, ht⟩
  · omega
  · refine ⟨g, cap, rfl, ?_⟩
    have e : (cur.toList.take (bs.length * 1))[j]? = (newsB W bs)[j]? := by rw [ht]
    rw [List.getElem?_take, if_pos (by omega)] at e
    unfold newsB at e
    rw [List.getElem?_map, hj] at e
    unfold World.cell?
    simp only [hh, Nat.zero_add]
    rw [Array.getElem?_toList] at e
    exact e
/-- A copy being written over, in a box. -/
structure Spl (w5 x : World) (B g pa pb n cap : Nat) (F : Nat → Nat) : Prop where
  q : Q w5 x
  c0 : x.cell? ⟨B, 0, none⟩ = some (.int .i64 (pa : Int))
  c1 : x.cell? ⟨B, 1, none⟩ = some (.int .i64 (pb : Int))
  c2 : x.cell? ⟨B, 2, none⟩ = some (.slice (some ⟨g, 0, none⟩) n cap)
  v : VR x g n (fun j => .int .u32 ((F j : Nat) : Int))
  ne : B ≠ g
  new : w5.heap.size ≤ g
theorem Spl.next {w5 x x' : World} {B g pa pb n cap : Nat} {F : Nat → Nat} (h : Spl w5 x B g pa pb n cap F) (q : Q x x') : Spl w5 x' B g pa pb n cap F := ⟨h.q.trans q, q.cell h.c0, q.cell h.c1, q.cell h.c2, h.v.next q, h.ne, h.new⟩
theorem cell_otherS {x : World} {b o g i : Nat} {z u : Value} (hb : b ≠ g) (hz : x.cell? ⟨b, o, none⟩ = some z) : (x.setCell ⟨g, i, none⟩ u).cell? ⟨b, o, none⟩ = some z := by
  rw [World.cell?_setCell_other _ _ _ _ (fun e => hb (by injection e with e1; exact e1.symm))]; exact hz
/-- As far as k, s where c says so. -/
def splK (c : Nat → Bool) (s : Nat) (S : List Nat) (k j : Nat) : Nat := if j < k ∧ c j = true then s else S.getD j 0
theorem splK_keep {c : Nat → Bool} {s : Nat} {S : List Nat} {k : Nat} (h : c k = false) : splK c s S (k + 1) = splK c s S k := by
  funext j
  unfold splK
  by_cases hj : j = k
  · subst hj; simp [h]
  · by_cases h2 : j < k
    · simp only [h2, show j < k + 1 by omega]
    · simp only [h2, show ¬ j < k + 1 by omega]
theorem Spl.put {w5 x : World} {B g pa pb n cap i : Nat} {c : Nat → Bool} {s : Nat} {S : List Nat} (h : Spl w5 x B g pa pb n cap (splK c s S i)) (hi : i < n) (hc : c i = true) : Spl w5 (x.setCell ⟨g, i, none⟩ (.int .u32 (s : Int))) B g pa pb n cap (splK c s S (i + 1)) := by
  refine ⟨h.q.set h.new _, cell_otherS h.ne h.c0, cell_otherS h.ne h.c1, cell_otherS h.ne h.c2, h.v.put hi (by unfold splK; rw [if_pos ⟨by omega, hc⟩]) (fun j hj hne => ?_), h.ne, h.new⟩
  unfold splK
  by_cases h2 : j < i
  · simp only [h2, show j < i + 1 by omega]
  · simp only [h2, show ¬ j < i + 1 by omega]
def splL (c : Nat → Bool) (s : Nat) (S : List Nat) : List Nat := (List.range S.length).map fun j => if c j = true then s else S.getD j 0
theorem splL_len (c : Nat → Bool) (s : Nat) (S : List Nat) : (splL c s S).length = S.length := by simp [splL]
theorem splL_at {c : Nat → Bool} {s : Nat} {S : List Nat} {i : Nat} (h : i < S.length) : (splL c s S).getD i 0 = if c i = true then s else S.getD i 0 := by
  unfold splL
  rw [List.getD_eq_getElem?_getD, List.getElem?_map, List.getElem?_range h]; rfl
theorem splL_lt {c : Nat → Bool} {s : Nat} {S : List Nat} (hs : s < 4294967296) (hS : ∀ i, S.getD i 0 < 4294967296) (i : Nat) : (splL c s S).getD i 0 < 4294967296 := by
  by_cases h : i < S.length
  · rw [splL_at h]; split
    · exact hs
    · exact hS i
  · rw [List.getD_eq_getElem?_getD, List.getElem?_eq_none (by rw [splL_len]; omega)]; decide
theorem Spl.uis {w5 x : World} {B g pa pb n cap : Nat} {c : Nat → Bool} {s : Nat} {S : List Nat} (h : Spl w5 x B g pa pb n cap (splK c s S n)) (hl : S.length = n) : UIs x g 0 (splL c s S) := fun i hi => by
  have hi' : i < n := by rw [splL_len, hl] at hi; exact hi
  rw [Nat.zero_add, h.v.cell i hi', splL_at (by omega)]
  unfold splK
  simp only [hi', true_and]
/-- What is written over doesn't matter. -/
theorem spl_whl {kind : Int} {pa pb W H X Y : Nat} {S : List Nat} {s : Nat} {c : Nat → Bool} (hX : tapE kind pa W X = 0) (hY : tapE kind pb H Y = 0) (hl : S.length = pa * pb)
    (hc : ∀ j, c j = true → (((j % pa : Nat) : Int) < fstN kind pa W X ∨ endN kind pa W X ≤ ((j % pa : Nat) : Int) ∨ ((j / pa : Nat) : Int) < fstN kind pb H Y ∨ endN kind pb H Y ≤ ((j / pa : Nat) : Int))) : whlV kind pa pb W H (splL c s S) X Y = whlV kind pa pb W H S X Y := by
  refine whl_need hX hY fun u v hu hv h1 h2 h3 h4 => ?_
  have hlt : v * pa + u < S.length := by rw [hl]; exact place_lt hu hv
  rw [splL_at hlt, if_neg]
  intro h
  have := hc _ h
  rw [place_mod v hu, place_div v hu] at this
  omega
theorem slice_row (g p l c lo hi : Nat) (h1 : lo < hi) (h2 : hi ≤ c) (x : World) : (Instr.slice 31 (.slice (some ⟨g, p, none⟩) l c) (some (.int .i64 (lo : Int))) (some (.int .i64 (hi : Int))) none).run Try.prog x = .ok (.slice (some ⟨g, p + lo, none⟩) (hi - lo) (c - lo)) x := by
  have hc : ¬ c = lo := by omega
  rw [run_slice_lh (t := 31) (ht := by kernel_rfl) (h0 := by omega) (h1 := by omega) (h2 := by omega)]
  simp [go_sem, sliced, hc]
theorem row_of {S : List Nat} {pa pb v : Nat} (hl : S.length = pa * pb) (hv : v < pb) : ((S.drop (v * pa)).take pa).length = pa ∧ ∀ i, i < pa → ((S.drop (v * pa)).take pa).getD i 0 = S.getD (v * pa + i) 0 := by
  have h1 : (v + 1) * pa ≤ pb * pa := Nat.mul_le_mul_right _ hv
  rw [Nat.add_mul, Nat.one_mul, Nat.mul_comm pb pa, ← hl] at h1
  refine ⟨by rw [List.length_take, List.length_drop]; omega, fun i hi => ?_⟩
  rw [List.getD_eq_getElem?_getD, List.getElem?_take, if_pos hi, List.getElem?_drop, ← List.getD_eq_getElem?_getD]
theorem row_all {S : List Nat} {kind : Int} {pa pb WW v gs os c n : Nat} {x : World} (hl : S.length = pa * pb) (hn : S.length = n) (hc : n ≤ c) (hv : v < pb) (hS : ∀ i, S.getD i 0 < 4294967296) (hI : UIs x gs os S) (h1 : 1 ≤ pa) (h2 : pa ≤ 1024) (h3 : 1 ≤ WW) (h4 : WW ≤ 1024) (ht : tapE kind pa WW 0 = 0) :
    Calls Try.prog 15 #[.slice (some ⟨gs, os + v * pa, none⟩) pa (c - v * pa), .int .i64 kind, .int .i64 (WW : Int)] x fun e w' => ∃ b, e = .returned (.tuple #[.slice (some ⟨b, 0, none⟩) WW WW, .int .i64 0]) ∧ Own x w' b (rowL ((S.drop (v * pa)).take pa) kind WW) := by
  obtain ⟨r1, r2⟩ := row_of hl hv
  have hlt : v * pa + pa ≤ n := by
    have : (v + 1) * pa ≤ pb * pa := Nat.mul_le_mul_right _ hv
    rw [Nat.add_mul, Nat.one_mul, Nat.mul_comm pb pa, ← hl] at this
    omega
  have hu : USl x (.slice (some ⟨gs, os + v * pa, none⟩) pa (c - v * pa)) ((S.drop (v * pa)).take pa) := by
    refine Or.inl ⟨gs, os + v * pa, c - v * pa, by rw [r1], by rw [r1]; omega, fun i hi => ?_⟩
    rw [r1] at hi
    rw [r2 i hi, Nat.add_assoc]
    exact hI _ (by omega)
  have hb : ∀ i, ((S.drop (v * pa)).take pa).getD i 0 < 4294967296 := fun i => by
    by_cases hi : i < pa
    · rw [r2 i hi]; exact hS _
    · rw [List.getD_eq_getElem?_getD, List.getElem?_eq_none (by omega)]; decide
  have hE : rowE ((S.drop (v * pa)).take pa).length kind WW = 0 := by
    rw [r1]
    unfold rowE
    rw [if_pos (by omega)]
    exact ht
  have := row_good _ _ kind (WW : Int) x hu hb hE
  rw [Int.toNat_natCast] at this
  exact this
theorem rowL_at {S : List Nat} {kind : Int} {WW k : Nat} (h : k < WW) : (rowL S kind WW).getD k 0 = smpV (tpA kind S.length WW k) S := by
  unfold rowL
  rw [Int.toNat_natCast, List.getD_eq_getElem?_getD, List.getElem?_map, List.getElem?_range h]; rfl
theorem rowL_len (S : List Nat) (kind : Int) (WW : Nat) : (rowL S kind WW).length = WW := by simp [rowL]
theorem mul_facts {v pa m m2 : Nat} (h1 : v * pa = m) (h2 : m + pa = m2) : (v : Int) * (pa : Int) = (m : Int) ∧ ((v : Int) + 1) * (pa : Int) = (m2 : Int) := by
  refine ⟨by rw [← Int.natCast_mul, h1], ?_⟩
  have : ((v : Int) + 1) = ((v + 1 : Nat) : Int) := by omega
  rw [this, ← Int.natCast_mul, Nat.add_mul, Nat.one_mul, h1, h2]
theorem Rws.form {w0 wr : World} {v : Value} {bs : List Nat} {W : Nat} {R : Nat → List Nat} (h : Rws w0 wr v bs W R) (h1 : 1 ≤ bs.length) : ∃ g cap, v = .slice (some ⟨g, 0, none⟩) bs.length cap ∧ ∀ j b, bs[j]? = some b → wr.cell? ⟨g, j, none⟩ = some (.slice (some ⟨b, 0, none⟩) W W) := by
  obtain ⟨g, cap, e, _⟩ := h.at_ (j := 0) (b := bs[0]) (List.getElem?_eq_getElem h1)
  refine ⟨g, cap, e, fun j b hb => ?_⟩
  obtain ⟨g', cap', e', hc⟩ := h.at_ hb
  rw [e] at e'
  injection e' with e1 e2 e3
  injection e1 with e1
  injection e1 with e1
  subst e1
  exact hc
/-- The column of a place. -/
def colL (R : Nat → List Nat) (xn v : Nat) : List Nat := (List.range v).map fun j => (R j).getD xn 0
theorem colL_len (R : Nat → List Nat) (xn v : Nat) : (colL R xn v).length = v := by simp [colL]
theorem colL_step (R : Nat → List Nat) (xn v : Nat) : colL R xn v ++ [(R v).getD xn 0] = colL R xn (v + 1) := by simp [colL, List.range_succ]
theorem colL_at {R : Nat → List Nat} {xn v j : Nat} (h : j < v) : (colL R xn v).getD j 0 = (R j).getD xn 0 := by
  unfold colL
  rw [List.getD_eq_getElem?_getD, List.getElem?_map, List.getElem?_range h]; rfl
end Go.Proofs.Ytdbbpmadkhedlaa
/- The laws' own helpers: finite, small. -/
namespace Go.Proofs.Ytdbbpmadkhedlaa
open Go.RowKit
set_option linter.unusedVariables false
set_option linter.unusedSimpArgs false

theorem and_31k (s : Int) (h0 : 0 ≤ s) (h1 : s ≤ 4294967295) : bits .and .u32 s 2147483647 = s % 2147483648 := by go_bits2
theorem and_rung {x : Nat} (hx : x < 4294967296) : bits .and .u32 (x : Int) 2147483647 = ((rung32 x : Nat) : Int) := by
  rw [and_31k _ (by omega) (by omega)]
  unfold rung32
  omega
def smlB (W H : Int) : Bool := decide (W < 1 ∨ H < 1 ∨ W > 6000 ∨ H > 6000 ∨ W * H ≤ 3000)
set_option maxHeartbeats 2000000 in
set_option maxRecDepth 100000 in
theorem small_any (W H : Int) (w : World) :
    Calls Try.prog 10 #[.agg #[.int .i64 0, .int .i64 0, .slice none 0 0], .int .i64 W, .int .i64 H] w fun e w' => e = .returned (.bool (smlB W H)) ∧ Q w w' := by
  have HQ : Hid (Q w (w.alloc (.cells #[.int .i64 0, .int .i64 0, .slice none 0 0] 33))) := (Q.refl w).cells _ _
  have E : Hid (smlB W H = decide (W < 1 ∨ H < 1 ∨ W > 6000 ∨ H > 6000 ∨ W * H ≤ 3000)) := rfl
  generalize smlB W H = b at *
  rcases Int.lt_or_le W 1 with h1 | h1
  · obtain rfl : b = true := by rw [E.out]; exact decide_eq_true (Or.inl h1)
    clear E
    go_enter Try.func10, Try.ntmps10
    go_wp2_with fail
    exact bodyPost_ret (v := .bool true) (by simp [results, Try.results10, go_sem]) rfl ⟨rfl, HQ.out⟩
  rcases Int.lt_or_le H 1 with h2 | h2
  · obtain rfl : b = true := by rw [E.out]; exact decide_eq_true (Or.inr (Or.inl h2))
    clear E
    go_enter Try.func10, Try.ntmps10
    go_wp2_with fail
    exact bodyPost_ret (v := .bool true) (by simp [results, Try.results10, go_sem]) rfl ⟨rfl, HQ.out⟩
  rcases Int.lt_or_le 6000 W with h3 | h3
  · obtain rfl : b = true := by rw [E.out]; exact decide_eq_true (Or.inr (Or.inr (Or.inl h3)))
    clear E
    go_enter Try.func10, Try.ntmps10
    go_wp2_with fail
    exact bodyPost_ret (v := .bool true) (by simp [results, Try.results10, go_sem]) rfl ⟨rfl, HQ.out⟩
  rcases Int.lt_or_le 6000 H with h4 | h4
  · obtain rfl : b = true := by rw [E.out]; exact decide_eq_true (Or.inr (Or.inr (Or.inr (Or.inl h4))))
    clear E
    go_enter Try.func10, Try.ntmps10
    go_wp2_with fail
    exact bodyPost_ret (v := .bool true) (by simp [results, Try.results10, go_sem]) rfl ⟨rfl, HQ.out⟩
  have hb1 : 0 ≤ W * H := Int.mul_nonneg (by omega) (by omega)
  have hb2 : W * H ≤ 36000000 := Int.le_trans (Int.mul_le_mul h3 h4 (by omega) (by omega)) (by decide)
  rcases Int.lt_or_le 3000 (W * H) with h5 | h5
  · obtain rfl : b = false := by rw [E.out]; exact decide_eq_false (by omega)
    clear E
    go_enter Try.func10, Try.ntmps10
    go_wp2_with fail
    exact bodyPost_ret (v := .bool false) (by simp [results, Try.results10, go_sem]; exact ⟨⟨⟨⟨h1, h2⟩, h3⟩, h4⟩, h5⟩) rfl ⟨rfl, HQ.out⟩
  · obtain rfl : b = true := by rw [E.out]; exact decide_eq_true (by omega)
    clear E
    go_enter Try.func10, Try.ntmps10
    go_wp2_with fail
    exact bodyPost_ret (v := .bool true) (by simp [results, Try.results10, go_sem]) rfl ⟨rfl, HQ.out⟩
end Go.Proofs.Ytdbbpmadkhedlaa
/- The laws' own helpers: key, small of any plane. -/
namespace Go.Proofs.Ytdbbpmadkhedlaa
open Go.RowKit
set_option linter.unusedVariables false
set_option linter.unusedSimpArgs false

theorem srung_lowq {x : Nat} (h : x < 2147483648) : srung32 x = x := by
  unfold srung32 sgn32 rung32
  rw [show (x / 2147483648 % 2 == 1) = false from by rw [beq_eq_false_iff_ne]; omega, if_neg (by decide)]
  omega
theorem srung_highq {a : Nat} (h : ¬ a < 2147483648) (ha : a < 4294967296) : srung32 a = -((a : Int) % 2147483648) := by
  unfold srung32 sgn32 rung32
  rw [show (a / 2147483648 % 2 == 1) = true from by rw [beq_iff_eq]; omega, if_pos rfl]
  omega
def smlP (pw ph : Int) (n : Nat) (W H : Int) : Bool := decide (((n : Int) ≤ 3000 ∧ pw ≤ 6000 ∧ ph ≤ 6000) ∧ (W < 1 ∨ H < 1 ∨ W > 6000 ∨ H > 6000 ∨ W * H ≤ 3000))
set_option maxHeartbeats 2000000 in
set_option maxRecDepth 100000 in
theorem smallp_any (pw ph : Int) (ad : Option Addr) (n c : Nat) (W H : Int) (w : World) :
    Calls Try.prog 10 #[.agg #[.int .i64 pw, .int .i64 ph, .slice ad n c], .int .i64 W, .int .i64 H] w fun e w' => e = .returned (.bool (smlP pw ph n W H)) ∧ Q w w' := by
  have HQ : Hid (Q w (w.alloc (.cells #[.int .i64 pw, .int .i64 ph, .slice ad n c] 33))) := (Q.refl w).cells _ _
  have E : Hid (smlP pw ph n W H = decide (((n : Int) ≤ 3000 ∧ pw ≤ 6000 ∧ ph ≤ 6000) ∧ (W < 1 ∨ H < 1 ∨ W > 6000 ∨ H > 6000 ∨ W * H ≤ 3000))) := rfl
  generalize smlP pw ph n W H = b at *
  obtain ⟨w1, hw1⟩ : ∃ w1, w.alloc (.cells #[.int .i64 pw, .int .i64 ph, .slice ad n c] 33) = w1 := ⟨_, rfl⟩
  have k0 : w1.cell? ⟨w.heap.size, 0, none⟩ = some (.int .i64 pw) := by rw [← hw1]; simp [go_sem]
  have k1 : w1.cell? ⟨w.heap.size, 1, none⟩ = some (.int .i64 ph) := by rw [← hw1]; simp [go_sem]
  have k2 : w1.cell? ⟨w.heap.size, 2, none⟩ = some (.slice ad n c) := by rw [← hw1]; simp [go_sem]
  rcases Int.lt_or_le 3000 (n : Int) with a0 | a0
  · obtain rfl : b = false := by rw [E.out]; exact decide_eq_false (by omega)
    clear E
    go_enter Try.func10, Try.ntmps10
    go_wp2_with fail
    rw [hw1] at HQ
    exact bodyPost_ret (v := .bool false) (by simp [results, Try.results10, go_sem] <;> omega) rfl ⟨rfl, HQ.out⟩
  rcases Int.lt_or_le 6000 pw with a1 | a1
  · obtain rfl : b = false := by rw [E.out]; exact decide_eq_false (by omega)
    clear E
    go_enter Try.func10, Try.ntmps10
    go_wp2_with fail
    rw [hw1] at HQ
    exact bodyPost_ret (v := .bool false) (by simp [results, Try.results10, go_sem] <;> omega) rfl ⟨rfl, HQ.out⟩
  rcases Int.lt_or_le 6000 ph with a2 | a2
  · obtain rfl : b = false := by rw [E.out]; exact decide_eq_false (by omega)
    clear E
    go_enter Try.func10, Try.ntmps10
    go_wp2_with fail
    rw [hw1] at HQ
    exact bodyPost_ret (v := .bool false) (by simp [results, Try.results10, go_sem] <;> omega) rfl ⟨rfl, HQ.out⟩
  rcases Int.lt_or_le W 1 with h0 | h0
  · obtain rfl : b = true := by rw [E.out]; exact decide_eq_true ⟨⟨a0, a1, a2⟩, Or.inl h0⟩
    clear E
    go_enter Try.func10, Try.ntmps10
    go_wp2_with fail
    rw [hw1] at HQ
    exact bodyPost_ret (v := .bool true) (by simp [results, Try.results10, go_sem] <;> omega) rfl ⟨rfl, HQ.out⟩
  rcases Int.lt_or_le H 1 with h1 | h1
  · obtain rfl : b = true := by rw [E.out]; exact decide_eq_true ⟨⟨a0, a1, a2⟩, Or.inr (Or.inl h1)⟩
    clear E
    go_enter Try.func10, Try.ntmps10
    go_wp2_with fail
    rw [hw1] at HQ
    exact bodyPost_ret (v := .bool true) (by simp [results, Try.results10, go_sem] <;> omega) rfl ⟨rfl, HQ.out⟩
  rcases Int.lt_or_le 6000 W with h2 | h2
  · obtain rfl : b = true := by rw [E.out]; exact decide_eq_true ⟨⟨a0, a1, a2⟩, Or.inr (Or.inr (Or.inl h2))⟩
    clear E
    go_enter Try.func10, Try.ntmps10
    go_wp2_with fail
    rw [hw1] at HQ
    exact bodyPost_ret (v := .bool true) (by simp [results, Try.results10, go_sem] <;> omega) rfl ⟨rfl, HQ.out⟩
  rcases Int.lt_or_le 6000 H with h3 | h3
  · obtain rfl : b = true := by rw [E.out]; exact decide_eq_true ⟨⟨a0, a1, a2⟩, Or.inr (Or.inr (Or.inr (Or.inl h3)))⟩
    clear E
    go_enter Try.func10, Try.ntmps10
    go_wp2_with fail
    rw [hw1] at HQ
    exact bodyPost_ret (v := .bool true) (by simp [results, Try.results10, go_sem] <;> omega) rfl ⟨rfl, HQ.out⟩
  have hb1 : 0 ≤ W * H := Int.mul_nonneg (by omega) (by omega)
  have hb2 : W * H ≤ 36000000 := Int.le_trans (Int.mul_le_mul h2 h3 (by omega) (by omega)) (by decide)
  rcases Int.lt_or_le 3000 (W * H) with h4 | h4
  · obtain rfl : b = false := by rw [E.out]; exact decide_eq_false (by omega)
    clear E
    go_enter Try.func10, Try.ntmps10
    go_wp2_with fail
    rw [hw1] at HQ
    exact bodyPost_ret (v := .bool false) (by simp [results, Try.results10, go_sem] <;> omega) rfl ⟨rfl, HQ.out⟩
  · obtain rfl : b = true := by rw [E.out]; exact decide_eq_true ⟨⟨a0, a1, a2⟩, by omega⟩
    clear E
    go_enter Try.func10, Try.ntmps10
    go_wp2_with fail
    rw [hw1] at HQ
    exact bodyPost_ret (v := .bool true) (by simp [results, Try.results10, go_sem] <;> omega) rfl ⟨rfl, HQ.out⟩
end Go.Proofs.Ytdbbpmadkhedlaa
/- A plane in a box whose samples are appended one by one. -/
namespace Go.Proofs.Ytdbbpmadkhedlaa
open Go.RowKit
set_option linter.unusedVariables false
set_option linter.unusedSimpArgs false

theorem uInfo : ∃ i, Try.prog.info? 34 = some i ∧ i.size = 1 ∧ i.bytes = 4 ∧ i.zero = some (.int .u32 0) := info_of (by kernel_rfl) (by kernel_rfl)
def newsS (S : List Nat) : List Value := S.map fun (x : Nat) => .int .u32 (x : Int)
structure Gp (w0 wr : World) (B : Nat) (pa pb : Int) (v : Value) (L : List Nat) (n : Nat) : Prop where
  len : n = L.length
  own : wr.ownsRow w0.heap.size 34 1 v n (newsS L)
  ap : v.ownBlock ≠ some B
  c0 : wr.cell? ⟨B, 0, none⟩ = some (.int .i64 pa)
  c1 : wr.cell? ⟨B, 1, none⟩ = some (.int .i64 pb)
  c2 : wr.cell? ⟨B, 2, none⟩ = some v
  fz : ∀ j, wr.frozen? ⟨B, j, none⟩ = false
  q : Q w0 wr
  lo : w0.heap.size ≤ B
theorem own_setS {w : World} {base n : Nat} {v : Value} {xs : List Value} (h : w.ownsRow base 34 1 v n xs) {p : Addr} (hp : v.ownBlock ≠ some p.block) (z : Value) : (w.setCell p z).ownsRow base 34 1 v n xs := by
  refine ⟨h.1, ?_⟩
  rcases h.2 with c | ⟨g, cap, cur, h1, h2, h3, h4⟩
  · exact Or.inl c
  · refine Or.inr ⟨g, cap, cur, h1, h2, ?_, h4⟩
    rw [Below.heap_setCell _ _ _ _ (fun e => hp (by rw [h1, e]; rfl))]
    exact h3
theorem own_uslS {w : World} {base n : Nat} {v : Value} {L : List Nat} (h : w.ownsRow base 34 1 v n (newsS L)) (hn : n = L.length) : USl w v L := by
  obtain ⟨_, ⟨rfl, h0⟩ | ⟨g, cap, cur, rfl, _, hh, hc, _, hsz, ht⟩⟩ := h
  · exact Or.inr ⟨_, _, rfl, List.eq_nil_of_length_eq_zero (by omega)⟩
  · subst hn
    refine Or.inl ⟨g, 0, cap, rfl, hc, fun i hi => ?_⟩
    have hg : cur.toList[i]? = some (.int .u32 ((L.getD i 0 : Nat) : Int)) := by
      have e : (cur.toList.take (L.length * 1))[i]? = (newsS L)[i]? := by rw [ht]
      rw [List.getElem?_take, if_pos (by omega)] at e
      rw [e]
      unfold newsS
      rw [List.getElem?_map, List.getElem?_eq_getElem hi, List.getD_eq_getElem?_getD, List.getElem?_eq_getElem hi]
      rfl
    rw [Nat.zero_add]
    unfold World.cell?
    rw [hh]
    rw [Array.getElem?_toList] at hg
    exact hg
theorem Gp.app {w0 wr : World} {B : Nat} {pa pb : Int} {v : Value} {L : List Nat} {n : Nat} (h : Gp w0 wr B pa pb v L n) (u : Nat) (hn : n ≤ 100000) :
    ∃ g c x2, (Builtin.append_ #[31, 31] 31 #[v, .slice (some ⟨wr.heap.size, 0, none⟩) 1 1]).run Try.prog (wr.alloc (.cells #[.int .u32 (u : Int)] 34)) = .ok (.slice (some ⟨g, 0, none⟩) (n + 1) c) x2 ∧
      x2.cell? ⟨B, 2, none⟩ = some v ∧ (∀ j, x2.frozen? ⟨B, j, none⟩ = false) ∧ Gp w0 (x2.setCell ⟨B, 2, none⟩ (.slice (some ⟨g, 0, none⟩) (n + 1) c)) B pa pb (.slice (some ⟨g, 0, none⟩) (n + 1) c) (L ++ [u]) (n + 1) := by
  obtain ⟨iu, i1, i2, i3, i4⟩ := uInfo
  have hq1 : Q w0 (wr.alloc (.cells #[.int .u32 (u : Int)] 34)) := h.q.cells _ _
  have hqa : Q wr (wr.alloc (.cells #[.int .u32 (u : Int)] 34)) := (Q.refl wr).cells _ _
  have hBw : B < wr.heap.size := World.block_lt_of_cell? _ _ h.c0
  obtain ⟨g, c, x2, r1, o1, q1, gb1, gg1⟩ := run_app_qg (P := Try.prog) (wr.alloc (.cells #[.int .u32 (u : Int)] 34)) w0 hq1 31 31 34 iu _ 1 4 Try.underlying31 i1 i4 i2 i3 rfl (by decide) v n _ (h.own.alloc _) ⟨wr.heap.size, 0, none⟩ 1 1 [.int .u32 (u : Int)] rfl (fun j z hz => by
    cases j with
    | zero => cases hz; show (wr.alloc (.cells #[.int .u32 (u : Int)] 34)).cell? ⟨wr.heap.size, 0, none⟩ = _; simp [go_sem]
    | succ j => cases hz) (fun z hz => by rw [List.mem_singleton.1 hz]; rfl) (by decide) (by unfold maxLen; omega) (by omega)
  have hgB : g ≠ B := by
    rcases gg1 with e | e
    · intro k; exact h.ap (by rw [e, k])
    · have : (wr.alloc (.cells #[.int .u32 (u : Int)] 34)).heap.size = wr.heap.size + 1 := by simp
      omega
  have hcell : ∀ {j z}, wr.cell? ⟨B, j, none⟩ = some z → x2.cell? ⟨B, j, none⟩ = some z := fun {j z} hz => by
    have h1 := hqa.cell hz
    have h2 := gb1.block B (by have := hqa.1.size; omega) (fun e => h.ap e.symm)
    exact (World.cell?_of_block h2).trans h1
  have hfz : ∀ j, x2.frozen? ⟨B, j, none⟩ = false := fun j => by rw [q1.2, ← h.q.2]; exact h.fz j
  have hap : newsS (L ++ [u]) = newsS L ++ [.int .u32 (u : Int)] := by simp [newsS]
  rw [← hap] at o1
  refine ⟨g, c, x2, r1, hcell h.c2, hfz, ?_⟩
  have hne : (Value.slice (some ⟨g, 0, none⟩) (n + 1) c).ownBlock ≠ some B := fun e => hgB (by cases e; rfl)
  exact ⟨by rw [List.length_append, h.len]; rfl, own_setS o1 hne _, hne,
    (World.cell?_setCell_other _ _ _ _ (fun e => by injection e with _ e; cases e)).trans (hcell h.c0),
    (World.cell?_setCell_other _ _ _ _ (fun e => by injection e with _ e; cases e)).trans (hcell h.c1),
    World.cell?_setCell_same _ _ _ (hcell h.c2), fun j => by rw [World.frozen?_setCell]; exact hfz j, q1.set h.lo _, h.lo⟩
end Go.Proofs.Ytdbbpmadkhedlaa
/- Lists of samples that are the same. -/
namespace Go.Proofs.Ytdbbpmadkhedlaa
open Go.RowKit
set_option linter.unusedVariables false
set_option linter.unusedSimpArgs false

set_option maxHeartbeats 4000000 in
set_option maxRecDepth 100000 in
theorem words_eq (v v' : Value) (xs : List Nat) (w : World) (h : USl w v xs) (h' : USl w v' xs) (hn : xs.length ≤ 9223372036854775807) :
    Calls Try.prog 25 #[v, v'] w fun e w' => e = .returned (.bool true) ∧ Q w w' := by
  obtain ⟨a, cap, ev⟩ := h.form
  obtain ⟨a', cap', ev'⟩ := h'.form
  subst ev ev'
  have HS : Hid (USl w (.slice a xs.length cap) xs) := h
  have HT : Hid (USl w (.slice a' xs.length cap') xs) := h'
  obtain ⟨n, en⟩ : ∃ n, xs.length = n := ⟨_, rfl⟩
  have HN : Hid (xs.length = n) := en
  rw [en] at HS HT hn ⊢
  have hnn : ((n : Int) == (n : Int)) = true := by simp
  clear h h' en
  go_enter Try.func25, Try.ntmps25
  go_wp2_with fail
  go_loopg [5] n (fun m s5 wx => ∃ i : Nat, s5 = .int .i64 i ∧ i + m = n ∧ Hid (Q w wx))
  case atStart => exact ⟨0, rfl, by omega, Q.refl w⟩
  case round =>
    obtain ⟨i, rfl, him, HQ⟩ := hrel
    by_cases hi : i < n
    · have hi0 : (0 : Int) ≤ (i : Int) := by omega
      have hi1 : (i : Int) < (n : Int) := by omega
      obtain ⟨g, o, c, e1, e2, e3⟩ := HS.out.some (by rw [HN.out]; omega)
      obtain ⟨g', o', c', f1, f2, f3⟩ := HT.out.some (by rw [HN.out]; omega)
      injection e1 with e1 hh1 hh2
      clear hh1 hh2
      injection f1 with f1 hh1 hh2
      clear hh1 hh2
      subst e1 f1
      have c1 := HQ.out.cell (e3 i (by rw [HN.out]; exact hi))
      have c2 := HQ.out.cell (f3 i (by rw [HN.out]; exact hi))
      obtain ⟨z, hz⟩ : ∃ z, xs.getD i 0 = z := ⟨_, rfl⟩
      rw [hz] at c1 c2
      have hzz : ((z : Int) == (z : Int)) = true := by simp
      have n0 := qw_some wr
      have d1 := qw_cell c1
      have d2 := qw_cell c2
      clear hz e2 e3 f2 f3
      go_wp2_with fail
      refine wp_region_quiet_Q (by kernel_rfl) (by kernel_rfl) ?_
      repeat (first | go_big_quiet_step (fail) | quiet_step (fail))
      refine wpQuiet_nil ?_
      intro w4 hw'
      have hq4 := qw_out hw'
      have HQ4 : Hid (Q w w4) := HQ.out.trans hq4
      clear hw' n0 d1 d2
      go_wp2_with fail
      go_roundg (n - (i + 1))
      case measure => go_light; omega
      case rel => go_light; exact ⟨i + 1, by go_num, by omega, HQ4⟩
    · have hie : i = n := by omega
      go_wp2_with fail
      go_ret
      exact ⟨rfl, HQ.out⟩
end Go.Proofs.Ytdbbpmadkhedlaa
/- The chapter's examples: what they come to. -/
namespace Go.Proofs.Ytdbbpmadkhedlaa
open Go.RowKit
set_option linter.unusedVariables false
set_option linter.unusedSimpArgs false

theorem tp_eq {kind F T i : Int} {L M : List (Int × Int)} {S : Int} (hE : tapE kind F T i = 0) (hw : wlsV kind F.toNat T.toNat i.toNat = L) (hs : sumF (zf (L.map Prod.snd)) L.length = S) (hm : missV (zf (L.map Prod.snd)) S L.length = 0) (hM : tpK L (flo (zf (L.map Prod.snd)) S) L.length = M) : tpA kind F T i = M := by
  unfold tpA
  rw [if_pos hE, hw]
  unfold tapsL
  have e : shrV (zf (L.map Prod.snd)) L.length = flo (zf (L.map Prod.snd)) S := by
    funext k
    unfold shrV; rw [hs, hm]; exact shrK_zero _ _ _ _
  rw [e, hM]
theorem t240 : tpA 2 2 4 0 = [(0, 65536)] := tp_eq (L := [(0, 8)]) (S := 8) (by decide) (by decide) (by decide) (by decide) (by decide)
theorem t241 : tpA 2 2 4 1 = [(0, 49152), (1, 16384)] := tp_eq (L := [(0, 6), (1, 2)]) (S := 8) (by decide) (by decide) (by decide) (by decide) (by decide)
theorem t242 : tpA 2 2 4 2 = [(0, 16384), (1, 49152)] := tp_eq (L := [(0, 2), (1, 6)]) (S := 8) (by decide) (by decide) (by decide) (by decide) (by decide)
theorem t243 : tpA 2 2 4 3 = [(1, 65536)] := tp_eq (L := [(1, 8)]) (S := 8) (by decide) (by decide) (by decide) (by decide) (by decide)
theorem b320 : tpA 1 3 2 0 = [(0, 65536)] := tp_eq (L := [(0, 1)]) (S := 1) (by decide) (by decide) (by decide) (by decide) (by decide)
theorem b321 : tpA 1 3 2 1 = [(1, 32768), (2, 32768)] := tp_eq (L := [(1, 1), (2, 1)]) (S := 2) (by decide) (by decide) (by decide) (by decide) (by decide)
theorem b210 : tpA 1 2 1 0 = [(0, 32768), (1, 32768)] := tp_eq (L := [(0, 1), (1, 1)]) (S := 2) (by decide) (by decide) (by decide) (by decide) (by decide)
theorem t110 : tpA 2 1 1 0 = [(0, 65536)] := tp_eq (L := [(0, 2)]) (S := 2) (by decide) (by decide) (by decide) (by decide) (by decide)
theorem row1 : rowL [0, 1065353216] 2 4 = [0, 1048576000, 1061158912, 1065353216] := by
  unfold rowL
  show [smpV (tpA 2 2 4 0) [0, 1065353216], smpV (tpA 2 2 4 1) [0, 1065353216], smpV (tpA 2 2 4 2) [0, 1065353216], smpV (tpA 2 2 4 3) [0, 1065353216]] = _
  rw [t240, t241, t242, t243]
  decide +kernel
theorem row2 : rowL [1065353216, 1073741824, 1082130432] 1 2 = [1065353216, 1077936128] := by
  unfold rowL
  show [smpV (tpA 1 3 2 0) [1065353216, 1073741824, 1082130432], smpV (tpA 1 3 2 1) [1065353216, 1073741824, 1082130432]] = _
  rw [b320, b321]
  decide +kernel
theorem pln1 : (tabN (1 * 1) fun i => whlV 1 2 2 1 1 [0, 1065353216, 1073741824, 1077936128] (i % 1) (i / 1)) = [1069547520] := by
  show [whlV 1 2 2 1 1 [0, 1065353216, 1073741824, 1077936128] 0 0] = _
  unfold whlV colV
  show [smpV (tpA 1 2 1 0) (tabN 2 fun y => smpV (tpA 1 2 1 0) (List.drop (y * 2) [0, 1065353216, 1073741824, 1077936128]))] = _
  rw [b210]
  decide +kernel
theorem prt1 : (tabN (2 * 1) fun i => whlV 2 2 1 4 1 [0, 1065353216] (1 + i % 2) (0 + i / 2)) = [1048576000, 1061158912] := by
  show [whlV 2 2 1 4 1 [0, 1065353216] 1 0, whlV 2 2 1 4 1 [0, 1065353216] 2 0] = _
  unfold whlV colV
  show [smpV (tpA 2 1 1 0) (tabN 1 fun y => smpV (tpA 2 2 4 1) (List.drop (y * 2) [0, 1065353216])), smpV (tpA 2 1 1 0) (tabN 1 fun y => smpV (tpA 2 2 4 2) (List.drop (y * 2) [0, 1065353216]))] = _
  rw [t110, t241, t242]
  decide +kernel
theorem ned1 : fstS ((List.range 2).map fun (k : Nat) => tpA 2 2 4 ((0 + k : Nat) : Int)) 2 = 0 ∧ endS ((List.range 2).map fun (k : Nat) => tpA 2 2 4 ((0 + k : Nat) : Int)) 2 = 2 := by
  have e : ((List.range 2).map fun (k : Nat) => tpA 2 2 4 ((0 + k : Nat) : Int)) = [[(0, 65536)], [(0, 49152), (1, 16384)]] := by
    show [tpA 2 2 4 0, tpA 2 2 4 1] = _
    rw [t240, t241]
  rw [e]
  decide
end Go.Proofs.Ytdbbpmadkhedlaa

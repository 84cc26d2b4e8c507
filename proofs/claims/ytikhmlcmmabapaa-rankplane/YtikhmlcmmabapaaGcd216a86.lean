/- Appending to a list without room: what lies where. -/
import Derived.Test.YtikhmlcmmabapaaG18da661d
import Derived.Laws.Append
import Derived.Laws.AppendOwn
import Derived.OwnWalk
import Derived.Test.YtikhmlcmmabapaaG1a232a06
import Derived.Test.YtikhmlcmmabapaaGf301d60c
import Derived.Test.YtikhmlcmmabapaaG9d62a9b3
import Derived.Test.YtikhmlcmmabapaaG2dec15e7
namespace Go.Proofs.Ytikhmlcmmabapaa
open Go.RowKit

theorem run_app_new {P : Program} (w : World) (t ty e : TypeId) (i : TypeInfo) (z : Value) (ht : P.underlying t = some (.slice e)) (hi : P.info? e = some i) (hz : i.zero = some z)
    (v : Value) (hv : v = .slice none 0 0 ∨ ∃ b, v = .slice (some b) 0 0) (ad : Addr) (m c : Nat) (news : List Value) (hl : news.length = m * i.size) (hnews : ∀ j u, news[j]? = some u → w.cell? (ad.add j) = some u)
    (h0 : 0 < m) (h63 : m ≤ 1125899906842624) (hby : m * i.bytes ≤ 140737488355328) :
    ∃ cap w', (Builtin.append_ #[t, t] ty #[v, .slice (some ad) m c]).run P w = .ok (.slice (some ⟨w.heap.size, 0, none⟩) m cap) w' ∧ Q w w' ∧ m ≤ cap ∧ w'.heap.size = w.heap.size + 1 ∧
      (∀ j u, news[j]? = some u → w'.cell? ⟨w.heap.size, j, none⟩ = some u) ∧ ∀ j, w'.frozen? ⟨w.heap.size, j, none⟩ = false := by
  have fin : ∀ (cs : Array Value), (∀ (j : Nat) (u : Value), news[j]? = some u → cs[j]? = some u) → Q w (w.drew.alloc (.cells cs e)) ∧ (w.drew.alloc (.cells cs e)).heap.size = w.heap.size + 1 ∧
      (∀ (j : Nat) (u : Value), news[j]? = some u → (w.drew.alloc (.cells cs e)).cell? ⟨w.heap.size, j, none⟩ = some u) ∧ ∀ j, (w.drew.alloc (.cells cs e)).frozen? ⟨w.heap.size, j, none⟩ = false := by
    intro cs hcs
    have hb : (w.drew.alloc (.cells cs e)).heap[w.heap.size]? = some (.cells cs e (0, 0)) := heap_alloc_new w.drew _
    refine ⟨(Q.refl w).drew.cells _ _, by simp, fun j u hu => ?_, fun j => frozen_of_row _ _ _ _ _ hb⟩
    rw [cell_of_row _ _ j cs e (0, 0) hb]
    exact hcs j u hu
  have key : ∀ (n : Nat) (j : Nat) (u : Value), news[j]? = some u → (news.toArray ++ Builtin.zeroCells z.cells n)[j]? = some u := by
    intro n j u hu
    have hj : j < news.length := (List.getElem?_eq_some_iff.1 hu).1
    rw [Array.getElem?_append_left (by simpa using hj)]
    simpa using hu
  rcases hv with rfl | ⟨b, rfl⟩
  · have hr := run_append_nil (P := P) w t ty e i z ht hi hz ad m c news hl hnews h0 (by omega) (by omega)
    obtain ⟨q1, q2, q3, q4⟩ := fin _ (key (grownCap w m 0 e - m))
    exact ⟨_, _, hr, q1, grownCap_ge w m 0 e, q2, q3, q4⟩
  · have hr := run_append_grow (P := P) w t ty e i z ht hi hz b 0 0 [] (by simp) (fun j v h => by simp at h) ad m c news hl hnews (by omega) (by omega) (growslice_fits (by omega) (by rw [Nat.zero_add]; exact hby))
    simp only [Nat.zero_add, Array.empty_append] at hr
    obtain ⟨q1, q2, q3, q4⟩ := fin _ (key (grownCap w m 0 e - m))
    exact ⟨_, _, hr, q1, grownCap_ge w m 0 e, q2, q3, q4⟩

/-- In a list of operations. -/
theorem wpList_app {P : Program} (w : World) {ops : Array Oper} {rest : List Oper} {o : Oper} {a : Act} {R : Exit → Act → World → Prop} (hgd : o.guard = none) (s x : Operand) (t : TypeId)
    (ho : o.op = .call { callee := .builtin .append, args := #[s, x], argTypes := #[t, t] })
    (e : TypeId) (i : TypeInfo) (z : Value) (ht : P.underlying t = some (.slice e)) (hi : P.info? e = some i) (hz : i.zero = some z)
    (v : Value) (hv : v = .slice none 0 0 ∨ ∃ b, v = .slice (some b) 0 0) (hs : a.eval s = v) (ad : Addr) (m c : Nat) (news : List Value) (hx : a.eval x = .slice (some ad) m c) (hl : news.length = m * i.size) (hnews : ∀ j u, news[j]? = some u → w.cell? (ad.add j) = some u)
    (h0 : 0 < m) (h63 : m ≤ 1125899906842624) (hby : m * i.bytes ≤ 140737488355328)
    (h : ∀ cap w', Q w w' → m ≤ cap → w'.heap.size = w.heap.size + 1 → (∀ j u, news[j]? = some u → w'.cell? ⟨w.heap.size, j, none⟩ = some u) → (∀ j, w'.frozen? ⟨w.heap.size, j, none⟩ = false) → wpList P ops R rest (a.put o.dst (.slice (some ⟨w.heap.size, 0, none⟩) m cap)) w') :
    wpList P ops R (o :: rest) a w := by
  obtain ⟨cap, w', hr, h1, h2, h3, h4, h5⟩ := run_app_new (P := P) w t o.type e i z ht hi hz v hv ad m c news hl hnews h0 h63 hby
  refine wpList_plain hgd fun _ hK => ?_
  unfold Oper.wp execOp
  simp only [ho, resolve, invoke, builtin, Sem.run_bind, Sem.run_pure, Result.andThen_ok, List.map_toArray, List.map_cons, List.map_nil, hs, hx, hr]
  exact hK _ _ (h cap w' h1 h2 h3 h4 h5)
end Go.Proofs.Ytikhmlcmmabapaa
/- Appending samples: a copy of a list; one more sample behind a list of the call's own. -/
namespace Go.Proofs.Ytikhmlcmmabapaa
open Go.RowKit
set_option linter.unusedVariables false
set_option linter.unusedSimpArgs false

def newsR (S : List Nat) : List Value := S.map fun (x : Nat) => .int .u32 (x : Int)
theorem newsR_at {S : List Nat} {j : Nat} {u : Value} (h : (newsR S)[j]? = some u) : j < S.length ∧ u = .int .u32 ((S.getD j 0 : Nat) : Int) := by
  unfold newsR at h
  rw [List.getElem?_map] at h
  cases hj : S[j]? with
  | none => rw [hj] at h; cases h
  | some x =>
    rw [hj] at h
    simp only [Option.map_some, Option.some.injEq] at h
    refine ⟨(List.getElem?_eq_some_iff.1 hj).1, ?_⟩
    rw [List.getD_eq_getElem?_getD, hj, ← h]; rfl
theorem run_app_zeroR {P : Program} (w : World) (t ty e : TypeId) (i : TypeInfo) (ht : P.underlying t = some (.slice e)) (hi : P.info? e = some i) (a : Option Addr) (c : Nat) : (Builtin.append_ #[t, t] ty #[.slice none 0 0, .slice a 0 c]).run P w = .ok (.slice none 0 0) w := by
  cases a <;> simp [Builtin.append_, run_underlying ht, sizeOf, typeInfo, hi, Builtin.lenOf, Builtin.firstCells, loadCells, loadCellsFrom, storeCells]
theorem wpList_copyR (w : World) {ops : Array Oper} {rest : List Oper} {o : Oper} {a : Act} {R : Exit → Act → World → Prop} (hgd : o.guard = none) (x : Operand)
    (ho : o.op = .call { callee := .builtin .append, args := #[.const (.slice none 0 0), x], argTypes := #[22, 22] })
    (ad : Option Addr) (n c : Nat) (S : List Nat) (hn : S.length = n) (h100 : n ≤ 2000) (hx : a.eval x = .slice ad n c) (hS : USl w (.slice ad n c) S)
    (h : ∀ la lc w', Q w w' → USl w' (.slice la n lc) S → wpList Try.prog ops R rest (a.put o.dst (.slice la n lc)) w') :
    wpList Try.prog ops R (o :: rest) a w := by
  obtain ⟨iu, i1, i2, i3, i4⟩ := u32Info
  refine wpList_plain hgd fun _ hK => ?_
  unfold Oper.wp execOp
  by_cases h0 : n = 0
  · subst h0
    have hr := run_app_zeroR (P := Try.prog) w 22 o.type 38 iu Try.underlying22 i1 ad c
    simp only [ho, resolve, invoke, builtin, Sem.run_bind, Sem.run_pure, Result.andThen_ok, List.map_toArray, List.map_cons, List.map_nil, Act.eval, hr]
    simp only [Act.eval] at hx
    rw [hx, hr]
    exact hK _ _ (h none 0 w (Q.refl w) (Or.inr ⟨_, _, rfl, List.eq_nil_of_length_eq_zero hn⟩))
  · obtain ⟨g, o', c', e1, hcap, e3⟩ := hS.some (by omega)
    have hx' := hx
    rw [e1] at hx'
    have hl : (newsR S).length = S.length := by simp [newsR]
    obtain ⟨lc, w', hr, q1, q2, q3, q4, q5⟩ := run_app_new (P := Try.prog) w 22 o.type 38 iu _ Try.underlying22 i1 i4 _ (Or.inl rfl) ⟨g, o', none⟩ S.length c' (newsR S) (by rw [i2, hl, Nat.mul_one]) (fun j u hu => by
      obtain ⟨hj, rfl⟩ := newsR_at hu
      rw [show (⟨g, o', none⟩ : Addr).add j = ⟨g, o' + j, none⟩ by unfold Addr.add; split <;> simp_all]
      exact e3 j hj) (by omega) (by omega) (by rw [i3]; omega)
    simp only [ho, resolve, invoke, builtin, Sem.run_bind, Sem.run_pure, Result.andThen_ok, List.map_toArray, List.map_cons, List.map_nil, Act.eval]
    simp only [Act.eval] at hx'
    rw [hx', hr]
    refine hK _ _ ?_
    have hh := h (some ⟨w.heap.size, 0, none⟩) lc w' q1 (Or.inl ⟨w.heap.size, 0, lc, by rw [hn], by omega, fun j hj => ?_⟩)
    · rw [hn]; exact hh
    · rw [Nat.zero_add]
      refine q4 j _ ?_
      unfold newsR
      rw [List.getElem?_map, List.getD_eq_getElem?_getD, List.getElem?_eq_getElem hj]; rfl
/-- A list of the call's own, to which samples are appended. -/
def OwnR (w0 w : World) (v : Value) (L : List Nat) : Prop := w.ownsRow w0.heap.size 38 1 v L.length (newsR L) ∧ Q w0 w
theorem OwnR.start (w0 w : World) (q : Q w0 w) : OwnR w0 w (.slice none 0 0) [] := ⟨⟨rfl, Or.inl ⟨rfl, rfl⟩⟩, q⟩
theorem OwnR.next {w0 w w' : World} {v : Value} {L : List Nat} (h : OwnR w0 w v L) (q : Q w w') : OwnR w0 w' v L := by
  obtain ⟨⟨h1, h2⟩, hq⟩ := h
  refine ⟨⟨h1, ?_⟩, hq.trans q⟩
  rcases h2 with h2 | ⟨g, cap, cur, rfl, hb, hg, rest⟩
  · exact Or.inl h2
  · exact Or.inr ⟨g, cap, cur, rfl, hb, (q.1.block g (Array.getElem?_eq_some_iff.1 hg).1).trans hg, rest⟩
theorem OwnR.usl {w0 w : World} {v : Value} {L : List Nat} (h : OwnR w0 w v L) : USl w v L := by
  obtain ⟨⟨_, ⟨rfl, h0⟩ | ⟨g, cap, cur, rfl, _, hh, hc, _, hsz, ht⟩⟩, _⟩ := h
  · exact Or.inr ⟨_, _, rfl, List.eq_nil_of_length_eq_zero h0⟩
  · refine Or.inl ⟨g, 0, cap, rfl, hc, fun i hi => ?_⟩
    have hg : cur.toList[i]? = some (.int .u32 ((L.getD i 0 : Nat) : Int)) := by
      have e : (cur.toList.take (L.length * 1))[i]? = (newsR L)[i]? := by rw [ht]
      rw [List.getElem?_take, if_pos (by omega)] at e
      rw [e]
      unfold newsR
      rw [List.getElem?_map, List.getElem?_eq_getElem hi, List.getD_eq_getElem?_getD, List.getElem?_eq_getElem hi]
      rfl
    unfold World.cell?
    simp only [hh, Nat.zero_add]
    rw [Array.getElem?_toList] at hg
    exact hg
theorem wpList_addR (w w0 : World) {ops : Array Oper} {rest : List Oper} {o : Oper} {a : Act} {R : Exit → Act → World → Prop} (hgd : o.guard = none) (s x : Operand)
    (ho : o.op = .call { callee := .builtin .append, args := #[s, x], argTypes := #[22, 22] })
    (v : Value) (L : List Nat) (hs : a.eval s = v) (hown : OwnR w0 w v L)
    (g0 : Nat) (u : Nat) (hx : a.eval x = .slice (some ⟨g0, 0, none⟩) 1 1) (hu : w.cell? ⟨g0, 0, none⟩ = some (.int .u32 (u : Int))) (h63 : L.length + 1 ≤ 100000)
    (h : ∀ v' w', OwnR w0 w' v' (L ++ [u]) → wpList Try.prog ops R rest (a.put o.dst v') w') :
    wpList Try.prog ops R (o :: rest) a w := by
  obtain ⟨iu, i1, i2, i3, i4⟩ := u32Info
  refine wpList_plain hgd fun _ hK => ?_
  unfold Oper.wp execOp
  have hap : newsR (L ++ [u]) = newsR L ++ [.int .u32 (u : Int)] := by simp [newsR]
  obtain ⟨g, cap, w', hr, ho2, hq, hgb, hgg⟩ := run_app_qg (P := Try.prog) w w0 hown.2 22 o.type 38 iu _ 1 4 Try.underlying22 i1 i4 i2 i3 rfl (by decide) v L.length (newsR L) hown.1 ⟨g0, 0, none⟩ 1 1 [.int .u32 (u : Int)] rfl (fun j z hz => by
    cases j with
    | zero => cases hz; exact hu
    | succ j => cases hz) (fun z hz => by rw [List.mem_singleton.1 hz]; rfl) (by decide) (by unfold maxLen; omega) (by omega)
  simp only [ho, resolve, invoke, builtin, Sem.run_bind, Sem.run_pure, Result.andThen_ok, List.map_toArray, List.map_cons, List.map_nil, hs, hx, hr]
  rw [← hap] at ho2
  refine hK _ _ (h _ w' ⟨?_, hq⟩)
  rw [List.length_append]; exact ho2
end Go.Proofs.Ytikhmlcmmabapaa
/- The document's Sorted: what its steps do. -/
namespace Go.Proofs.Ytikhmlcmmabapaa
open Go.RowKit
set_option linter.unusedVariables false
set_option linter.unusedSimpArgs false

theorem slice_lh (g p l c lo hi : Nat) (h1 : lo ≤ hi) (h2 : hi ≤ c) : ∃ ad, (∀ x : World, (Instr.slice 22 (.slice (some ⟨g, p, none⟩) l c) (some (.int .i64 (lo : Int))) (some (.int .i64 (hi : Int))) none).run Try.prog x = .ok (.slice ad (hi - lo) (c - lo)) x) ∧ (lo < hi → ad = some ⟨g, p + lo, none⟩) := by
  by_cases hc : c = lo
  · refine ⟨some ⟨g, p, none⟩, fun x => ?_, fun h => by omega⟩
    rw [run_slice_lh (t := 22) (ht := by kernel_rfl) (h0 := by omega) (h1 := by omega) (h2 := by omega)]
    simp [go_sem, sliced, hc]
  · refine ⟨some ⟨g, p + lo, none⟩, fun x => ?_, fun _ => rfl⟩
    rw [run_slice_lh (t := 22) (ht := by kernel_rfl) (h0 := by omega) (h1 := by omega) (h2 := by omega)]
    simp [go_sem, sliced, hc]
theorem slice_one (g p l c : Nat) (h1 : 1 ≤ l) (h2 : l ≤ c) : ∃ ad, (∀ x : World, (Instr.slice 22 (.slice (some ⟨g, p, none⟩) l c) (some (.int .i64 1)) none none).run Try.prog x = .ok (.slice ad (l - 1) (c - 1)) x) ∧ (1 < l → ad = some ⟨g, p + 1, none⟩) := by
  by_cases hc : c = 1
  · refine ⟨some ⟨g, p, none⟩, fun x => ?_, fun h => by omega⟩
    rw [run_slice_l (t := 22) (ht := by kernel_rfl) (h0 := by omega) (h1 := by omega)]
    simp [go_sem, sliced, hc]
  · refine ⟨some ⟨g, p + 1, none⟩, fun x => ?_, fun _ => rfl⟩
    rw [run_slice_l (t := 22) (ht := by kernel_rfl) (h0 := by omega) (h1 := by omega)]
    simp [go_sem, sliced, hc]
theorem rkey12_any (s : Nat) (h : s < 4294967296) (w : World) : Calls Try.prog 63 #[.int .u32 (s : Int)] w fun e w' => e = .returned (.int .u32 ((keyN s : Nat) : Int)) ∧ w' = w := by
  by_cases g : s < 2147483648
  · have h1 : (s : Int) / 2147483648 = 0 := by omega
    have e : ((keyN s : Nat) : Int) = (s : Int) + 2147483648 := by unfold keyN; rw [if_pos g]; omega
    rw [e]
    go_enter Try.func63, Try.ntmps63
    go_wp2_with fail
    go_ret
    exact ⟨rfl, rfl⟩
  · have h1 : (s : Int) / 2147483648 = 1 := by omega
    have e : ((keyN s : Nat) : Int) = 4294967295 - (s : Int) := by unfold keyN; rw [if_neg g]; omega
    rw [e]
    go_enter Try.func63, Try.ntmps63
    go_wp2_with fail
    go_ret
    exact ⟨rfl, rfl⟩
/-- What is left of a run: it lies in block g. -/
def Rst (w : World) (g : Nat) (ad : Option Addr) (l c : Nat) (a : List Nat) : Prop := a.length = l ∧ l ≤ c ∧ (1 ≤ l → ∃ p, ad = some ⟨g, p, none⟩ ∧ UIs w g p a) ∧ ∀ x ∈ a, x < 4294967296
theorem Rst.head {w : World} {g : Nat} {ad : Option Addr} {l c : Nat} {a : List Nat} (h : Rst w g ad l c a) (hl : 1 ≤ l) : ∃ p x xs, a = x :: xs ∧ ad = some ⟨g, p, none⟩ ∧ w.cell? ⟨g, p, none⟩ = some (.int .u32 (x : Int)) ∧ x < 4294967296 ∧ ∀ ad', (1 < l → ad' = some ⟨g, p + 1, none⟩) → Rst w g ad' (l - 1) (c - 1) xs := by
  obtain ⟨h1, h2, h3, h4⟩ := h
  obtain ⟨p, e, hU⟩ := h3 hl
  cases a with
  | nil => simp at h1; omega
  | cons x xs =>
    have hc := hU 0 (by simp)
    rw [Nat.add_zero] at hc
    rw [List.length_cons] at h1
    refine ⟨p, x, xs, rfl, e, hc, h4 x (by simp), fun ad' had => ⟨by omega, by omega, fun hl2 => ⟨p + 1, had (by omega), fun i hi => ?_⟩, fun y hy => h4 y (by simp [hy])⟩⟩
    have := hU (i + 1) (by simp; omega)
    rw [show p + (i + 1) = p + 1 + i by omega] at this
    exact this
theorem Rst.nil {w : World} {g : Nat} {ad : Option Addr} {l c : Nat} {a : List Nat} (h : Rst w g ad l c a) (hl : l = 0) : a = [] := List.eq_nil_of_length_eq_zero (by rw [h.1, hl])
theorem rst_seg {w : World} {g o N c lo hi : Nat} {A : List Nat} {ad : Option Addr} (hU : UIs w g o A) (hN : A.length = N) (hc : N ≤ c) (h1 : lo ≤ hi) (h2 : hi ≤ N) (n : Nat) (hn : hi - lo = min n (N - lo)) (had : lo < hi → ad = some ⟨g, o + lo, none⟩) (hb : ∀ x ∈ A, x < 4294967296) : Rst w g ad (hi - lo) (c - lo) ((A.drop lo).take n) := by
  refine ⟨by rw [seg_len, hN, hn], by omega, fun hl => ⟨o + lo, had (by omega), fun i hi' => ?_⟩, fun x hx => hb x (List.mem_of_mem_drop (List.mem_of_mem_take hx))⟩
  rw [seg_getD hi']
  rw [seg_len, hN] at hi'
  have := hU (lo + i) (by omega)
  rw [show o + (lo + i) = o + lo + i by omega] at this
  exact this
end Go.Proofs.Ytikhmlcmmabapaa
/- The document's Sorted, walked. -/
namespace Go.Proofs.Ytikhmlcmmabapaa
open Go.RowKit
set_option linter.unusedVariables false
set_option linter.unusedSimpArgs false

set_option maxHeartbeats 8000000 in
set_option maxRecDepth 100000 in
theorem rsorted_any (L : List Nat) (N c0 : Nat) (ad0 : Option Addr) (w : World) (hN : L.length = N) (hU : USl w (.slice ad0 N c0) L) (hb : ∀ s ∈ L, s < 4294967296) (hN2 : N ≤ 2000) :
    Calls Try.prog 47 #[.slice ad0 N c0] w fun e w' => ∃ ad c, e = .returned (.slice ad N c) ∧ USl w' (.slice ad N c) (rkL L) ∧ Q w w' := by
  have HU : Hid (USl w (.slice ad0 N c0) L ∧ L.length = N ∧ ∀ s ∈ L, s < 4294967296) := ⟨hU, hN, hb⟩
  clear hU hN hb
  go_enter Try.func47, Try.ntmps47
  go_wp2_with (at_builtin; go_must (refine wpList_copyR _ rfl _ rfl ad0 N c0 L HU.out.2.1 hN2 rfl HU.out.1 ?_))
  intro la lc w1 q1 u1
  have H1 : Hid (USl w1 (.slice la N lc) L ∧ Q w w1) := ⟨u1, q1⟩
  clear q1 u1
  go_wp2_with fail
  go_loopg [3, 4] N (fun m s3 s4 wr => ∃ (ad : Option Addr) (c n : Nat) (A : List Nat), s3 = .slice ad N c ∧ s4 = .int .i64 (n : Int) ∧ N - n ≤ m ∧ n ≤ 4000 ∧ Hid (USl wr (.slice ad N c) A ∧ A.Perm L ∧ RunS n A ∧ 1 ≤ n ∧ Q w wr))
  case atStart => exact ⟨la, lc, 1, L, rfl, rfl, by omega, by omega, H1.out.1, List.Perm.refl _, runs_one L, Nat.le_refl 1, H1.out.2⟩
  case round =>
    clear H1
    obtain ⟨ad, c, n, A, rfl, rfl, hm, hn4, HA⟩ := hrel
    generalize wr = wo at *
    by_cases hlt : n < N
    · have hlt' : (n : Int) < (N : Int) := by omega
      have hn1 : 1 ≤ n := HA.out.2.2.2.1
      have hAl : A.length = N := by rw [HA.out.2.1.length_eq]; exact HU.out.2.1
      obtain ⟨g, o, cc, hv, hcs, hUI⟩ := HA.out.1.some (by omega)
      rw [hAl] at hv hcs
      injection hv with hv1 _ hv2
      subst hv1 hv2
      have HB : Hid (UIs wo g o A ∧ A.length = N ∧ (∀ x ∈ A, x < 4294967296) ∧ N ≤ c) := ⟨hUI, hAl, fun x hx => HU.out.2.2 x (HA.out.2.1.mem_iff.1 hx), hcs⟩
      clear hAl hUI
      go_wp2_with fail
      go_loopg [5, 6] N (fun m2 s5 s6 wx => ∃ (v5 : Value) (at' : Nat) (D : List Nat), v5 = s5 ∧ s6 = .int .i64 (at' : Int) ∧ N - at' ≤ m2 ∧ at' ≤ 20000 ∧ Hid (OwnR wo wx v5 D ∧ Mrg A D n at'))
      case atStart => exact ⟨_, 0, [], rfl, rfl, by omega, by omega, OwnR.start wo wo (Q.refl wo), Mrg.start A n⟩
      case round =>
        obtain ⟨v5, at', D, rfl, rfl, hm2, hat4, HD⟩ := hrel
        by_cases hat : at' < N
        · have hat' : (at' : Int) < (N : Int) := by omega
          go_wp2_with fail
          obtain ⟨p1, hp1⟩ : ∃ p1, at' + n = p1 := ⟨_, rfl⟩
          obtain ⟨t2, ht2⟩ : ∃ t2, 2 * n = t2 := ⟨_, rfl⟩
          obtain ⟨p2, hp2⟩ : ∃ p2, at' + t2 = p2 := ⟨_, rfl⟩
          obtain ⟨h1, hh1⟩ : ∃ h1, min p1 N = h1 := ⟨_, rfl⟩
          obtain ⟨h2, hh2⟩ : ∃ h2, min p2 N = h2 := ⟨_, rfl⟩
          have e1 : (at' : Int) + (n : Int) = (p1 : Int) := by omega
          have e2 : 2 * (n : Int) = (t2 : Int) := by omega
          have e3 : (at' : Int) + (t2 : Int) = (p2 : Int) := by omega
          have e4 : (if N < p1 then (N : Int) else (p1 : Int)) = (h1 : Int) := by split <;> omega
          have e5 : (if N < p2 then (N : Int) else (p2 : Int)) = (h2 : Int) := by split <;> omega
          have v1 : IntKind.i64.wrap (p1 : Int) = (p1 : Int) := by rw [IntKind.wrap_i64]; omega
          have v2 : IntKind.i64.wrap (t2 : Int) = (t2 : Int) := by rw [IntKind.wrap_i64]; omega
          have v3 : IntKind.i64.wrap (p2 : Int) = (p2 : Int) := by rw [IntKind.wrap_i64]; omega
          obtain ⟨ada, sl1, had⟩ := slice_lh g o N c at' h1 (by omega) (by omega)
          obtain ⟨adb, sl2, hbd⟩ := slice_lh g o N c h1 h2 (by omega) (by omega)
          have hseg : (A.drop (at' + n)).take n = (A.drop h1).take n := by
            by_cases h : p1 ≤ N
            · rw [show at' + n = h1 by omega]
            · rw [List.drop_eq_nil_of_le (by rw [HB.out.2.1]; omega), List.drop_eq_nil_of_le (by rw [HB.out.2.1]; omega)]
          have HR : Hid (Rst wo g ada (h1 - at') (c - at') ((A.drop at').take n) ∧ Rst wo g adb (h2 - h1) (c - h1) ((A.drop (at' + n)).take n)) := by
            refine ⟨rst_seg HB.out.1 HB.out.2.1 HB.out.2.2.2 (by omega) (by omega) n (by omega) had HB.out.2.2.1, ?_⟩
            rw [hseg]
            exact rst_seg HB.out.1 HB.out.2.1 HB.out.2.2.2 (by omega) (by omega) n (by omega) hbd HB.out.2.2.1
          have HEQ : Hid (at' + n = p1 ∧ 2 * n = t2 ∧ at' + t2 = p2 ∧ min p1 N = h1 ∧ min p2 N = h2) := ⟨hp1, ht2, hp2, hh1, hh2⟩
          obtain ⟨la', hla⟩ : ∃ la', h1 - at' = la' := ⟨_, rfl⟩
          obtain ⟨lb', hlb⟩ : ∃ lb', h2 - h1 = lb' := ⟨_, rfl⟩
          obtain ⟨ca', hca⟩ : ∃ ca', c - at' = ca' := ⟨_, rfl⟩
          obtain ⟨cb', hcb⟩ : ∃ cb', c - h1 = cb' := ⟨_, rfl⟩
          rw [hla, hca] at sl1 HR
          rw [hlb, hcb] at sl2 HR
          have hlim : la' + lb' ≤ 2000 := by omega
          have n0 := qw_some wr
          clear hp1 ht2 hp2 hh1 hh2 had hbd hseg hla hlb hca hcb
          refine wp_region_quiet_Q (by kernel_rfl) (by kernel_rfl) ?_
          repeat (first | go_big_quiet_step (fail) | quiet_step (fail))
          refine wpQuiet_nil ?_
          intro w4 hw'
          have HD4 : Hid (OwnR wo w4 v5 D ∧ Mrg A D n at') := ⟨HD.out.1.next (qw_out hw'), HD.out.2⟩
          have HM0 : Hid (D ++ List.merge ((A.drop at').take n) ((A.drop (at' + n)).take n) leK = D ++ mblk A n at') := rfl
          clear hw' n0 HD sl1 sl2 e1 e2 e3 e4 e5 v1 v2 v3
          go_wp2_with fail
          go_loopg [5, 7, 8] (la' + lb') (fun m3 s5 s7 s8 wy => ∃ (v : Value) (aa ab : Option Addr) (x1 x2 y1 y2 : Nat) (E a b : List Nat), v = s5 ∧ s7 = .slice aa x1 x2 ∧ s8 = .slice ab y1 y2 ∧ x1 + y1 = m3 ∧ Hid (OwnR wo wy v E ∧ E ++ List.merge a b leK = D ++ mblk A n at' ∧ Rst wo g aa x1 x2 a ∧ Rst wo g ab y1 y2 b))
          case atStart => exact ⟨v5, ada, adb, la', ca', lb', cb', D, _, _, rfl, rfl, rfl, rfl, HD4.out.1, HM0.out, HR.out.1, HR.out.2⟩
          case round =>
            clear HM0
            obtain ⟨v, aa, ab, x1, x2, y1, y2, E, a, b, rfl, rfl, rfl, hxy, HI⟩ := hrel
            have hEl : E.length + x1 + y1 ≤ 4000 := by
              have h1 := congrArg List.length HI.out.2.1
              rw [List.length_append, List.length_append, (mblk_perm A n at').length_eq, seg_len, HD4.out.2.len, HB.out.2.1, (List.merge_perm_append leK (xs := a) (ys := b)).length_eq, List.length_append, HI.out.2.2.1.1, HI.out.2.2.2.1] at h1
              omega
            by_cases hz : x1 + y1 = 0
            · obtain rfl : x1 = 0 := by omega
              obtain rfl : y1 = 0 := by omega
              have hp2 : at' + 2 * n = p2 := by have := HEQ.out; omega
              have HN : Hid (OwnR wo wr v (D ++ mblk A n at') ∧ Mrg A (D ++ mblk A n at') n p2) := by
                rw [← hp2]
                have h1 := HI.out.2.1
                rw [HI.out.2.2.1.nil rfl, HI.out.2.2.2.nil rfl] at h1
                have h2 : E = D ++ mblk A n at' := by simpa using h1
                rw [← h2]
                refine ⟨HI.out.1, ?_⟩
                rw [h2]
                exact HD4.out.2.step hn1 HA.out.2.2.1 (by rw [HB.out.2.1]; exact hat)
              have e2 : 2 * (n : Int) = (t2 : Int) := by have := HEQ.out; omega
              have e3 : (at' : Int) + (t2 : Int) = (p2 : Int) := by have := HEQ.out; omega
              have hp3 : at' < p2 ∧ p2 ≤ 10000 := by omega
              clear HI hp2
              go_wp2_with fail
              go_roundg (N - p2)
              case measure => go_light; omega
              case rel => go_light; exact ⟨v, p2, D ++ mblk A n at', rfl, by go_num, by omega, by omega, HN⟩
            · have hpos : (0 : Int) < (x1 : Int) + (y1 : Int) := by omega
              by_cases hy0 : y1 = 0
              · have eb := HI.out.2.2.2.nil hy0
                obtain ⟨p, x, xs, ea, rfl, cx0, hx4, ha⟩ := HI.out.2.2.1.head (by omega)
                have cx := HI.out.1.2.cell cx0
                subst hy0
                have hx0n : 0 < x1 := by omega
                clear cx0
                have n0 := qw_some wr
                obtain ⟨adn, hsl, hadn⟩ := slice_one g p x1 x2 (by omega) HI.out.2.2.1.2.1
                obtain ⟨ln, hln⟩ : ∃ ln, x1 - 1 = ln := ⟨_, rfl⟩
                obtain ⟨cn, hcn⟩ : ∃ cn, x2 - 1 = cn := ⟨_, rfl⟩
                have hR := ha adn hadn
                rw [hln, hcn] at hsl hR
                have HMg : Hid ((E ++ [x]) ++ List.merge xs b leK = D ++ mblk A n at' ∧ Rst wo g adn ln cn xs ∧ Rst wo g ab 0 y2 b ∧ OwnR wo wr v E) := by
                  have h1 := HI.out.2.1
                  refine ⟨?_, hR, HI.out.2.2.2, HI.out.1⟩
                  rw [ea, eb, merge_a] at h1
                  rw [eb, ← h1]; simp
                clear hR hadn ha ea eb
                go_wp2_with fail
                refine wp_region_quiet_Q (by kernel_rfl) (by kernel_rfl) ?_
                repeat (first | go_big_quiet_step (fail) | quiet_step (fail))
                refine wpQuiet_nil ?_
                intro w5 hw'
                have q5 := qw_out hw'
                have c5 := q5.cell cx
                obtain ⟨w6, hw6⟩ : ∃ w6, w5.alloc (.cells #[.int .u32 (x : Int)] 38) = w6 := ⟨_, rfl⟩
                have HO6 : Hid (OwnR wo w6 v E ∧ w6.cell? ⟨w5.heap.size, 0, none⟩ = some (.int .u32 (x : Int))) := by
                  rw [← hw6]
                  exact ⟨HMg.out.2.2.2.next (q5.cells _ _), by simp [go_sem]⟩
                clear hw' q5 n0 HI
                go_wp2_with (at_builtin; go_must (refine wpList_addR _ wo rfl _ _ rfl v E rfl HO6.out.1 w5.heap.size x rfl HO6.out.2 (by omega) ?_))
                intro v' w7 ho7
                have HO7 : Hid (OwnR wo w7 v' (E ++ [x])) := ho7
                clear ho7 hw6 HO6 c5
                go_wp2_with fail
                go_roundg (ln + 0)
                case measure => go_light; omega
                case rel => go_light; exact ⟨v', adn, ab, ln, cn, 0, y2, E ++ [x], xs, b, rfl, rfl, rfl, rfl, HO7.out, HMg.out.1, HMg.out.2.1, HMg.out.2.2.1⟩
              · obtain ⟨r, y, ys, eb, rfl, cy0, hy4, hb⟩ := HI.out.2.2.2.head (by omega)
                have cy := HI.out.1.2.cell cy0
                have hy0n : 0 < y1 := by omega
                have hyb : ((y1 : Int) == 0) = false := by simp; omega
                by_cases hx0 : x1 = 0
                · have ea := HI.out.2.2.1.nil hx0
                  subst hx0
                  clear cy0
                  have n0 := qw_some wr
                  obtain ⟨adn, hsl, hadn⟩ := slice_one g r y1 y2 (by omega) HI.out.2.2.2.2.1
                  obtain ⟨ln, hln⟩ : ∃ ln, y1 - 1 = ln := ⟨_, rfl⟩
                  obtain ⟨cn, hcn⟩ : ∃ cn, y2 - 1 = cn := ⟨_, rfl⟩
                  have hR := hb adn hadn
                  rw [hln, hcn] at hsl hR
                  have HMg : Hid ((E ++ [y]) ++ List.merge a ys leK = D ++ mblk A n at' ∧ Rst wo g adn ln cn ys ∧ Rst wo g aa 0 x2 a ∧ OwnR wo wr v E) := by
                    have h1 := HI.out.2.1
                    refine ⟨?_, hR, HI.out.2.2.1, HI.out.1⟩
                    rw [ea, eb, merge_b] at h1
                    rw [ea, ← h1]; simp
                  clear hR hadn hb ea eb
                  go_wp2_with fail
                  refine wp_region_quiet_Q (by kernel_rfl) (by kernel_rfl) ?_
                  repeat (first | go_big_quiet_step (fail) | quiet_step (fail))
                  refine wpQuiet_nil ?_
                  intro w5 hw'
                  have q5 := qw_out hw'
                  have c5 := q5.cell cy
                  obtain ⟨w6, hw6⟩ : ∃ w6, w5.alloc (.cells #[.int .u32 (y : Int)] 38) = w6 := ⟨_, rfl⟩
                  have HO6 : Hid (OwnR wo w6 v E ∧ w6.cell? ⟨w5.heap.size, 0, none⟩ = some (.int .u32 (y : Int))) := by
                    rw [← hw6]
                    exact ⟨HMg.out.2.2.2.next (q5.cells _ _), by simp [go_sem]⟩
                  clear hw' q5 n0 HI
                  go_wp2_with (at_builtin; go_must (refine wpList_addR _ wo rfl _ _ rfl v E rfl HO6.out.1 w5.heap.size y rfl HO6.out.2 (by omega) ?_))
                  intro v' w7 ho7
                  have HO7 : Hid (OwnR wo w7 v' (E ++ [y])) := ho7
                  clear ho7 hw6 HO6 c5
                  go_wp2_with fail
                  go_roundg (0 + ln)
                  case measure => go_light; omega
                  case rel => go_light; exact ⟨v', aa, adn, 0, x2, ln, cn, E ++ [y], a, ys, rfl, rfl, rfl, rfl, HO7.out, HMg.out.1, HMg.out.2.2.1, HMg.out.2.1⟩
                · obtain ⟨p, x, xs, ea, rfl, cx0, hx4, ha⟩ := HI.out.2.2.1.head (by omega)
                  have cx := HI.out.1.2.cell cx0
                  have hx0n : 0 < x1 := by omega
                  have hxp : (0 : Int) < (x1 : Int) := by omega
                  have CK : Hid (∀ (z : Nat) (w : World), (z = x ∨ z = y) → Calls Try.prog 63 #[.int .u32 (z : Int)] w fun e w' => e = .returned (.int .u32 ((keyN z : Nat) : Int)) ∧ w' = w) := fun z w hz => rkey12_any z (by rcases hz with rfl | rfl <;> assumption) w
                  clear cx0 cy0
                  by_cases hcmp : keyN x ≤ keyN y
                  · have HC : Hid (keyN x ≤ keyN y) := hcmp
                    have hcz : ((keyN x : Nat) : Int) ≤ ((keyN y : Nat) : Int) := by omega
                    have n0 := qw_some wr
                    have q1 := qw_cell cx
                    have q2 := qw_cell cy
                    obtain ⟨adn, hsl, hadn⟩ := slice_one g p x1 x2 (by omega) HI.out.2.2.1.2.1
                    obtain ⟨ln, hln⟩ : ∃ ln, x1 - 1 = ln := ⟨_, rfl⟩
                    obtain ⟨cn, hcn⟩ : ∃ cn, x2 - 1 = cn := ⟨_, rfl⟩
                    have hR := ha adn hadn
                    rw [hln, hcn] at hsl hR
                    have HMg : Hid ((E ++ [x]) ++ List.merge xs b leK = D ++ mblk A n at' ∧ Rst wo g adn ln cn xs ∧ Rst wo g (some ⟨g, r, none⟩) y1 y2 b ∧ OwnR wo wr v E) := by
                      have h1 := HI.out.2.1
                      refine ⟨?_, hR, HI.out.2.2.2, HI.out.1⟩
                      rw [ea, eb, merge_le (by unfold leK; exact decide_eq_true HC.out)] at h1
                      rw [eb, ← h1]; simp
                    clear hR hadn ha hb ea eb
                    go_wp2_with fail
                    refine wp_region_quiet_Q (by kernel_rfl) (by kernel_rfl) ?_
                    repeat (first | go_big_quiet_step (first | (go_at_call 63; exact calls_qs (CK.out _ _ (by first | exact Or.inl rfl | exact Or.inr rfl)))) | quiet_step (first | (go_at_call 63; exact calls_qs (CK.out _ _ (by first | exact Or.inl rfl | exact Or.inr rfl)))))
                    refine wpQuiet_nil ?_
                    intro w5 hw'
                    have q5 := qw_out hw'
                    have c5 := q5.cell cx
                    obtain ⟨w6, hw6⟩ : ∃ w6, w5.alloc (.cells #[.int .u32 (x : Int)] 38) = w6 := ⟨_, rfl⟩
                    have HO6 : Hid (OwnR wo w6 v E ∧ w6.cell? ⟨w5.heap.size, 0, none⟩ = some (.int .u32 (x : Int))) := by
                      rw [← hw6]
                      exact ⟨HMg.out.2.2.2.next (q5.cells _ _), by simp [go_sem]⟩
                    clear hw' q5 n0 HI q1 q2
                    go_wp2_with (at_builtin; go_must (refine wpList_addR _ wo rfl _ _ rfl v E rfl HO6.out.1 w5.heap.size x rfl HO6.out.2 (by omega) ?_))
                    intro v' w7 ho7
                    have HO7 : Hid (OwnR wo w7 v' (E ++ [x])) := ho7
                    clear ho7 hw6 HO6 c5
                    go_wp2_with fail
                    go_roundg (ln + y1)
                    case measure => go_light; omega
                    case rel => go_light; exact ⟨v', adn, some ⟨g, r, none⟩, ln, cn, y1, y2, E ++ [x], xs, b, rfl, rfl, rfl, rfl, HO7.out, HMg.out.1, HMg.out.2.1, HMg.out.2.2.1⟩
                  · have HC : Hid (keyN y < keyN x) := by show keyN y < keyN x; omega
                    have hcz : ¬ ((keyN x : Nat) : Int) ≤ ((keyN y : Nat) : Int) := by omega
                    have n0 := qw_some wr
                    have q1 := qw_cell cx
                    have q2 := qw_cell cy
                    obtain ⟨adn, hsl, hadn⟩ := slice_one g r y1 y2 (by omega) HI.out.2.2.2.2.1
                    obtain ⟨ln, hln⟩ : ∃ ln, y1 - 1 = ln := ⟨_, rfl⟩
                    obtain ⟨cn, hcn⟩ : ∃ cn, y2 - 1 = cn := ⟨_, rfl⟩
                    have hR := hb adn hadn
                    rw [hln, hcn] at hsl hR
                    have HMg : Hid ((E ++ [y]) ++ List.merge a ys leK = D ++ mblk A n at' ∧ Rst wo g adn ln cn ys ∧ Rst wo g (some ⟨g, p, none⟩) x1 x2 a ∧ OwnR wo wr v E) := by
                      have h1 := HI.out.2.1
                      refine ⟨?_, hR, HI.out.2.2.1, HI.out.1⟩
                      rw [ea, eb, merge_gt (by unfold leK; exact decide_eq_false (by have := HC.out; omega))] at h1
                      rw [ea, ← h1]; simp
                    clear hR hadn ha hb ea eb
                    go_wp2_with fail
                    refine wp_region_quiet_Q (by kernel_rfl) (by kernel_rfl) ?_
                    repeat (first | go_big_quiet_step (first | (go_at_call 63; exact calls_qs (CK.out _ _ (by first | exact Or.inl rfl | exact Or.inr rfl)))) | quiet_step (first | (go_at_call 63; exact calls_qs (CK.out _ _ (by first | exact Or.inl rfl | exact Or.inr rfl)))))
                    refine wpQuiet_nil ?_
                    intro w5 hw'
                    have q5 := qw_out hw'
                    have c5 := q5.cell cy
                    obtain ⟨w6, hw6⟩ : ∃ w6, w5.alloc (.cells #[.int .u32 (y : Int)] 38) = w6 := ⟨_, rfl⟩
                    have HO6 : Hid (OwnR wo w6 v E ∧ w6.cell? ⟨w5.heap.size, 0, none⟩ = some (.int .u32 (y : Int))) := by
                      rw [← hw6]
                      exact ⟨HMg.out.2.2.2.next (q5.cells _ _), by simp [go_sem]⟩
                    clear hw' q5 n0 HI q1 q2
                    go_wp2_with (at_builtin; go_must (refine wpList_addR _ wo rfl _ _ rfl v E rfl HO6.out.1 w5.heap.size y rfl HO6.out.2 (by omega) ?_))
                    intro v' w7 ho7
                    have HO7 : Hid (OwnR wo w7 v' (E ++ [y])) := ho7
                    clear ho7 hw6 HO6 c5
                    go_wp2_with fail
                    go_roundg (x1 + ln)
                    case measure => go_light; omega
                    case rel => go_light; exact ⟨v', some ⟨g, p, none⟩, adn, x1, x2, ln, cn, E ++ [y], a, ys, rfl, rfl, rfl, rfl, HO7.out, HMg.out.1, HMg.out.2.2.1, HMg.out.2.1⟩
        · have hge2 : ¬ (at' : Int) < (N : Int) := by omega
          obtain ⟨adz, cz, hvz⟩ := HD.out.1.usl.form
          have hDn := HD.out.2.done (by rw [HB.out.2.1]; omega)
          have hDl : D.length = N := by rw [hDn.1.length_eq]; exact HB.out.2.1
          rw [hDl] at hvz
          subst hvz
          obtain ⟨t2, ht2⟩ : ∃ t2, 2 * n = t2 := ⟨_, rfl⟩
          have e2 : 2 * (n : Int) = (t2 : Int) := by omega
          have HN : Hid (USl wr (.slice adz N cz) D ∧ D.Perm L ∧ RunS t2 D ∧ 1 ≤ t2 ∧ Q w wr) := ⟨HD.out.1.usl, hDn.1.trans HA.out.2.1, by rw [← ht2]; exact hDn.2, by omega, HA.out.2.2.2.2.trans HD.out.1.2⟩
          have ht4 : n < t2 ∧ t2 ≤ 4000 := by omega
          clear HD hDn hDl ht2
          go_wp2_with fail
          go_roundg (N - t2)
          case measure => go_light; omega
          case rel => go_light; exact ⟨adz, cz, t2, D, rfl, rfl, by omega, by omega, HN⟩
    · have hge : ¬ (n : Int) < (N : Int) := by omega
      have e := runs_all HA.out.2.2.1 (by rw [HA.out.2.1.length_eq, HU.out.2.1]; omega) HA.out.2.1 HU.out.2.2
      go_wp2_with fail
      go_ret
      exact ⟨_, _, rfl, by rw [← e]; exact HA.out.1, HA.out.2.2.2.2⟩
end Go.Proofs.Ytikhmlcmmabapaa
/- rank: what is refused; rectangles. -/
namespace Go.Proofs.Ytikhmlcmmabapaa
open Go.RowKit
set_option linter.unusedVariables false
set_option linter.unusedSimpArgs false

/-- A side of a window. -/
def rsdB (n : Int) : Bool := decide (1 ≤ n) && decide (n ≤ 15)
theorem rsdB_true {n : Int} : rsdB n = true ↔ 1 ≤ n ∧ n ≤ 15 := by unfold rsdB; simp
theorem rside_any (n : Int) (w : World) : Calls Try.prog 33 #[.int .i64 n] w fun e w' => e = .returned (.bool (rsdB n)) ∧ w' = w := by
  by_cases h1 : 1 ≤ n
  · by_cases h2 : n ≤ 15
    · have e : rsdB n = true := rsdB_true.2 ⟨h1, h2⟩
      rw [e]
      clear e
      go_enter Try.func33, Try.ntmps33
      go_wp2_with fail
      go_ret
      exact ⟨rfl, rfl⟩
    · have e : rsdB n = false := by unfold rsdB; simp [h2]
      rw [e]
      clear e
      go_enter Try.func33, Try.ntmps33
      go_wp2_with fail
      go_ret
      exact ⟨rfl, rfl⟩
  · have e : rsdB n = false := by unfold rsdB; simp [h1]
    rw [e]
    clear e
    go_enter Try.func33, Try.ntmps33
    go_wp2_with fail
    go_ret
    exact ⟨rfl, rfl⟩
/-- How many places a window has. -/
def cntV (w h : Int) : Int := if rsdB w = true then (if rsdB h = true then w * h else 0) else 0
theorem win_area {a b : Int} (ha : 1 ≤ a ∧ a ≤ 15) (hb : 1 ≤ b ∧ b ≤ 15) : 1 ≤ a * b ∧ a * b ≤ 225 := by
  have h1 : 1 * 1 ≤ a * b := Int.mul_le_mul ha.1 hb.1 (by omega) (by omega)
  have h2 : a * b ≤ 15 * 15 := Int.mul_le_mul ha.2 hb.2 (by omega) (by omega)
  omega
theorem cntV_bd (w h : Int) : 0 ≤ cntV w h ∧ cntV w h ≤ 225 := by
  unfold cntV
  split
  · rename_i h1
    split
    · rename_i h2
      have := win_area (rsdB_true.1 h1) (rsdB_true.1 h2)
      omega
    · omega
  · omega
theorem cntV_pos {w h : Int} (g : cntV w h ≠ 0) : ∃ a b : Nat, w = (a : Int) ∧ h = (b : Int) ∧ 1 ≤ a ∧ a ≤ 15 ∧ 1 ≤ b ∧ b ≤ 15 ∧ cntV w h = ((a * b : Nat) : Int) := by
  unfold cntV at g ⊢
  split at g
  · rename_i h1
    split at g
    · rename_i h2
      have h3 := rsdB_true.1 h1
      have h4 := rsdB_true.1 h2
      rw [if_pos h1, if_pos h2]
      exact ⟨w.toNat, h.toNat, by omega, by omega, by omega, by omega, by omega, by omega, by rw [Int.natCast_mul]; congr 1 <;> omega⟩
    · exact absurd rfl g
  · exact absurd rfl g
theorem cntV_of {a b : Nat} (h1 : 1 ≤ a) (h2 : a ≤ 15) (h3 : 1 ≤ b) (h4 : b ≤ 15) : cntV a b = ((a * b : Nat) : Int) := by
  unfold cntV
  rw [if_pos (rsdB_true.2 ⟨by omega, by omega⟩), if_pos (rsdB_true.2 ⟨by omega, by omega⟩), Int.natCast_mul]
theorem count_any (W H : Int) (w : World) : Calls Try.prog 23 #[.int .i64 W, .int .i64 H] w fun e w' => e = .returned (.int .i64 (cntV W H)) ∧ w' = w := by
  unfold cntV
  cases hW : rsdB W
  · have A : Calls Try.prog 33 #[.int .i64 W] w fun e w' => e = .returned (.bool false) ∧ w' = w := hW ▸ rside_any W w
    go_enter Try.func23, Try.ntmps23
    go_wp2_with fail
    refine A.mono ?_
    rintro e w1 ⟨rfl, rfl⟩
    go_wp2_with fail
    go_ret
    exact ⟨rfl, rfl⟩
  · have A : Calls Try.prog 33 #[.int .i64 W] w fun e w' => e = .returned (.bool true) ∧ w' = w := hW ▸ rside_any W w
    cases hH : rsdB H
    · have B : Calls Try.prog 33 #[.int .i64 H] w fun e w' => e = .returned (.bool false) ∧ w' = w := hH ▸ rside_any H w
      go_enter Try.func23, Try.ntmps23
      go_wp2_with fail
      refine A.mono ?_
      rintro e w1 ⟨rfl, rfl⟩
      go_wp2_with fail
      refine B.mono ?_
      rintro e w1 ⟨rfl, rfl⟩
      go_wp2_with fail
      go_ret
      exact ⟨rfl, rfl⟩
    · have B : Calls Try.prog 33 #[.int .i64 H] w fun e w' => e = .returned (.bool true) ∧ w' = w := hH ▸ rside_any H w
      have h3 := win_area (rsdB_true.1 hW) (rsdB_true.1 hH)
      clear hW hH
      rw [if_pos rfl, if_pos rfl]
      generalize hA : W * H = A0 at h3
      go_enter Try.func23, Try.ntmps23
      go_wp2_with fail
      refine A.mono ?_
      rintro e w1 ⟨rfl, rfl⟩
      go_wp2_with fail
      refine B.mono ?_
      rintro e w1 ⟨rfl, rfl⟩
      go_wp2_with fail
      go_ret
      exact ⟨rfl, rfl⟩

/-- P12.2's errors. -/
def rkE (pw ph : Int) (n : Nat) (bd W H k : Int) : Int := if chk pw ph n = 0 then (if cntV W H = 0 then 120 else if k < 0 then 121 else if cntV W H ≤ k then 121 else borE bd pw) else chk pw ph n
set_option maxHeartbeats 2000000 in
theorem refusal12_any (pw ph : Int) (ad : Option Addr) (n c : Nat) (bd W H k : Int) (hn : n ≤ 9223372036854775807) (w : World) :
    Calls Try.prog 24 #[.agg #[.int .i64 pw, .int .i64 ph, .slice ad n c], .int .i64 bd, .int .i64 W, .int .i64 H, .int .i64 k] w fun e w' => e = .returned (.int .i64 (rkE pw ph n bd W H k)) ∧ Q w w' := by
  obtain ⟨w1, hw1⟩ : ∃ w1, w.alloc (.cells #[.int .i64 pw, .int .i64 ph, .slice ad n c] 24) = w1 := ⟨_, rfl⟩
  have HQ : Hid (Q w w1) := by show Q w w1; rw [← hw1]; exact (Q.refl w).cells _ _
  have k0 : w1.cell? ⟨w.heap.size, 0, none⟩ = some (.int .i64 pw) := by rw [← hw1]; simp [go_sem]
  have k1 : w1.cell? ⟨w.heap.size, 1, none⟩ = some (.int .i64 ph) := by rw [← hw1]; simp [go_sem]
  have k2 : w1.cell? ⟨w.heap.size, 2, none⟩ = some (.slice ad n c) := by rw [← hw1]; simp [go_sem]
  have A := check_any pw ph ad n c hn w1
  have B := fun x => count_any W H x
  have D := fun x => border_any bd pw 0 x
  unfold rkE
  obtain ⟨E, hE⟩ : ∃ E, chk pw ph n = E := ⟨_, rfl⟩
  obtain ⟨M, hM⟩ : ∃ M, cntV W H = M := ⟨_, rfl⟩
  obtain ⟨b1, hb1⟩ : ∃ b1, borA bd pw 0 = b1 := ⟨_, rfl⟩
  obtain ⟨b2, hb2⟩ : ∃ b2, borE bd pw = b2 := ⟨_, rfl⟩
  rw [hE] at A
  rw [hM] at B
  rw [hb1, hb2] at D
  rw [hE, hM, hb2]
  clear hE hM hb1 hb2
  have HA : Hid _ := A
  have HB : Hid _ := B
  have HD : Hid _ := D
  clear A B D
  by_cases g0 : E = 0
  · subst g0
    rw [if_pos rfl]
    by_cases g1 : M = 0
    · subst g1
      rw [if_pos rfl]
      go_enter Try.func24, Try.ntmps24
      go_wp2_with fail
      refine Calls.mono HA.out ?_
      rintro e w2 ⟨rfl, q2⟩
      have k0 := q2.cell k0
      have HQ2 : Hid (Q w w2) := HQ.out.trans q2
      clear q2
      go_wp2_with fail
      refine Calls.mono (HB.out _) ?_
      rintro e w3 ⟨rfl, hw2⟩
      obtain rfl := hw2.symm
      go_wp2_with fail
      go_ret
      exact ⟨rfl, HQ2.out⟩
    · rw [if_neg g1]
      have g1b : (M == 0) = false := by simp [g1]
      by_cases g2 : k < 0
      · rw [if_pos g2]
        go_enter Try.func24, Try.ntmps24
        go_wp2_with fail
        refine Calls.mono HA.out ?_
        rintro e w2 ⟨rfl, q2⟩
        have k0 := q2.cell k0
        have HQ2 : Hid (Q w w2) := HQ.out.trans q2
        clear q2
        go_wp2_with fail
        refine Calls.mono (HB.out _) ?_
        rintro e w3 ⟨rfl, hw2⟩
        obtain rfl := hw2.symm
        go_wp2_with fail
        go_ret
        exact ⟨rfl, HQ2.out⟩
      · rw [if_neg g2]
        by_cases g3 : M ≤ k
        · rw [if_pos g3]
          go_enter Try.func24, Try.ntmps24
          go_wp2_with fail
          refine Calls.mono HA.out ?_
          rintro e w2 ⟨rfl, q2⟩
          have k0 := q2.cell k0
          have HQ2 : Hid (Q w w2) := HQ.out.trans q2
          clear q2
          go_wp2_with fail
          refine Calls.mono (HB.out _) ?_
          rintro e w3 ⟨rfl, hw2⟩
          obtain rfl := hw2.symm
          go_wp2_with fail
          go_ret
          exact ⟨rfl, HQ2.out⟩
        · rw [if_neg g3]
          have g4 : k < M := by omega
          go_enter Try.func24, Try.ntmps24
          go_wp2_with fail
          refine Calls.mono HA.out ?_
          rintro e w2 ⟨rfl, q2⟩
          have k0 := q2.cell k0
          have HQ2 : Hid (Q w w2) := HQ.out.trans q2
          clear q2
          go_wp2_with fail
          refine Calls.mono (HB.out _) ?_
          rintro e w3 ⟨rfl, hw2⟩
          obtain rfl := hw2.symm
          go_wp2_with fail
          refine Calls.mono (HD.out _) ?_
          rintro e w3 ⟨rfl, hw2⟩
          obtain rfl := hw2.symm
          go_wp2_with fail
          go_ret
          exact ⟨rfl, HQ2.out⟩
  · rw [if_neg g0]
    have g0b : (E == 0) = false := by simp [g0]
    go_enter Try.func24, Try.ntmps24
    go_wp2_with fail
    refine Calls.mono HA.out ?_
    rintro e w2 ⟨rfl, q2⟩
    have k0 := q2.cell k0
    have HQ2 : Hid (Q w w2) := HQ.out.trans q2
    clear q2
    go_wp2_with fail
    go_ret
    exact ⟨rfl, HQ2.out⟩

/-- A piece of a side. -/
def spnB (lo hi n : Int) : Bool := decide (0 ≤ lo) && decide (lo < hi) && decide (hi ≤ n)
theorem isspan_any (lo hi n : Int) (w : World) : Calls Try.prog 40 #[.int .i64 lo, .int .i64 hi, .int .i64 n] w fun e w' => e = .returned (.bool (spnB lo hi n)) ∧ w' = w := by
  unfold spnB
  by_cases h1 : 0 ≤ lo
  · by_cases h2 : lo < hi
    · by_cases h3 : hi ≤ n
      · simp only [h1, h2, h3, decide_true, Bool.and_true, Bool.true_and]
        go_enter Try.func40, Try.ntmps40
        go_wp2_with fail
        go_ret
        exact ⟨rfl, rfl⟩
      · simp only [h1, h2, h3, decide_true, decide_false, Bool.and_true, Bool.true_and, Bool.and_false]
        go_enter Try.func40, Try.ntmps40
        go_wp2_with fail
        go_ret
        exact ⟨rfl, rfl⟩
    · simp only [h1, h2, decide_true, decide_false, Bool.and_true, Bool.true_and, Bool.and_false, Bool.false_and]
      go_enter Try.func40, Try.ntmps40
      go_wp2_with fail
      go_ret
      exact ⟨rfl, rfl⟩
  · simp only [h1, decide_false, Bool.false_and]
    go_enter Try.func40, Try.ntmps40
    go_wp2_with fail
    go_ret
    exact ⟨rfl, rfl⟩
theorem iswithin_any (x0 y0 x1 y1 W H : Int) (w : World) : Calls Try.prog 27 #[.agg #[.int .i64 x0, .int .i64 y0, .int .i64 x1, .int .i64 y1], .int .i64 W, .int .i64 H] w fun e w' => e = .returned (.bool (spnB x0 x1 W && spnB y0 y1 H)) ∧ Q w w' := by
  have HQ : Hid (∀ a b, Q w (w.alloc (.cells a b))) := fun a b => (Q.refl w).cells _ _
  have A := fun x => isspan_any x0 x1 W x
  have B := fun x => isspan_any y0 y1 H x
  generalize spnB x0 x1 W = s at A
  generalize spnB y0 y1 H = t at B
  have HA : Hid _ := A
  have HB : Hid _ := B
  clear A B
  cases s
  · go_enter Try.func27, Try.ntmps27
    go_wp2_with fail
    refine Calls.mono (HA.out _) ?_
    rintro e w2 ⟨rfl, hw2⟩
    obtain rfl := hw2.symm
    go_wp2_with fail
    go_ret
    exact ⟨rfl, HQ.out _ _⟩
  · go_enter Try.func27, Try.ntmps27
    go_wp2_with fail
    refine Calls.mono (HA.out _) ?_
    rintro e w2 ⟨rfl, hw2⟩
    obtain rfl := hw2.symm
    go_wp2_with fail
    refine Calls.mono (HB.out _) ?_
    rintro e w2 ⟨rfl, hw2⟩
    obtain rfl := hw2.symm
    go_wp2_with fail
    go_ret
    exact ⟨by simp, HQ.out _ _⟩
end Go.Proofs.Ytikhmlcmmabapaa
/- The document's sample of a rank at a place, and its errors. -/
namespace Go.Proofs.Ytikhmlcmmabapaa
open Go.RowKit
set_option linter.unusedVariables false
set_option linter.unusedSimpArgs false

theorem take_next {L : List Nat} {t : Nat} (h : t < L.length) : L.take (t + 1) = L.take t ++ [L.getD t 0] := by
  rw [List.take_add_one, List.getElem?_eq_getElem h, List.getD_eq_getElem?_getD, List.getElem?_eq_getElem h]; rfl
theorem winL_at {S : List Nat} {pa pb bd W H x y i j : Nat} (hi : i < W) (hj : j < H) : (winL S pa pb bd W H x y).getD (j * W + i) 0 = S.getD (borN bd pb ((y : Int) - (H / 2 : Nat) + (j : Nat)) * pa + borN bd pa ((x : Int) - (W / 2 : Nat) + (i : Nat))) 0 := by
  unfold winL
  rw [tab_get (place_lt hi hj), place_mod j hi, place_div j hi]; rfl
set_option maxHeartbeats 8000000 in
set_option maxRecDepth 100000 in
theorem rat12_any (b pa pb W H k x y gs os n c : Nat) (S : List Nat) (w : World) (hb : b = 1 ∨ b = 2 ∨ b = 3) (hsz : Size pa pb) (hn : n = pa * pb) (hS : S.length = n) (hI : UIs w gs os S) (hSb : ∀ i, S.getD i 0 < 4294967296) (hW : 1 ≤ W) (hW2 : W ≤ 15) (hH : 1 ≤ H) (hH2 : H ≤ 15) (hk : k < W * H) (hx : x < pa) (hy : y < pb) :
    Calls Try.prog 32 #[.agg #[.int .i64 (pa : Int), .int .i64 (pb : Int), .slice (some ⟨gs, os, none⟩) n c], .int .i64 (b : Int), .int .i64 (W : Int), .int .i64 (H : Int), .int .i64 (k : Int), .int .i64 (x : Int), .int .i64 (y : Int)] w fun e w' => e = .returned (.int .u32 ((rnkV S pa pb b W H k x y : Nat) : Int)) ∧ Q w w' := by
  have ha1 := hsz.a1
  have ha2 := hsz.a2
  have hb1 := hsz.b1
  have hb2 := hsz.b2
  have hab := hsz.ab
  have HBr : Hid (∀ (s : Nat) (i : Int) (z : World), 1 ≤ s → s ≤ 1024 → Calls Try.prog 31 #[.int .i64 (b : Int), .int .i64 (s : Int), .int .i64 i] z fun e w' => e = .returned (.tuple #[.int .i64 ((borN b s i : Nat) : Int), .int .i64 0]) ∧ w' = z) := fun s i z h1 h2 => by
    have := rborder_any b s i z
    have hk' : (b : Int) = 1 ∨ (b : Int) = 2 ∨ (b : Int) = 3 := by omega
    have hs : sideB (s : Int) = true := sideB_true.2 ⟨by omega, by omega⟩
    unfold borA borE at this
    rw [if_pos hk', if_pos hs, if_pos hk', if_pos hs] at this
    rw [borN_eq i h1]
    exact this
  have HIn : Hid ((∀ z, Q w z → UIs z gs os S) ∧ S.length = n ∧ n = pa * pb ∧ ∀ i, S.getD i 0 < 4294967296) := ⟨fun z q => hI.next q, hS, hn, hSb⟩
  obtain ⟨w1, hw1⟩ : ∃ w1, w.alloc (.cells #[.int .i64 (pa : Int), .int .i64 (pb : Int), .slice (some ⟨gs, os, none⟩) n c] 24) = w1 := ⟨_, rfl⟩
  have q1 : Q w w1 := by rw [← hw1]; exact (Q.refl w).cells _ _
  have HP : Hid ((w1.cell? ⟨w.heap.size, 0, none⟩ = some (.int .i64 (pa : Int)) ∧ w1.cell? ⟨w.heap.size, 1, none⟩ = some (.int .i64 (pb : Int)) ∧ w1.cell? ⟨w.heap.size, 2, none⟩ = some (.slice (some ⟨gs, os, none⟩) n c)) ∧ Q w w1) := by
    refine ⟨?_, q1⟩
    rw [← hw1]
    exact ⟨by simp [go_sem], by simp [go_sem], by simp [go_sem]⟩
  obtain ⟨bp, hbp⟩ : ∃ bp, w.heap.size = bp := ⟨_, rfl⟩
  rw [hbp] at HP
  obtain ⟨WL, hWL⟩ : ∃ WL, winL S pa pb b W H x y = WL := ⟨_, rfl⟩
  have HWL : Hid (winL S pa pb b W H x y = WL ∧ WL.length = W * H ∧ ∀ s ∈ WL, s < 4294967296) := by
    refine ⟨hWL, ?_, ?_⟩
    · rw [← hWL]; exact winL_len _ _ _ _ _ _ _ _
    · rw [← hWL]; exact winL_lt hSb _ _ _ _ _ _ _
  obtain ⟨z, hz⟩ : ∃ z, rnkV S pa pb b W H k x y = z := ⟨_, rfl⟩
  have HZ : Hid (rkV WL k = z) := by show rkV WL k = z; rw [← hWL, ← hz]; rfl
  rw [hz]
  have eW : Int.tdiv (W : Int) 2 = ((W / 2 : Nat) : Int) := rfl
  have eH : Int.tdiv (H : Int) 2 = ((H / 2 : Nat) : Int) := rfl
  obtain ⟨W2, hW2'⟩ : ∃ W2, W / 2 = W2 := ⟨_, rfl⟩
  obtain ⟨H2, hH2'⟩ : ∃ H2, H / 2 = H2 := ⟨_, rfl⟩
  rw [hW2'] at eW
  rw [hH2'] at eH
  have HWW : Hid (W / 2 = W2 ∧ H / 2 = H2) := ⟨hW2', hH2'⟩
  have c1 : W2 ≤ 7 := by omega
  have c2 : H2 ≤ 7 := by omega
  obtain ⟨fx, hfx⟩ : ∃ fx : Int, (x : Int) - (W2 : Int) = fx := ⟨_, rfl⟩
  obtain ⟨fy, hfy⟩ : ∃ fy : Int, (y : Int) - (H2 : Int) = fy := ⟨_, rfl⟩
  have HFF : Hid ((x : Int) - (W2 : Int) = fx ∧ (y : Int) - (H2 : Int) = fy) := ⟨hfx, hfy⟩
  have c3 : -10 ≤ fx ∧ fx ≤ 1024 := by omega
  have c4 : -10 ≤ fy ∧ fy ≤ 1024 := by omega
  have hnb : n ≤ 65536 := by rw [hn]; exact hab
  have hwh : W * H ≤ 225 := Nat.mul_le_mul hW2 hH2
  clear hI hS hn hSb hsz hWL hz q1 hW2' hH2' hb hab
  go_enter Try.func32, Try.ntmps32
  go_wp2_with fail
  clear hw1 hbp
  go_loopg [15, 16] H (fun m s15 s16 wr => ∃ (v : Value) (j : Nat), v = s15 ∧ s16 = .int .i64 (j : Int) ∧ j + m = H ∧ Hid (OwnR w1 wr v (WL.take (j * W))))
  case atStart => exact ⟨_, 0, rfl, rfl, by omega, by rw [Nat.zero_mul]; exact OwnR.start w1 w1 (Q.refl w1)⟩
  case round =>
    obtain ⟨v, j, rfl, rfl, hjm, HO⟩ := hrel
    by_cases hj : j < H
    · have hj' : (j : Int) < (H : Int) := by omega
      have p1 := HO.out.2.cell HP.out.1.2.1
      have CB := HBr.out pb (fy + (j : Int)) wr hb1 hb2
      obtain ⟨vy, hvy⟩ : ∃ vy, borN b pb (fy + (j : Int)) = vy := ⟨_, rfl⟩
      have hvl : vy < pb := by rw [← hvy]; exact borN_lt _ hb1
      rw [hvy] at CB
      have HVY : Hid (borN b pb (fy + (j : Int)) = vy) := hvy
      clear hvy
      go_wp2_with fail
      refine Calls.mono CB ?_
      rintro e w3 ⟨rfl, hw3⟩
      obtain rfl := hw3.symm
      clear hw3 CB
      obtain ⟨jW, hjW⟩ : ∃ jW, j * W = jW := ⟨_, rfl⟩
      rw [hjW] at HO
      have HJW : Hid (j * W = jW) := hjW
      have hjb : jW + W ≤ 225 := by
        have h1 : (j + 1) * W ≤ 15 * 15 := Nat.mul_le_mul (by omega) hW2
        rw [Nat.succ_mul, hjW] at h1; omega
      clear hjW p1
      go_wp2_with fail
      go_loopg [15, 19] W (fun m s15 s19 wx => ∃ (v : Value) (i : Nat), v = s15 ∧ s19 = .int .i64 (i : Int) ∧ i + m = W ∧ Hid (OwnR w1 wx v (WL.take (jW + i))))
      case atStart => exact ⟨v, 0, rfl, rfl, by omega, HO⟩
      case round =>
        clear HO
        obtain ⟨v, i, rfl, rfl, him, HO⟩ := hrel
        by_cases hi : i < W
        · have hi' : (i : Int) < (W : Int) := by omega
          have p0 := HO.out.2.cell HP.out.1.1
          have p2 := HO.out.2.cell HP.out.1.2.2
          have CB := HBr.out pa (fx + (i : Int)) wr ha1 ha2
          obtain ⟨ux, hux⟩ : ∃ ux, borN b pa (fx + (i : Int)) = ux := ⟨_, rfl⟩
          have hul : ux < pa := by rw [← hux]; exact borN_lt _ ha1
          rw [hux] at CB
          obtain ⟨vp, hvp⟩ : ∃ vp, vy * pa = vp := ⟨_, rfl⟩
          have evp : (vy : Int) * (pa : Int) = (vp : Int) := by rw [← Int.natCast_mul, hvp]
          obtain ⟨t, ht⟩ : ∃ t, vp + ux = t := ⟨_, rfl⟩
          have et : (vp : Int) + (ux : Int) = (t : Int) := by omega
          have htn : t < n := by rw [← ht, ← hvp, HIn.out.2.2.1]; exact place_lt hul hvl
          have htn' : (t : Int) < (n : Int) := by omega
          have cs := HIn.out.1 wr (HP.out.2.trans HO.out.2) t (by rw [HIn.out.2.1]; exact htn)
          obtain ⟨s, hs⟩ : ∃ s, S.getD t 0 = s := ⟨_, rfl⟩
          rw [hs] at cs
          have hidx : jW + i < WL.length := by rw [HWL.out.2.1, ← HJW.out]; exact place_lt hi hj
          have hwl : WL.getD (jW + i) 0 = s := by
            rw [← HWL.out.1, ← HJW.out, winL_at hi hj, HWW.out.1, HWW.out.2, HFF.out.1, HFF.out.2, HVY.out, hux, hvp, ht, hs]
          have HTK : Hid (WL.take (jW + i) ++ [s] = WL.take (jW + (i + 1))) := by
            show _ = _
            rw [show jW + (i + 1) = jW + i + 1 by omega, take_next hidx, hwl]
          have hlen : (WL.take (jW + i)).length + 1 ≤ 100000 := by rw [List.length_take]; omega
          obtain ⟨w6, hw6⟩ : ∃ w6, wr.alloc (.cells #[.int .u32 (s : Int)] 38) = w6 := ⟨_, rfl⟩
          have HO6 : Hid (OwnR w1 w6 v (WL.take (jW + i)) ∧ w6.cell? ⟨wr.heap.size, 0, none⟩ = some (.int .u32 (s : Int)) ∧ (WL.take (jW + i)).length + 1 ≤ 100000) := by
            rw [← hw6]
            exact ⟨HO.out.next ((Q.refl wr).cells _ _), by simp [go_sem], hlen⟩
          clear hux hvp ht hs hidx hwl hlen HO
          go_wp2_with fail
          refine Calls.mono CB ?_
          rintro e w3 ⟨rfl, hw3⟩
          obtain rfl := hw3.symm
          clear hw3 CB
          go_wp2_with (at_builtin; go_must (refine wpList_addR _ w1 rfl _ _ rfl v (WL.take (jW + i)) rfl HO6.out.1 wr.heap.size s rfl HO6.out.2.1 HO6.out.2.2 ?_))
          intro v' w7 ho7
          rw [HTK.out] at ho7
          have HO7 : Hid (OwnR w1 w7 v' (WL.take (jW + (i + 1)))) := ho7
          clear ho7 hw6 HO6 cs p0 p2
          go_wp2_with fail
          go_roundg (W - (i + 1))
          case measure => go_light; omega
          case rel => go_light; exact ⟨v', i + 1, rfl, by go_num, by omega, HO7⟩
        · obtain rfl : W = i := by omega
          have hge : ¬ (W : Int) < (W : Int) := by omega
          have HN : Hid (OwnR w1 wr v (WL.take ((j + 1) * W))) := by
            have := HO.out
            rw [← HJW.out, ← Nat.succ_mul] at this
            exact this
          clear HO
          go_wp2_with fail
          go_roundg (H - (j + 1))
          case measure => go_light; omega
          case rel => go_light; exact ⟨v, j + 1, rfl, by go_num, by omega, HN⟩
    · obtain rfl : H = j := by omega
      have hge : ¬ (H : Int) < (H : Int) := by omega
      have hO := HO.out
      rw [List.take_of_length_le (by rw [HWL.out.2.1, Nat.mul_comm]; exact Nat.le_refl _)] at hO
      obtain ⟨adz, cz, hvz⟩ := hO.usl.form
      rw [HWL.out.2.1] at hvz
      subst hvz
      obtain ⟨wh, hwhe⟩ : ∃ wh, W * H = wh := ⟨_, rfl⟩
      have hS1 := rsorted_any WL (W * H) cz adz wr HWL.out.2.1 hO.usl HWL.out.2.2 (by omega)
      rw [hwhe] at hS1 hk hwh
      have HS1 : Hid _ := hS1
      have HQ : Hid (Q w wr ∧ WL.length = wh) := ⟨HP.out.2.trans hO.2, by rw [HWL.out.2.1]; exact hwhe⟩
      rw [hwhe]
      have hk' : (k : Int) < (wh : Int) := by omega
      clear hS1 hO HO hwhe
      go_wp2_with fail
      refine Calls.mono HS1.out ?_
      rintro e w5 ⟨ad5, c5, rfl, u5, q5⟩
      obtain ⟨g5, o5, cc5, hv5, hl5, hI5⟩ := u5.some (by rw [rkL_len, HQ.out.2]; omega)
      rw [rkL_len, HQ.out.2] at hv5
      injection hv5 with hv5 _ _
      subst hv5
      have ck := hI5 k (by rw [rkL_len, HQ.out.2]; exact hk)
      have e5 : (rkL WL).getD k 0 = z := HZ.out
      rw [e5] at ck
      have HQ5 : Hid (Q w w5) := HQ.out.1.trans q5
      clear u5 q5 hI5 hl5 e5
      go_wp2_with fail
      go_ret
      exact ⟨rfl, HQ5.out⟩
end Go.Proofs.Ytikhmlcmmabapaa

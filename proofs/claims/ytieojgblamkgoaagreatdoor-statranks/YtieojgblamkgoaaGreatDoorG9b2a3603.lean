/- Appending to a list without room: what lies where. -/
import Derived.Test.YtieojgblamkgoaaGreatDoorG93041aaa
import Derived.Laws.Append
import Derived.Laws.AppendOwn
import Derived.OwnWalk
import Derived.Test.YtieojgblamkgoaaGreatDoorGdcdbba51
import Derived.Test.YtieojgblamkgoaaGreatDoorG0a3013e3
import Derived.Test.YtieojgblamkgoaaGreatDoorG95d39959
import Derived.Test.YtieojgblamkgoaaGreatDoorG905794ad
namespace Go.Proofs.YtieojgblamkgoaaGreatDoor
open Go.RowKit

theorem run_app_new {P : Program} (w : World) (t ty e : TypeId) (i : TypeInfo) (z : Value) (ht : P.underlying t = some (.slice e)) (hi : P.info? e = some i) (hz : i.zero = some z)
    (v : Value) (hv : v = .slice none 0 0 ∨ ∃ b, v = .slice (some b) 0 0) (ad : Addr) (m c : Nat) (news : List Value) (hl : news.length = m * i.size) (hnews : ∀ j u, news[j]? = some u → w.cell? (ad.add j) = some u)
    (h0 : 0 < m) (h63 : m ≤ 1125899906842624) (hby : m * i.bytes ≤ 140737488355328) :
    ∃ cap w', (Builtin.append_ #[t, t] ty #[v, .slice (some ad) m c]).run P w = .ok (.slice (some ⟨w.heap.size, 0, none⟩) m cap) w' ∧ Q w w' ∧ m ≤ cap ∧ w'.heap.size = w.heap.size + 1 ∧
      (∀ j u, news[j]? = some u → w'.cell? ⟨w.heap.size, j, none⟩ = some u) ∧ ∀ j, w'.frozen? ⟨w.heap.size, j, none⟩ = false := by
  have fin : ∀ (cs : Array Value), (∀ (j : Nat) (u : Value), news[j]? = some u → cs[j]? = some u) → Q w (w.drew.alloc (.cells cs e)) ∧ (w.drew.alloc (.cells cs e)).heap.size = w.heap.size + 1 ∧
      (∀ (j : Nat) (u : Value), news[j]? = some u → (w.drew.alloc (.cells cs e)).cell? ⟨w.heap.size, j, none⟩ = some u) ∧ ∀ j, (w.drew.alloc (.cells cs e)).frozen? ⟨w.heap.size, j, none⟩ = false := by
    intro cs hcs
    have hb : (w.drew.alloc (.cells cs e)).heap[w.heap.size]? = some (.cells cs e (0, 0)) := heap_alloc_new w.drew _
    refine ⟨(Q.refl w).drew.cells _ _, by simp, fun j u hu => ?_, fun j => frozen_of_row _ _ _ _ _ hb⟩
    rw [cell_of_row _ _ j cs e (0, 0) hb]
    exact hcs j u hu
  have key : ∀ (n : Nat) (j : Nat) (u : Value), news[j]? = some u → (news.toArray ++ Builtin.zeroCells z.cells n)[j]? = some u := by
    intro n j u hu
    have hj : j < news.length := (List.getElem?_eq_some_iff.1 hu).1
    rw [Array.getElem?_append_left (by simpa using hj)]
    simpa using hu
  rcases hv with rfl | ⟨b, rfl⟩
  · have hr := run_append_nil (P := P) w t ty e i z ht hi hz ad m c news hl hnews h0 (by omega) (by omega)
    obtain ⟨q1, q2, q3, q4⟩ := fin _ (key (grownCap w m 0 e - m))
    exact ⟨_, _, hr, q1, grownCap_ge w m 0 e, q2, q3, q4⟩
  · have hr := run_append_grow (P := P) w t ty e i z ht hi hz b 0 0 [] (by simp) (fun j v h => by simp at h) ad m c news hl hnews (by omega) (by omega) (growslice_fits (by omega) (by rw [Nat.zero_add]; exact hby))
    simp only [Nat.zero_add, Array.empty_append] at hr
    obtain ⟨q1, q2, q3, q4⟩ := fin _ (key (grownCap w m 0 e - m))
    exact ⟨_, _, hr, q1, grownCap_ge w m 0 e, q2, q3, q4⟩

/-- In a list of operations. -/
theorem wpList_app {P : Program} (w : World) {ops : Array Oper} {rest : List Oper} {o : Oper} {a : Act} {R : Exit → Act → World → Prop} (hgd : o.guard = none) (s x : Operand) (t : TypeId)
    (ho : o.op = .call { callee := .builtin .append, args := #[s, x], argTypes := #[t, t] })
    (e : TypeId) (i : TypeInfo) (z : Value) (ht : P.underlying t = some (.slice e)) (hi : P.info? e = some i) (hz : i.zero = some z)
    (v : Value) (hv : v = .slice none 0 0 ∨ ∃ b, v = .slice (some b) 0 0) (hs : a.eval s = v) (ad : Addr) (m c : Nat) (news : List Value) (hx : a.eval x = .slice (some ad) m c) (hl : news.length = m * i.size) (hnews : ∀ j u, news[j]? = some u → w.cell? (ad.add j) = some u)
    (h0 : 0 < m) (h63 : m ≤ 1125899906842624) (hby : m * i.bytes ≤ 140737488355328)
    (h : ∀ cap w', Q w w' → m ≤ cap → w'.heap.size = w.heap.size + 1 → (∀ j u, news[j]? = some u → w'.cell? ⟨w.heap.size, j, none⟩ = some u) → (∀ j, w'.frozen? ⟨w.heap.size, j, none⟩ = false) → wpList P ops R rest (a.put o.dst (.slice (some ⟨w.heap.size, 0, none⟩) m cap)) w') :
    wpList P ops R (o :: rest) a w := by
  obtain ⟨cap, w', hr, h1, h2, h3, h4, h5⟩ := run_app_new (P := P) w t o.type e i z ht hi hz v hv ad m c news hl hnews h0 h63 hby
  refine wpList_plain hgd fun _ hK => ?_
  unfold Oper.wp execOp
  simp only [ho, resolve, invoke, builtin, Sem.run_bind, Sem.run_pure, Result.andThen_ok, List.map_toArray, List.map_cons, List.map_nil, hs, hx, hr]
  exact hK _ _ (h cap w' h1 h2 h3 h4 h5)
end Go.Proofs.YtieojgblamkgoaaGreatDoor
/- Appending samples: a copy of a list; one more sample behind a list of the call's own. -/
namespace Go.Proofs.YtieojgblamkgoaaGreatDoor
open Go.RowKit
set_option linter.unusedVariables false
set_option linter.unusedSimpArgs false

def newsR (S : List Nat) : List Value := S.map fun (x : Nat) => .int .u32 (x : Int)
theorem newsR_at {S : List Nat} {j : Nat} {u : Value} (h : (newsR S)[j]? = some u) : j < S.length ∧ u = .int .u32 ((S.getD j 0 : Nat) : Int) := by
  unfold newsR at h
  rw [List.getElem?_map] at h
  cases hj : S[j]? with
  | none => rw [hj] at h; cases h
  | some x =>
    rw [hj] at h
    simp only [Option.map_some, Option.some.injEq] at h
    refine ⟨(List.getElem?_eq_some_iff.1 hj).1, ?_⟩
    rw [List.getD_eq_getElem?_getD, hj, ← h]; rfl
theorem run_app_zeroR {P : Program} (w : World) (t ty e : TypeId) (i : TypeInfo) (ht : P.underlying t = some (.slice e)) (hi : P.info? e = some i) (a : Option Addr) (c : Nat) : (Builtin.append_ #[t, t] ty #[.slice none 0 0, .slice a 0 c]).run P w = .ok (.slice none 0 0) w := by
  cases a <;> simp [Builtin.append_, run_underlying ht, sizeOf, typeInfo, hi, Builtin.lenOf, Builtin.firstCells, loadCells, loadCellsFrom, storeCells]
theorem wpList_copyR (w : World) {ops : Array Oper} {rest : List Oper} {o : Oper} {a : Act} {R : Exit → Act → World → Prop} (hgd : o.guard = none) (x : Operand)
    (ho : o.op = .call { callee := .builtin .append, args := #[.const (.slice none 0 0), x], argTypes := #[24, 24] })
    (ad : Option Addr) (n c : Nat) (S : List Nat) (hn : S.length = n) (h100 : n ≤ 2000) (hx : a.eval x = .slice ad n c) (hS : USl w (.slice ad n c) S)
    (h : ∀ la lc w', Q w w' → USl w' (.slice la n lc) S → wpList Tryz.prog ops R rest (a.put o.dst (.slice la n lc)) w') :
    wpList Tryz.prog ops R (o :: rest) a w := by
  obtain ⟨iu, i1, i2, i3, i4⟩ := u32Info
  refine wpList_plain hgd fun _ hK => ?_
  unfold Oper.wp execOp
  by_cases h0 : n = 0
  · subst h0
    have hr := run_app_zeroR (P := Tryz.prog) w 24 o.type 43 iu Tryz.underlying24 i1 ad c
    simp only [ho, resolve, invoke, builtin, Sem.run_bind, Sem.run_pure, Result.andThen_ok, List.map_toArray, List.map_cons, List.map_nil, Act.eval, hr]
    simp only [Act.eval] at hx
    rw [hx, hr]
    exact hK _ _ (h none 0 w (Q.refl w) (Or.inr ⟨_, _, rfl, List.eq_nil_of_length_eq_zero hn⟩))
  · obtain ⟨g, o', c', e1, hcap, e3⟩ := hS.some (by omega)
    have hx' := hx
    rw [e1] at hx'
    have hl : (newsR S).length = S.length := by simp [newsR]
    obtain ⟨lc, w', hr, q1, q2, q3, q4, q5⟩ := run_app_new (P := Tryz.prog) w 24 o.type 43 iu _ Tryz.underlying24 i1 i4 _ (Or.inl rfl) ⟨g, o', none⟩ S.length c' (newsR S) (by rw [i2, hl, Nat.mul_one]) (fun j u hu => by
      obtain ⟨hj, rfl⟩ := newsR_at hu
      rw [show (⟨g, o', none⟩ : Addr).add j = ⟨g, o' + j, none⟩ by unfold Addr.add; split <;> simp_all]
      exact e3 j hj) (by omega) (by omega) (by rw [i3]; omega)
    simp only [ho, resolve, invoke, builtin, Sem.run_bind, Sem.run_pure, Result.andThen_ok, List.map_toArray, List.map_cons, List.map_nil, Act.eval]
    simp only [Act.eval] at hx'
    rw [hx', hr]
    refine hK _ _ ?_
    have hh := h (some ⟨w.heap.size, 0, none⟩) lc w' q1 (Or.inl ⟨w.heap.size, 0, lc, by rw [hn], by omega, fun j hj => ?_⟩)
    · rw [hn]; exact hh
    · rw [Nat.zero_add]
      refine q4 j _ ?_
      unfold newsR
      rw [List.getElem?_map, List.getD_eq_getElem?_getD, List.getElem?_eq_getElem hj]; rfl
/-- A list of the call's own, to which samples are appended. -/
def OwnR (w0 w : World) (v : Value) (L : List Nat) : Prop := w.ownsRow w0.heap.size 43 1 v L.length (newsR L) ∧ Q w0 w
theorem OwnR.start (w0 w : World) (q : Q w0 w) : OwnR w0 w (.slice none 0 0) [] := ⟨⟨rfl, Or.inl ⟨rfl, rfl⟩⟩, q⟩
theorem OwnR.next {w0 w w' : World} {v : Value} {L : List Nat} (h : OwnR w0 w v L) (q : Q w w') : OwnR w0 w' v L := by
  obtain ⟨⟨h1, h2⟩, hq⟩ := h
  refine ⟨⟨h1, ?_⟩, hq.trans q⟩
  rcases h2 with h2 | ⟨g, cap, cur, rfl, hb, hg, rest⟩
  · exact Or.inl h2
  · exact Or.inr ⟨g, cap, cur, rfl, hb, (q.1.block g (Array.getElem?_eq_some_iff.1 hg).1).trans hg, rest⟩
theorem OwnR.usl {w0 w : World} {v : Value} {L : List Nat} (h : OwnR w0 w v L) : USl w v L := by
  obtain ⟨⟨_, ⟨rfl, h0⟩ | ⟨g, cap, cur, rfl, _, hh, hc, _, hsz, ht⟩⟩, _⟩ := h
  · exact Or.inr ⟨_, _, rfl, List.eq_nil_of_length_eq_zero h0⟩
  · refine Or.inl ⟨g, 0, cap, rfl, hc, fun i hi => ?_⟩
    have hg : cur.toList[i]? = some (.int .u32 ((L.getD i 0 : Nat) : Int)) := by
      have e : (cur.toList.take (L.length * 1))[i]? = (newsR L)[i]? := by rw [ht]
      rw [List.getElem?_take, if_pos (by omega)] at e
      rw [e]
      unfold newsR
      rw [List.getElem?_map, List.getElem?_eq_getElem hi, List.getD_eq_getElem?_getD, List.getElem?_eq_getElem hi]
      rfl
    unfold World.cell?
    simp only [hh, Nat.zero_add]
    rw [Array.getElem?_toList] at hg
    exact hg
theorem wpList_addR (w w0 : World) {ops : Array Oper} {rest : List Oper} {o : Oper} {a : Act} {R : Exit → Act → World → Prop} (hgd : o.guard = none) (s x : Operand)
    (ho : o.op = .call { callee := .builtin .append, args := #[s, x], argTypes := #[24, 24] })
    (v : Value) (L : List Nat) (hs : a.eval s = v) (hown : OwnR w0 w v L)
    (g0 : Nat) (u : Nat) (hx : a.eval x = .slice (some ⟨g0, 0, none⟩) 1 1) (hu : w.cell? ⟨g0, 0, none⟩ = some (.int .u32 (u : Int))) (h63 : L.length + 1 ≤ 100000)
    (h : ∀ v' w', OwnR w0 w' v' (L ++ [u]) → wpList Tryz.prog ops R rest (a.put o.dst v') w') :
    wpList Tryz.prog ops R (o :: rest) a w := by
  obtain ⟨iu, i1, i2, i3, i4⟩ := u32Info
  refine wpList_plain hgd fun _ hK => ?_
  unfold Oper.wp execOp
  have hap : newsR (L ++ [u]) = newsR L ++ [.int .u32 (u : Int)] := by simp [newsR]
  obtain ⟨g, cap, w', hr, ho2, hq, hgb, hgg⟩ := run_app_qg (P := Tryz.prog) w w0 hown.2 24 o.type 43 iu _ 1 4 Tryz.underlying24 i1 i4 i2 i3 rfl (by decide) v L.length (newsR L) hown.1 ⟨g0, 0, none⟩ 1 1 [.int .u32 (u : Int)] rfl (fun j z hz => by
    cases j with
    | zero => cases hz; exact hu
    | succ j => cases hz) (fun z hz => by rw [List.mem_singleton.1 hz]; rfl) (by decide) (by unfold maxLen; omega) (by omega)
  simp only [ho, resolve, invoke, builtin, Sem.run_bind, Sem.run_pure, Result.andThen_ok, List.map_toArray, List.map_cons, List.map_nil, hs, hx, hr]
  rw [← hap] at ho2
  refine hK _ _ (h _ w' ⟨?_, hq⟩)
  rw [List.length_append]; exact ho2
end Go.Proofs.YtieojgblamkgoaaGreatDoor
/- A region that draws its order, whose operations tell one value each, whatever comes first, and which stores once. -/
namespace Go.Proofs.YtieojgblamkgoaaGreatDoor
open Go.RowKit
set_option linter.unusedVariables false
set_option linter.unusedSimpArgs false

/-- What holds: each operation has told its value; the world is that ahead of the store, or that behind it. -/
def ValInv (l : List Oper) (V : Nat → Value) (k : Nat) (X0 X1 : World) (done : Nat → Bool) (val : Nat → Value) (x : World) : Prop :=
  (∀ i, done i = true → i ≠ k → val i = V i) ∧ (x = if done k = true then X1 else X0) ∧ (done k = true → ∀ o, l[k]? = some o → ∀ e ∈ o.after, Region.binds .any e = true → done e.on = true)
set_option maxHeartbeats 1000000 in
theorem wp_region_vals {P : Program} {id : Nat} {R : Exit → Act → World → Prop} {a0 : Act} {w : World} {l : List Oper} (V : Nat → Value) (k : Nat) (X1 : World)
    (hm : P.follows .mixedOrders = true) (hB : regS l = true) (hmax : ∀ i t, dstOf l i = some t → t < a0.tmps.size) (hk : ∃ o, l[k]? = some o ∧ o.dst = none) (hg : ∀ (i : Nat) (o : Oper), l[i]? = some o → o.guard = none)
    (hop : ∀ i o (a : Act) x, l[i]? = some o → i ≠ k → (x = w.drew ∨ (x = X1 ∧ waits l k i = false)) → (∀ j, (∀ k, dstOf l k ≠ some j) → a.tmps[j]? = a0.tmps[j]?) → (∀ e ∈ o.after, Region.binds .any e = true → e.on ≠ k → ∀ t, dstOf l e.on = some t → a.tmps[t]? = some (V e.on)) → (∀ j t, waits l j i = true → dstOf l j = some t → a.tmps[t]? = a0.tmps[t]?) → ∃ t, o.dst = some t ∧ (execOp a.eval o).run P x = .ok (.value (V i)) x)
    (hst : ∀ o (a : Act), l[k]? = some o → (∀ j, (∀ k, dstOf l k ≠ some j) → a.tmps[j]? = a0.tmps[j]?) → (∀ e ∈ o.after, Region.binds .any e = true → e.on ≠ k → ∀ t, dstOf l e.on = some t → a.tmps[t]? = some (V e.on)) → (execOp a.eval o).run P w.drew = .ok .skip X1)
    (hend : ∀ (a : Act), a.tmps.size = a0.tmps.size → a.defers = a0.defers → (∀ j, (∀ k, dstOf l k ≠ some j) → a.tmps[j]? = a0.tmps[j]?) → (∀ j t, dstOf l j = some t → a.tmps[t]? = some (V j)) → Shut (R .normal a X1)) :
    (Code.region id l.toArray true).wp P R a0 w := by
  obtain ⟨ok, hok, hdk⟩ := hk
  refine wp_region_slotsF (ValInv l V k w.drew X1) hm hB hmax ⟨(fun i h => by cases h), rfl, (fun h => by cases h)⟩ ?_ ?_ ?_
  · intro i o a x done val ho hd hdep I hoth hvals _ hfr
    have dvals : ∀ e ∈ o.after, Region.binds .any e = true → e.on ≠ k → ∀ t, dstOf l e.on = some t → a.tmps[t]? = some (V e.on) := fun e he hb hne t ht => by
      rw [hvals e.on t (hdep e he hb) ht, I.1 e.on (hdep e he hb) hne]
    by_cases hik : i = k
    · subst hik
      rw [hok] at ho
      injection ho with ho
      subst ho
      have hx : x = w.drew := by rw [I.2.1, hd]; rfl
      subst hx
      have hrun := hst ok a hok hoth dvals
      refine ⟨?_⟩
      unfold Oper.wp
      rw [hrun, Oper.upon_skip]
      refine ⟨undef, rfl, fun j hj hji => ?_, ?_, fun _ o' ho' e he hb => ?_⟩
      · rw [upd_ne _ _ hji] at hj ⊢
        exact I.1 j hj hji
      · rw [upd_eq]; rfl
      · rw [hok] at ho'
        injection ho' with ho'
        subst ho'
        have h1 := hdep e he hb
        by_cases e1 : e.on = i
        · rw [e1, upd_eq]
        · rw [upd_ne _ _ e1]; exact h1
    · have hx : x = w.drew ∨ (x = X1 ∧ waits l k i = false) := by
        rw [I.2.1]
        cases hdk' : done k with
        | false => exact Or.inl rfl
        | true =>
          right
          refine ⟨rfl, ?_⟩
          cases hw : waits l k i with
          | false => rfl
          | true =>
            exfalso
            unfold waits at hw
            rw [hok] at hw
            obtain ⟨e, he, h1⟩ := List.any_eq_true.1 hw
            rw [Bool.and_eq_true] at h1
            have h2 := I.2.2 hdk' ok hok e (by simpa using he) h1.1
            have h3 : e.on = i := by simpa using h1.2
            rw [h3, hd] at h2
            cases h2
      obtain ⟨t, ht, hrun⟩ := hop i o a x ho hik hx hoth dvals hfr
      refine ⟨?_⟩
      unfold Oper.wp
      rw [hrun, Oper.upon_value]
      refine ⟨V i, rfl, fun j hj hjk => ?_, ?_, fun hdk2 o' ho' e he hb => ?_⟩
      · by_cases e : j = i
        · subst e; rw [upd_eq]
        · rw [upd_ne _ _ e] at hj ⊢
          exact I.1 j hj hjk
      · rw [upd_ne _ _ (fun e => hik e.symm)]; exact I.2.1
      · rw [upd_ne _ _ (fun e => hik e.symm)] at hdk2
        have h1 := I.2.2 hdk2 o' ho' e he hb
        by_cases e1 : e.on = i
        · rw [e1, upd_eq]
        · rw [upd_ne _ _ e1]; exact h1
  · intro i o x done val g b ho _ _ _ hgd
    rw [hg i o ho] at hgd
    cases hgd
  · intro a x val I size defers other vals
    have hkl : k < l.length := (List.getElem?_eq_some_iff.1 hok).1
    have hx : x = X1 := by rw [I.2.1, if_pos (decide_eq_true hkl)]
    rw [hx]
    refine hend a size defers other (fun j t hjt => ?_)
    rw [vals j t hjt]
    have hjl : j < l.length := by
      cases hl : l[j]? with
      | none => unfold dstOf at hjt; rw [hl] at hjt; cases hjt
      | some o => exact (List.getElem?_eq_some_iff.1 hl).1
    rw [I.1 j (decide_eq_true hjl) (fun e => ?_)]
    subst e
    rw [dstOf_at hok, hdk] at hjt
    cases hjt
end Go.Proofs.YtieojgblamkgoaaGreatDoor
/- Numbers of five words: the program's sums of them. -/
namespace Go.Proofs.YtieojgblamkgoaaGreatDoor
open Go.RowKit
set_option linter.unusedVariables false
set_option linter.unusedSimpArgs false

def m64 : Nat := 18446744073709551616
theorem add64_run (x y c : Nat) (hc : c ≤ 1) (w : World) : (callFunc 94 #[.int .u64 (x : Int), .int .u64 (y : Int), .int .u64 (c : Int)]).run Tryz.prog w = .ok (.value (.tuple #[.int .u64 (((x + y + c) % m64 : Nat) : Int), .int .u64 (((x + y + c) / m64 : Nat) : Int)])) w := by
  rw [run_callFunc_extern (e := add64Entry) Tryz.func94 (by kernel_rfl) (by kernel_rfl) (by kernel_rfl) (by kernel_rfl)]
  have h := run_add64 (P := Tryz.prog) (x : Int) (y : Int) (c : Int) (by omega) (by omega) (by omega) (by omega) w
  rw [h]
  show Result.ok (Next.value _) w = _
  unfold m64
  congr 5 <;> simp
def addE (x y c : Nat) : Nat := (x + y + c) % m64
def addC (x y c : Nat) : Nat := (x + y + c) / m64
section
variable {P : Program} {ρ : Operand → Value} {x : World} {d : Option Tmp} {ty : TypeId} {ps : String} {af : Array Edge} {g : Option (Nat × Bool)}
theorem run_mv {j : Nat} {v : Value} (h : ρ (.tmp j) = v) : (execOp ρ { dst := d, op := .move (.tmp j), type := ty, pos := ps, after := af, guard := g }).run P x = .ok (.value v) x := by
  rw [← h]; rfl
theorem run_as {j : Nat} {v : Value} (h : ρ (.tmp j) = v) : (execOp ρ { dst := d, op := .assign (.tmp j), type := ty, pos := ps, after := af, guard := g }).run P x = .ok (.value v) x := by
  rw [← h]; rfl
theorem run_ex0 {j : Nat} {u v : Value} (h : ρ (.tmp j) = .tuple #[u, v]) : (execOp ρ { dst := d, op := .extract (.tmp j) 0, type := ty, pos := ps, after := af, guard := g }).run P x = .ok (.value u) x := by
  simp [execOp, h, go_sem]
theorem run_ex1 {j : Nat} {u v : Value} (h : ρ (.tmp j) = .tuple #[u, v]) : (execOp ρ { dst := d, op := .extract (.tmp j) 1, type := ty, pos := ps, after := af, guard := g }).run P x = .ok (.value v) x := by
  simp [execOp, h, go_sem]
theorem run_word {j k B i : Nat} (h : ρ (.tmp j) = .pointer (some ⟨B, 0, none⟩)) (h' : ρ (.tmp k) = .int .i64 (i : Nat)) (hi : i < 5) : (execOp ρ { dst := d, op := .indexAddr 112 (.tmp j) (.tmp k), type := ty, pos := ps, after := af, guard := g }).run Tryz.prog x = .ok (.value (.pointer (some ⟨B, i, none⟩))) x := by
  simp [execOp, h, h', go_sem, hi]
  try (intro h4; omega)
theorem run_u64 {j : Nat} {p : Addr} {v : Value} (h : ρ (.tmp j) = .pointer (some p)) (c : x.cell? p = some v) : (execOp ρ { dst := d, op := .load 110 (.tmp j), type := ty, pos := ps, after := af, guard := g }).run Tryz.prog x = .ok (.value v) x := by
  simp [execOp, h, go_sem, c]
set_option maxRecDepth 100000 in
theorem run_put {j k : Nat} {B i : Nat} {n : Int} {u : Value} (h : ρ (.tmp j) = .pointer (some ⟨B, i, none⟩)) (h' : ρ (.tmp k) = .int .u64 n) (c : x.cell? ⟨B, i, none⟩ = some u) (f : x.frozen? ⟨B, i, none⟩ = false) : (execOp ρ { dst := none, op := .store 110 (.tmp j) (.tmp k), type := ty, pos := ps, after := af, guard := g }).run Tryz.prog x = .ok .skip (x.setCell ⟨B, i, none⟩ (.int .u64 n)) := by
  simp [execOp, h, h', go_sem, c, f]
theorem run_add64c {a : Act} {j k l : Nat} {n m c : Nat} (h : a.eval (.tmp j) = .int .u64 (n : Nat)) (h' : a.eval (.tmp k) = .int .u64 (m : Nat)) (h'' : a.eval (.tmp l) = .int .u64 (c : Nat)) (hc : c ≤ 1) {at' : Array TypeId} : (execOp a.eval { dst := d, op := .call { callee := .value (.func 94), args := #[.tmp j, .tmp k, .tmp l], argTypes := at' }, type := ty, pos := ps, after := af, guard := g }).run Tryz.prog x = .ok (.value (.tuple #[.int .u64 (addE n m c : Nat), .int .u64 (addC n m c : Nat)])) x := by
  have e : (#[] ++ (#[Operand.tmp j, .tmp k, .tmp l].map a.eval) ++ #[] : Array Value) = #[.int .u64 (n : Nat), .int .u64 (m : Nat), .int .u64 (c : Nat)] := by simp [h, h', h'']
  have r := add64_run n m c hc x
  rw [← e] at r
  exact r
end
def oPL_0 : Oper := { dst := some 11, op := .move (.tmp 6), type := 3, pos := "number.go:46", after := #[], guard := none }
def oPL_1 : Oper := { dst := some 12, op := .move (.tmp 6), type := 3, pos := "number.go:46", after := #[], guard := none }
def oPL_2 : Oper := { dst := some 13, op := .indexAddr 112 (.tmp 2) (.tmp 12), type := 0, pos := "number.go:46", after := #[⟨1, .data⟩], guard := none }
def oPL_3 : Oper := { dst := some 14, op := .load 110 (.tmp 13), type := 110, pos := "number.go:46", after := #[⟨2, .data⟩], guard := none }
def oPL_4 : Oper := { dst := some 15, op := .move (.tmp 6), type := 3, pos := "number.go:46", after := #[], guard := none }
def oPL_5 : Oper := { dst := some 16, op := .indexAddr 112 (.tmp 3) (.tmp 15), type := 0, pos := "number.go:46", after := #[⟨4, .data⟩], guard := none }
def oPL_6 : Oper := { dst := some 17, op := .load 110 (.tmp 16), type := 110, pos := "number.go:46", after := #[⟨5, .data⟩], guard := none }
def oPL_7 : Oper := { dst := some 18, op := .move (.tmp 5), type := 110, pos := "number.go:46", after := #[], guard := none }
def oPL_8 : Oper := { dst := some 19, op := .call { callee := .value (.func 94), args := #[.tmp 14, .tmp 17, .tmp 18], argTypes := #[110, 110, 110] }, type := 134, pos := "number.go:46", after := #[⟨3, .data⟩, ⟨6, .data⟩, ⟨7, .data⟩], guard := none }
def oPL_9 : Oper := { dst := some 10, op := .move (.tmp 19), type := 134, pos := "number.go:46", after := #[⟨8, .data⟩], guard := none }
def oPL_10 : Oper := { dst := some 20, op := .extract (.tmp 10) 0, type := 110, pos := "number.go:46", after := #[⟨9, .data⟩], guard := none }
def oPL_11 : Oper := { dst := some 21, op := .extract (.tmp 10) 1, type := 110, pos := "number.go:46", after := #[⟨9, .data⟩, ⟨13, .gcOnly .lateStores⟩], guard := none }
def oPL_12 : Oper := { dst := some 22, op := .indexAddr 112 (.tmp 2) (.tmp 11), type := 0, pos := "number.go:46", after := #[⟨0, .data⟩, ⟨0, .phase⟩, ⟨1, .phase⟩, ⟨2, .phase⟩, ⟨3, .phase⟩, ⟨4, .phase⟩, ⟨5, .phase⟩, ⟨6, .phase⟩, ⟨7, .phase⟩, ⟨8, .phase⟩, ⟨9, .phase⟩, ⟨10, .phase⟩, ⟨11, .textOnly .lateStores⟩], guard := none }
def oPL_13 : Oper := { dst := none, op := .store 110 (.tmp 22) (.tmp 20), type := 0, pos := "number.go:46", after := #[⟨12, .data⟩, ⟨10, .data⟩, ⟨8, .chain⟩, ⟨0, .phase⟩, ⟨1, .phase⟩, ⟨2, .phase⟩, ⟨3, .phase⟩, ⟨4, .phase⟩, ⟨5, .phase⟩, ⟨6, .phase⟩, ⟨7, .phase⟩, ⟨8, .phase⟩, ⟨9, .phase⟩, ⟨10, .phase⟩, ⟨11, .textOnly .lateStores⟩], guard := none }
def oPL_14 : Oper := { dst := some 5, op := .assign (.tmp 21), type := 110, pos := "number.go:46", after := #[⟨11, .data⟩, ⟨13, .chain⟩, ⟨0, .phase⟩, ⟨1, .phase⟩, ⟨2, .phase⟩, ⟨3, .phase⟩, ⟨4, .phase⟩, ⟨5, .phase⟩, ⟨6, .phase⟩, ⟨7, .phase⟩, ⟨8, .phase⟩, ⟨9, .phase⟩, ⟨10, .phase⟩, ⟨11, .phase⟩, ⟨12, .phase⟩, ⟨13, .phase⟩], guard := none }
def opsPL : List Oper := [oPL_0, oPL_1, oPL_2, oPL_3, oPL_4, oPL_5, oPL_6, oPL_7, oPL_8, oPL_9, oPL_10, oPL_11, oPL_12, oPL_13, oPL_14]
def vPL (B2 B3 ix nn mm cy : Nat) (i : Nat) : Value := ([.int .i64 (ix : Nat), .int .i64 (ix : Nat), .pointer (some ⟨B2, ix, none⟩), .int .u64 (nn : Nat), .int .i64 (ix : Nat), .pointer (some ⟨B3, ix, none⟩), .int .u64 (mm : Nat), .int .u64 (cy : Nat), .tuple #[.int .u64 (addE nn mm cy : Nat), .int .u64 (addC nn mm cy : Nat)], .tuple #[.int .u64 (addE nn mm cy : Nat), .int .u64 (addC nn mm cy : Nat)], .int .u64 (addE nn mm cy : Nat), .int .u64 (addC nn mm cy : Nat), .pointer (some ⟨B2, ix, none⟩), undef, .int .u64 (addC nn mm cy : Nat)] : List Value).getD i undef
structure EnvPL (a0 : Act) (w : World) (B2 B3 ix nn mm cy : Nat) : Prop where
  h2 : a0.tmps[2]? = some (.pointer (some ⟨B2, 0, none⟩))
  h3 : a0.tmps[3]? = some (.pointer (some ⟨B3, 0, none⟩))
  h5 : a0.tmps[5]? = some (.int .u64 (cy : Nat))
  h6 : a0.tmps[6]? = some (.int .i64 (ix : Nat))
  hi : ix < 5
  hc : cy ≤ 1
  c2 : w.drew.cell? ⟨B2, ix, none⟩ = some (.int .u64 (nn : Nat))
  c3 : w.drew.cell? ⟨B3, ix, none⟩ = some (.int .u64 (mm : Nat))
  z2 : w.drew.frozen? ⟨B2, ix, none⟩ = false
theorem dstPL {k j : Nat} (h : dstOf opsPL k = some j) : j ∈ [5, 10, 11, 12, 13, 14, 15, 16, 17, 18, 19, 20, 21, 22] := by
  rcases k with _ | _ | _ | _ | _ | _ | _ | _ | _ | _ | _ | _ | _ | _ | _ | k
  · have e := Option.some.inj h; subst e; decide
  · have e := Option.some.inj h; subst e; decide
  · have e := Option.some.inj h; subst e; decide
  · have e := Option.some.inj h; subst e; decide
  · have e := Option.some.inj h; subst e; decide
  · have e := Option.some.inj h; subst e; decide
  · have e := Option.some.inj h; subst e; decide
  · have e := Option.some.inj h; subst e; decide
  · have e := Option.some.inj h; subst e; decide
  · have e := Option.some.inj h; subst e; decide
  · have e := Option.some.inj h; subst e; decide
  · have e := Option.some.inj h; subst e; decide
  · have e := Option.some.inj h; subst e; decide
  · cases h
  · have e := Option.some.inj h; subst e; decide
  · cases h
theorem yPL_0 {a0 : Act} {w : World} {B2 B3 ix nn mm cy : Nat} (E : EnvPL a0 w B2 B3 ix nn mm cy) {a : Act} {x : World} (hx : x = w.drew ∨ (x = w.drew.setCell ⟨B2, ix, none⟩ (.int .u64 (addE nn mm cy : Nat)) ∧ waits opsPL 13 0 = false)) (oth : ∀ j, (∀ k, dstOf opsPL k ≠ some j) → a.tmps[j]? = a0.tmps[j]?) (dep : ∀ e ∈ oPL_0.after, Region.binds .any e = true → e.on ≠ 13 → ∀ t, dstOf opsPL e.on = some t → a.tmps[t]? = some (vPL B2 B3 ix nn mm cy e.on)) (fr : ∀ j t, waits opsPL j 0 = true → dstOf opsPL j = some t → a.tmps[t]? = a0.tmps[t]?) : (execOp a.eval oPL_0).run Tryz.prog x = .ok (.value (vPL B2 B3 ix nn mm cy 0)) x := by
  exact run_mv (tmp_eval ((oth 6 (fun k h => absurd (dstPL h) (by decide))).trans E.h6))
theorem yPL_1 {a0 : Act} {w : World} {B2 B3 ix nn mm cy : Nat} (E : EnvPL a0 w B2 B3 ix nn mm cy) {a : Act} {x : World} (hx : x = w.drew ∨ (x = w.drew.setCell ⟨B2, ix, none⟩ (.int .u64 (addE nn mm cy : Nat)) ∧ waits opsPL 13 1 = false)) (oth : ∀ j, (∀ k, dstOf opsPL k ≠ some j) → a.tmps[j]? = a0.tmps[j]?) (dep : ∀ e ∈ oPL_1.after, Region.binds .any e = true → e.on ≠ 13 → ∀ t, dstOf opsPL e.on = some t → a.tmps[t]? = some (vPL B2 B3 ix nn mm cy e.on)) (fr : ∀ j t, waits opsPL j 1 = true → dstOf opsPL j = some t → a.tmps[t]? = a0.tmps[t]?) : (execOp a.eval oPL_1).run Tryz.prog x = .ok (.value (vPL B2 B3 ix nn mm cy 1)) x := by
  exact run_mv (tmp_eval ((oth 6 (fun k h => absurd (dstPL h) (by decide))).trans E.h6))
theorem yPL_2 {a0 : Act} {w : World} {B2 B3 ix nn mm cy : Nat} (E : EnvPL a0 w B2 B3 ix nn mm cy) {a : Act} {x : World} (hx : x = w.drew ∨ (x = w.drew.setCell ⟨B2, ix, none⟩ (.int .u64 (addE nn mm cy : Nat)) ∧ waits opsPL 13 2 = false)) (oth : ∀ j, (∀ k, dstOf opsPL k ≠ some j) → a.tmps[j]? = a0.tmps[j]?) (dep : ∀ e ∈ oPL_2.after, Region.binds .any e = true → e.on ≠ 13 → ∀ t, dstOf opsPL e.on = some t → a.tmps[t]? = some (vPL B2 B3 ix nn mm cy e.on)) (fr : ∀ j t, waits opsPL j 2 = true → dstOf opsPL j = some t → a.tmps[t]? = a0.tmps[t]?) : (execOp a.eval oPL_2).run Tryz.prog x = .ok (.value (vPL B2 B3 ix nn mm cy 2)) x := by
  have t1 : a.tmps[12]? = some (.int .i64 (ix : Nat)) := dep ⟨1, .data⟩ (by simp [oPL_2]) rfl (by decide) 12 rfl
  exact run_word (tmp_eval ((oth 2 (fun k h => absurd (dstPL h) (by decide))).trans E.h2)) (tmp_eval t1) E.hi
theorem yPL_3 {a0 : Act} {w : World} {B2 B3 ix nn mm cy : Nat} (E : EnvPL a0 w B2 B3 ix nn mm cy) {a : Act} {x : World} (hx : x = w.drew ∨ (x = w.drew.setCell ⟨B2, ix, none⟩ (.int .u64 (addE nn mm cy : Nat)) ∧ waits opsPL 13 3 = false)) (oth : ∀ j, (∀ k, dstOf opsPL k ≠ some j) → a.tmps[j]? = a0.tmps[j]?) (dep : ∀ e ∈ oPL_3.after, Region.binds .any e = true → e.on ≠ 13 → ∀ t, dstOf opsPL e.on = some t → a.tmps[t]? = some (vPL B2 B3 ix nn mm cy e.on)) (fr : ∀ j t, waits opsPL j 3 = true → dstOf opsPL j = some t → a.tmps[t]? = a0.tmps[t]?) : (execOp a.eval oPL_3).run Tryz.prog x = .ok (.value (vPL B2 B3 ix nn mm cy 3)) x := by
  have t2 : a.tmps[13]? = some (.pointer (some ⟨B2, ix, none⟩)) := dep ⟨2, .data⟩ (by simp [oPL_3]) rfl (by decide) 13 rfl
  rcases hx with rfl | ⟨_, hx⟩
  · exact run_u64 (tmp_eval t2) E.c2
  · exact absurd hx (by decide +kernel)
theorem yPL_4 {a0 : Act} {w : World} {B2 B3 ix nn mm cy : Nat} (E : EnvPL a0 w B2 B3 ix nn mm cy) {a : Act} {x : World} (hx : x = w.drew ∨ (x = w.drew.setCell ⟨B2, ix, none⟩ (.int .u64 (addE nn mm cy : Nat)) ∧ waits opsPL 13 4 = false)) (oth : ∀ j, (∀ k, dstOf opsPL k ≠ some j) → a.tmps[j]? = a0.tmps[j]?) (dep : ∀ e ∈ oPL_4.after, Region.binds .any e = true → e.on ≠ 13 → ∀ t, dstOf opsPL e.on = some t → a.tmps[t]? = some (vPL B2 B3 ix nn mm cy e.on)) (fr : ∀ j t, waits opsPL j 4 = true → dstOf opsPL j = some t → a.tmps[t]? = a0.tmps[t]?) : (execOp a.eval oPL_4).run Tryz.prog x = .ok (.value (vPL B2 B3 ix nn mm cy 4)) x := by
  exact run_mv (tmp_eval ((oth 6 (fun k h => absurd (dstPL h) (by decide))).trans E.h6))
theorem yPL_5 {a0 : Act} {w : World} {B2 B3 ix nn mm cy : Nat} (E : EnvPL a0 w B2 B3 ix nn mm cy) {a : Act} {x : World} (hx : x = w.drew ∨ (x = w.drew.setCell ⟨B2, ix, none⟩ (.int .u64 (addE nn mm cy : Nat)) ∧ waits opsPL 13 5 = false)) (oth : ∀ j, (∀ k, dstOf opsPL k ≠ some j) → a.tmps[j]? = a0.tmps[j]?) (dep : ∀ e ∈ oPL_5.after, Region.binds .any e = true → e.on ≠ 13 → ∀ t, dstOf opsPL e.on = some t → a.tmps[t]? = some (vPL B2 B3 ix nn mm cy e.on)) (fr : ∀ j t, waits opsPL j 5 = true → dstOf opsPL j = some t → a.tmps[t]? = a0.tmps[t]?) : (execOp a.eval oPL_5).run Tryz.prog x = .ok (.value (vPL B2 B3 ix nn mm cy 5)) x := by
  have t4 : a.tmps[15]? = some (.int .i64 (ix : Nat)) := dep ⟨4, .data⟩ (by simp [oPL_5]) rfl (by decide) 15 rfl
  exact run_word (tmp_eval ((oth 3 (fun k h => absurd (dstPL h) (by decide))).trans E.h3)) (tmp_eval t4) E.hi
theorem yPL_6 {a0 : Act} {w : World} {B2 B3 ix nn mm cy : Nat} (E : EnvPL a0 w B2 B3 ix nn mm cy) {a : Act} {x : World} (hx : x = w.drew ∨ (x = w.drew.setCell ⟨B2, ix, none⟩ (.int .u64 (addE nn mm cy : Nat)) ∧ waits opsPL 13 6 = false)) (oth : ∀ j, (∀ k, dstOf opsPL k ≠ some j) → a.tmps[j]? = a0.tmps[j]?) (dep : ∀ e ∈ oPL_6.after, Region.binds .any e = true → e.on ≠ 13 → ∀ t, dstOf opsPL e.on = some t → a.tmps[t]? = some (vPL B2 B3 ix nn mm cy e.on)) (fr : ∀ j t, waits opsPL j 6 = true → dstOf opsPL j = some t → a.tmps[t]? = a0.tmps[t]?) : (execOp a.eval oPL_6).run Tryz.prog x = .ok (.value (vPL B2 B3 ix nn mm cy 6)) x := by
  have t5 : a.tmps[16]? = some (.pointer (some ⟨B3, ix, none⟩)) := dep ⟨5, .data⟩ (by simp [oPL_6]) rfl (by decide) 16 rfl
  rcases hx with rfl | ⟨_, hx⟩
  · exact run_u64 (tmp_eval t5) E.c3
  · exact absurd hx (by decide +kernel)
theorem yPL_7 {a0 : Act} {w : World} {B2 B3 ix nn mm cy : Nat} (E : EnvPL a0 w B2 B3 ix nn mm cy) {a : Act} {x : World} (hx : x = w.drew ∨ (x = w.drew.setCell ⟨B2, ix, none⟩ (.int .u64 (addE nn mm cy : Nat)) ∧ waits opsPL 13 7 = false)) (oth : ∀ j, (∀ k, dstOf opsPL k ≠ some j) → a.tmps[j]? = a0.tmps[j]?) (dep : ∀ e ∈ oPL_7.after, Region.binds .any e = true → e.on ≠ 13 → ∀ t, dstOf opsPL e.on = some t → a.tmps[t]? = some (vPL B2 B3 ix nn mm cy e.on)) (fr : ∀ j t, waits opsPL j 7 = true → dstOf opsPL j = some t → a.tmps[t]? = a0.tmps[t]?) : (execOp a.eval oPL_7).run Tryz.prog x = .ok (.value (vPL B2 B3 ix nn mm cy 7)) x := by
  exact run_mv (tmp_eval ((fr 14 5 (by decide +kernel) rfl).trans E.h5))
theorem yPL_8 {a0 : Act} {w : World} {B2 B3 ix nn mm cy : Nat} (E : EnvPL a0 w B2 B3 ix nn mm cy) {a : Act} {x : World} (hx : x = w.drew ∨ (x = w.drew.setCell ⟨B2, ix, none⟩ (.int .u64 (addE nn mm cy : Nat)) ∧ waits opsPL 13 8 = false)) (oth : ∀ j, (∀ k, dstOf opsPL k ≠ some j) → a.tmps[j]? = a0.tmps[j]?) (dep : ∀ e ∈ oPL_8.after, Region.binds .any e = true → e.on ≠ 13 → ∀ t, dstOf opsPL e.on = some t → a.tmps[t]? = some (vPL B2 B3 ix nn mm cy e.on)) (fr : ∀ j t, waits opsPL j 8 = true → dstOf opsPL j = some t → a.tmps[t]? = a0.tmps[t]?) : (execOp a.eval oPL_8).run Tryz.prog x = .ok (.value (vPL B2 B3 ix nn mm cy 8)) x := by
  have t3 : a.tmps[14]? = some (.int .u64 (nn : Nat)) := dep ⟨3, .data⟩ (by simp [oPL_8]) rfl (by decide) 14 rfl
  have t6 : a.tmps[17]? = some (.int .u64 (mm : Nat)) := dep ⟨6, .data⟩ (by simp [oPL_8]) rfl (by decide) 17 rfl
  have t7 : a.tmps[18]? = some (.int .u64 (cy : Nat)) := dep ⟨7, .data⟩ (by simp [oPL_8]) rfl (by decide) 18 rfl
  exact run_add64c (tmp_eval t3) (tmp_eval t6) (tmp_eval t7) E.hc
theorem yPL_9 {a0 : Act} {w : World} {B2 B3 ix nn mm cy : Nat} (E : EnvPL a0 w B2 B3 ix nn mm cy) {a : Act} {x : World} (hx : x = w.drew ∨ (x = w.drew.setCell ⟨B2, ix, none⟩ (.int .u64 (addE nn mm cy : Nat)) ∧ waits opsPL 13 9 = false)) (oth : ∀ j, (∀ k, dstOf opsPL k ≠ some j) → a.tmps[j]? = a0.tmps[j]?) (dep : ∀ e ∈ oPL_9.after, Region.binds .any e = true → e.on ≠ 13 → ∀ t, dstOf opsPL e.on = some t → a.tmps[t]? = some (vPL B2 B3 ix nn mm cy e.on)) (fr : ∀ j t, waits opsPL j 9 = true → dstOf opsPL j = some t → a.tmps[t]? = a0.tmps[t]?) : (execOp a.eval oPL_9).run Tryz.prog x = .ok (.value (vPL B2 B3 ix nn mm cy 9)) x := by
  have t8 : a.tmps[19]? = some (.tuple #[.int .u64 (addE nn mm cy : Nat), .int .u64 (addC nn mm cy : Nat)]) := dep ⟨8, .data⟩ (by simp [oPL_9]) rfl (by decide) 19 rfl
  exact run_mv (tmp_eval t8)
theorem yPL_10 {a0 : Act} {w : World} {B2 B3 ix nn mm cy : Nat} (E : EnvPL a0 w B2 B3 ix nn mm cy) {a : Act} {x : World} (hx : x = w.drew ∨ (x = w.drew.setCell ⟨B2, ix, none⟩ (.int .u64 (addE nn mm cy : Nat)) ∧ waits opsPL 13 10 = false)) (oth : ∀ j, (∀ k, dstOf opsPL k ≠ some j) → a.tmps[j]? = a0.tmps[j]?) (dep : ∀ e ∈ oPL_10.after, Region.binds .any e = true → e.on ≠ 13 → ∀ t, dstOf opsPL e.on = some t → a.tmps[t]? = some (vPL B2 B3 ix nn mm cy e.on)) (fr : ∀ j t, waits opsPL j 10 = true → dstOf opsPL j = some t → a.tmps[t]? = a0.tmps[t]?) : (execOp a.eval oPL_10).run Tryz.prog x = .ok (.value (vPL B2 B3 ix nn mm cy 10)) x := by
  have t9 : a.tmps[10]? = some (.tuple #[.int .u64 (addE nn mm cy : Nat), .int .u64 (addC nn mm cy : Nat)]) := dep ⟨9, .data⟩ (by simp [oPL_10]) rfl (by decide) 10 rfl
  exact run_ex0 (tmp_eval t9)
theorem yPL_11 {a0 : Act} {w : World} {B2 B3 ix nn mm cy : Nat} (E : EnvPL a0 w B2 B3 ix nn mm cy) {a : Act} {x : World} (hx : x = w.drew ∨ (x = w.drew.setCell ⟨B2, ix, none⟩ (.int .u64 (addE nn mm cy : Nat)) ∧ waits opsPL 13 11 = false)) (oth : ∀ j, (∀ k, dstOf opsPL k ≠ some j) → a.tmps[j]? = a0.tmps[j]?) (dep : ∀ e ∈ oPL_11.after, Region.binds .any e = true → e.on ≠ 13 → ∀ t, dstOf opsPL e.on = some t → a.tmps[t]? = some (vPL B2 B3 ix nn mm cy e.on)) (fr : ∀ j t, waits opsPL j 11 = true → dstOf opsPL j = some t → a.tmps[t]? = a0.tmps[t]?) : (execOp a.eval oPL_11).run Tryz.prog x = .ok (.value (vPL B2 B3 ix nn mm cy 11)) x := by
  have t9 : a.tmps[10]? = some (.tuple #[.int .u64 (addE nn mm cy : Nat), .int .u64 (addC nn mm cy : Nat)]) := dep ⟨9, .data⟩ (by simp [oPL_11]) rfl (by decide) 10 rfl
  exact run_ex1 (tmp_eval t9)
theorem yPL_12 {a0 : Act} {w : World} {B2 B3 ix nn mm cy : Nat} (E : EnvPL a0 w B2 B3 ix nn mm cy) {a : Act} {x : World} (hx : x = w.drew ∨ (x = w.drew.setCell ⟨B2, ix, none⟩ (.int .u64 (addE nn mm cy : Nat)) ∧ waits opsPL 13 12 = false)) (oth : ∀ j, (∀ k, dstOf opsPL k ≠ some j) → a.tmps[j]? = a0.tmps[j]?) (dep : ∀ e ∈ oPL_12.after, Region.binds .any e = true → e.on ≠ 13 → ∀ t, dstOf opsPL e.on = some t → a.tmps[t]? = some (vPL B2 B3 ix nn mm cy e.on)) (fr : ∀ j t, waits opsPL j 12 = true → dstOf opsPL j = some t → a.tmps[t]? = a0.tmps[t]?) : (execOp a.eval oPL_12).run Tryz.prog x = .ok (.value (vPL B2 B3 ix nn mm cy 12)) x := by
  have t0 : a.tmps[11]? = some (.int .i64 (ix : Nat)) := dep ⟨0, .data⟩ (by simp [oPL_12]) rfl (by decide) 11 rfl
  exact run_word (tmp_eval ((oth 2 (fun k h => absurd (dstPL h) (by decide))).trans E.h2)) (tmp_eval t0) E.hi
theorem yPL_13 {a0 : Act} {w : World} {B2 B3 ix nn mm cy : Nat} (E : EnvPL a0 w B2 B3 ix nn mm cy) {a : Act} (oth : ∀ j, (∀ k, dstOf opsPL k ≠ some j) → a.tmps[j]? = a0.tmps[j]?) (dep : ∀ e ∈ oPL_13.after, Region.binds .any e = true → e.on ≠ 13 → ∀ t, dstOf opsPL e.on = some t → a.tmps[t]? = some (vPL B2 B3 ix nn mm cy e.on)) : (execOp a.eval oPL_13).run Tryz.prog w.drew = .ok .skip (w.drew.setCell ⟨B2, ix, none⟩ (.int .u64 (addE nn mm cy : Nat))) := by
  have t12 : a.tmps[22]? = some (.pointer (some ⟨B2, ix, none⟩)) := dep ⟨12, .data⟩ (by simp [oPL_13]) rfl (by decide) 22 rfl
  have t10 : a.tmps[20]? = some (.int .u64 (addE nn mm cy : Nat)) := dep ⟨10, .data⟩ (by simp [oPL_13]) rfl (by decide) 20 rfl
  exact run_put (tmp_eval t12) (tmp_eval t10) E.c2 E.z2
theorem yPL_14 {a0 : Act} {w : World} {B2 B3 ix nn mm cy : Nat} (E : EnvPL a0 w B2 B3 ix nn mm cy) {a : Act} {x : World} (hx : x = w.drew ∨ (x = w.drew.setCell ⟨B2, ix, none⟩ (.int .u64 (addE nn mm cy : Nat)) ∧ waits opsPL 13 14 = false)) (oth : ∀ j, (∀ k, dstOf opsPL k ≠ some j) → a.tmps[j]? = a0.tmps[j]?) (dep : ∀ e ∈ oPL_14.after, Region.binds .any e = true → e.on ≠ 13 → ∀ t, dstOf opsPL e.on = some t → a.tmps[t]? = some (vPL B2 B3 ix nn mm cy e.on)) (fr : ∀ j t, waits opsPL j 14 = true → dstOf opsPL j = some t → a.tmps[t]? = a0.tmps[t]?) : (execOp a.eval oPL_14).run Tryz.prog x = .ok (.value (vPL B2 B3 ix nn mm cy 14)) x := by
  have t11 : a.tmps[21]? = some (.int .u64 (addC nn mm cy : Nat)) := dep ⟨11, .data⟩ (by simp [oPL_14]) rfl (by decide) 21 rfl
  exact run_as (tmp_eval t11)
theorem hopPL {a0 : Act} {w : World} {B2 B3 ix nn mm cy : Nat} (E : EnvPL a0 w B2 B3 ix nn mm cy) : ∀ (i : Nat) (o : Oper) (a : Act) (x : World), opsPL[i]? = some o → i ≠ 13 → (x = w.drew ∨ (x = w.drew.setCell ⟨B2, ix, none⟩ (.int .u64 (addE nn mm cy : Nat)) ∧ waits opsPL 13 i = false)) → (∀ j, (∀ k, dstOf opsPL k ≠ some j) → a.tmps[j]? = a0.tmps[j]?) → (∀ e ∈ o.after, Region.binds .any e = true → e.on ≠ 13 → ∀ t, dstOf opsPL e.on = some t → a.tmps[t]? = some (vPL B2 B3 ix nn mm cy e.on)) → (∀ j t, waits opsPL j i = true → dstOf opsPL j = some t → a.tmps[t]? = a0.tmps[t]?) → ∃ t, o.dst = some t ∧ (execOp a.eval o).run Tryz.prog x = .ok (.value (vPL B2 B3 ix nn mm cy i)) x
  | 0, o, a, x, ho, hi, hx, oth, dep, fr => by
    have e1 : oPL_0 = o := Option.some.inj ho
    subst e1
    exact ⟨11, rfl, yPL_0 E hx oth dep fr⟩
  | 1, o, a, x, ho, hi, hx, oth, dep, fr => by
    have e1 : oPL_1 = o := Option.some.inj ho
    subst e1
    exact ⟨12, rfl, yPL_1 E hx oth dep fr⟩
  | 2, o, a, x, ho, hi, hx, oth, dep, fr => by
    have e1 : oPL_2 = o := Option.some.inj ho
    subst e1
    exact ⟨13, rfl, yPL_2 E hx oth dep fr⟩
  | 3, o, a, x, ho, hi, hx, oth, dep, fr => by
    have e1 : oPL_3 = o := Option.some.inj ho
    subst e1
    exact ⟨14, rfl, yPL_3 E hx oth dep fr⟩
  | 4, o, a, x, ho, hi, hx, oth, dep, fr => by
    have e1 : oPL_4 = o := Option.some.inj ho
    subst e1
    exact ⟨15, rfl, yPL_4 E hx oth dep fr⟩
  | 5, o, a, x, ho, hi, hx, oth, dep, fr => by
    have e1 : oPL_5 = o := Option.some.inj ho
    subst e1
    exact ⟨16, rfl, yPL_5 E hx oth dep fr⟩
  | 6, o, a, x, ho, hi, hx, oth, dep, fr => by
    have e1 : oPL_6 = o := Option.some.inj ho
    subst e1
    exact ⟨17, rfl, yPL_6 E hx oth dep fr⟩
  | 7, o, a, x, ho, hi, hx, oth, dep, fr => by
    have e1 : oPL_7 = o := Option.some.inj ho
    subst e1
    exact ⟨18, rfl, yPL_7 E hx oth dep fr⟩
  | 8, o, a, x, ho, hi, hx, oth, dep, fr => by
    have e1 : oPL_8 = o := Option.some.inj ho
    subst e1
    exact ⟨19, rfl, yPL_8 E hx oth dep fr⟩
  | 9, o, a, x, ho, hi, hx, oth, dep, fr => by
    have e1 : oPL_9 = o := Option.some.inj ho
    subst e1
    exact ⟨10, rfl, yPL_9 E hx oth dep fr⟩
  | 10, o, a, x, ho, hi, hx, oth, dep, fr => by
    have e1 : oPL_10 = o := Option.some.inj ho
    subst e1
    exact ⟨20, rfl, yPL_10 E hx oth dep fr⟩
  | 11, o, a, x, ho, hi, hx, oth, dep, fr => by
    have e1 : oPL_11 = o := Option.some.inj ho
    subst e1
    exact ⟨21, rfl, yPL_11 E hx oth dep fr⟩
  | 12, o, a, x, ho, hi, hx, oth, dep, fr => by
    have e1 : oPL_12 = o := Option.some.inj ho
    subst e1
    exact ⟨22, rfl, yPL_12 E hx oth dep fr⟩
  | 13, o, a, x, ho, hi, hx, oth, dep, fr => absurd rfl hi
  | 14, o, a, x, ho, hi, hx, oth, dep, fr => by
    have e1 : oPL_14 = o := Option.some.inj ho
    subst e1
    exact ⟨5, rfl, yPL_14 E hx oth dep fr⟩
  | i + 15, o, a, x, ho, hi, hx, oth, dep, fr => by cases ho
theorem gdPL : ∀ (i : Nat) (o : Oper), opsPL[i]? = some o → o.guard = none := by
  intro i o ho
  rcases i with _ | _ | _ | _ | _ | _ | _ | _ | _ | _ | _ | _ | _ | _ | _ | i
  · have e := Option.some.inj ho; subst e; rfl
  · have e := Option.some.inj ho; subst e; rfl
  · have e := Option.some.inj ho; subst e; rfl
  · have e := Option.some.inj ho; subst e; rfl
  · have e := Option.some.inj ho; subst e; rfl
  · have e := Option.some.inj ho; subst e; rfl
  · have e := Option.some.inj ho; subst e; rfl
  · have e := Option.some.inj ho; subst e; rfl
  · have e := Option.some.inj ho; subst e; rfl
  · have e := Option.some.inj ho; subst e; rfl
  · have e := Option.some.inj ho; subst e; rfl
  · have e := Option.some.inj ho; subst e; rfl
  · have e := Option.some.inj ho; subst e; rfl
  · have e := Option.some.inj ho; subst e; rfl
  · have e := Option.some.inj ho; subst e; rfl
  · cases ho
theorem regionPL {id : Nat} {l : List Oper} {R : Exit → Act → World → Prop} {a0 : Act} {w : World} {B2 B3 ix nn mm cy : Nat} (hl : l = opsPL) (hsz : a0.tmps.size = 25) (E : EnvPL a0 w B2 B3 ix nn mm cy)
    (hR : R .normal (putAll a0 [(11, .int .i64 (ix : Nat)), (12, .int .i64 (ix : Nat)), (13, .pointer (some ⟨B2, ix, none⟩)), (14, .int .u64 (nn : Nat)), (15, .int .i64 (ix : Nat)), (16, .pointer (some ⟨B3, ix, none⟩)), (17, .int .u64 (mm : Nat)), (18, .int .u64 (cy : Nat)), (19, .tuple #[.int .u64 (addE nn mm cy : Nat), .int .u64 (addC nn mm cy : Nat)]), (10, .tuple #[.int .u64 (addE nn mm cy : Nat), .int .u64 (addC nn mm cy : Nat)]), (20, .int .u64 (addE nn mm cy : Nat)), (21, .int .u64 (addC nn mm cy : Nat)), (22, .pointer (some ⟨B2, ix, none⟩)), (5, .int .u64 (addC nn mm cy : Nat))]) (w.drew.setCell ⟨B2, ix, none⟩ (.int .u64 (addE nn mm cy : Nat)))) :
    (Code.region id l.toArray true).wp Tryz.prog R a0 w := by
  subst hl
  refine wp_region_vals (vPL B2 B3 ix nn mm cy) 13 (w.drew.setCell ⟨B2, ix, none⟩ (.int .u64 (addE nn mm cy : Nat))) (by kernel_rfl) (by decide +kernel) (fun i t h => ?_) ⟨oPL_13, rfl, rfl⟩ gdPL (hopPL E) (fun o a ho oth dep => ?_) (fun a size defers other vals => ?_)
  · rw [hsz]
    exact (by decide : ∀ t ∈ [5, 10, 11, 12, 13, 14, 15, 16, 17, 18, 19, 20, 21, 22], t < 25) t (dstPL h)
  · have e1 : oPL_13 = o := Option.some.inj ho
    subst e1
    exact yPL_13 E oth dep
  · have hA := act_puts (a := a) (a0 := a0) [(11, .int .i64 (ix : Nat)), (12, .int .i64 (ix : Nat)), (13, .pointer (some ⟨B2, ix, none⟩)), (14, .int .u64 (nn : Nat)), (15, .int .i64 (ix : Nat)), (16, .pointer (some ⟨B3, ix, none⟩)), (17, .int .u64 (mm : Nat)), (18, .int .u64 (cy : Nat)), (19, .tuple #[.int .u64 (addE nn mm cy : Nat), .int .u64 (addC nn mm cy : Nat)]), (10, .tuple #[.int .u64 (addE nn mm cy : Nat), .int .u64 (addC nn mm cy : Nat)]), (20, .int .u64 (addE nn mm cy : Nat)), (21, .int .u64 (addC nn mm cy : Nat)), (22, .pointer (some ⟨B2, ix, none⟩)), (5, .int .u64 (addC nn mm cy : Nat))] (by show [11, 12, 13, 14, 15, 16, 17, 18, 19, 10, 20, 21, 22, 5].Nodup; decide) size defers (fun j hj => other j (fun k' hk => hj ?_)) (fun r hr => ?_)
    · refine ⟨?_⟩
      rw [hA]
      exact hR
    · have hm : ∀ t ∈ [5, 10, 11, 12, 13, 14, 15, 16, 17, 18, 19, 20, 21, 22], t ∈ [11, 12, 13, 14, 15, 16, 17, 18, 19, 10, 20, 21, 22, 5] := by decide
      exact hm j (dstPL hk)
    · simp only [List.mem_cons, List.not_mem_nil, or_false] at hr
      rcases hr with rfl | rfl | rfl | rfl | rfl | rfl | rfl | rfl | rfl | rfl | rfl | rfl | rfl | rfl
      · exact vals 0 11 rfl
      · exact vals 1 12 rfl
      · exact vals 2 13 rfl
      · exact vals 3 14 rfl
      · exact vals 4 15 rfl
      · exact vals 5 16 rfl
      · exact vals 6 17 rfl
      · exact vals 7 18 rfl
      · exact vals 8 19 rfl
      · exact vals 9 10 rfl
      · exact vals 10 20 rfl
      · exact vals 11 21 rfl
      · exact vals 12 22 rfl
      · exact vals 14 5 rfl
/-- A number's words. -/
def numV (N : Nat → Nat) : Value := .agg #[.int .u64 (N 0 : Nat), .int .u64 (N 1 : Nat), .int .u64 (N 2 : Nat), .int .u64 (N 3 : Nat), .int .u64 (N 4 : Nat)]
/-- Carries and words of a sum. -/
def cyV (N M : Nat → Nat) : Nat → Nat
  | 0 => 0
  | i + 1 => addC (N i) (M i) (cyV N M i)
def dgV (N M : Nat → Nat) (i : Nat) : Nat := addE (N i) (M i) (cyV N M i)
theorem cy_le {N M : Nat → Nat} (hN : ∀ i, N i < m64) (hM : ∀ i, M i < m64) : ∀ i, cyV N M i ≤ 1 := by
  intro i
  induction i with
  | zero => exact Nat.zero_le _
  | succ i ih =>
    show (N i + M i + cyV N M i) / m64 ≤ 1
    have h1 := hN i
    have h2 := hM i
    unfold m64 at *
    omega
structure PSt (w : World) (N M : Nat → Nat) (B2 B3 B4 i : Nat) (x : World) : Prop where
  q : Q w x
  c2 : ∀ j, j < 5 → x.cell? ⟨B2, j, none⟩ = some (.int .u64 ((if j < i then dgV N M j else N j : Nat) : Int))
  c3 : ∀ j, j < 5 → x.cell? ⟨B3, j, none⟩ = some (.int .u64 (M j : Nat))
  c4 : ∀ j, j < 5 → x.cell? ⟨B4, j, none⟩ = some (.int .u64 0)
  z2 : ∀ j, x.frozen? ⟨B2, j, none⟩ = false
  z4 : ∀ j, x.frozen? ⟨B4, j, none⟩ = false
theorem PSt.step {w x : World} {N M : Nat → Nat} {B2 B3 B4 i : Nat} (h : PSt w N M B2 B3 B4 i x) (hw : w.heap.size ≤ B2) (h3 : B3 ≠ B2) (h4 : B4 ≠ B2) (hi : i < 5) : PSt w N M B2 B3 B4 (i + 1) (x.drew.setCell ⟨B2, i, none⟩ (.int .u64 (addE (N i) (M i) (cyV N M i) : Nat))) := by
  refine ⟨h.q.drew.set hw _, fun j hj => ?_, fun j hj => ?_, fun j hj => ?_, fun j => ?_, fun j => ?_⟩
  · by_cases e : j = i
    · subst e
      have c := h.c2 j hj
      rw [if_pos (by omega)]
      simp [go_sem, c]
      rfl
    · have hne : (⟨B2, i, none⟩ : Addr) ≠ ⟨B2, j, none⟩ := fun e' => e (by injection e' with _ e'; exact e'.symm)
      rw [World.cell?_setCell_other _ _ _ _ hne]
      have c := h.c2 j hj
      have : (if j < i + 1 then dgV N M j else N j) = (if j < i then dgV N M j else N j) := by
        by_cases g : j < i
        · rw [if_pos g, if_pos (by omega)]
        · rw [if_neg g, if_neg (by omega)]
      rw [this]
      simpa using c
  · have hne : (⟨B2, i, none⟩ : Addr) ≠ ⟨B3, j, none⟩ := fun e' => h3 (by injection e' with e'; exact e'.symm)
    rw [World.cell?_setCell_other _ _ _ _ hne]
    simpa using h.c3 j hj
  · have hne : (⟨B2, i, none⟩ : Addr) ≠ ⟨B4, j, none⟩ := fun e' => h4 (by injection e' with e'; exact e'.symm)
    rw [World.cell?_setCell_other _ _ _ _ hne]
    simpa using h.c4 j hj
  · simpa using h.z2 j
  · simpa using h.z4 j
set_option maxHeartbeats 4000000 in
set_option maxRecDepth 100000 in
theorem nplus_any (N M : Nat → Nat) (hN : ∀ i, N i < m64) (hM : ∀ i, M i < m64) (w : World) : Calls Tryz.prog 72 #[numV N, numV M] w fun e w' => e = .returned (numV (dgV N M)) ∧ Q w w' := by
  have HCY : Hid (∀ i, cyV N M i ≤ 1) := cy_le hN hM
  clear hN hM
  unfold numV
  go_enter Tryz.func72, Tryz.ntmps72
  go_wp2_with fail
  obtain ⟨x0, hx0⟩ : ∃ x0, ((w.alloc (Obj.cells #[.int .u64 (N 0 : Nat), .int .u64 (N 1 : Nat), .int .u64 (N 2 : Nat), .int .u64 (N 3 : Nat), .int .u64 (N 4 : Nat)] 112)).alloc (Obj.cells #[.int .u64 (M 0 : Nat), .int .u64 (M 1 : Nat), .int .u64 (M 2 : Nat), .int .u64 (M 3 : Nat), .int .u64 (M 4 : Nat)] 112)).alloc (Obj.cells #[.int .u64 0, .int .u64 0, .int .u64 0, .int .u64 0, .int .u64 0] 112) = x0 := ⟨_, rfl⟩
  have P0 : PSt w N M w.heap.size (w.heap.size + 1) (w.heap.size + 1 + 1) 0 x0 := by
    rw [← hx0]
    refine ⟨(((Q.refl w).cells _ _).cells _ _).cells _ _, fun j hj => ?_, fun j hj => ?_, fun j hj => ?_, fun j => by simp [go_sem], fun j => by simp [go_sem]⟩
    · rw [if_neg (Nat.not_lt_zero _)]
      rcases j with _ | _ | _ | _ | _ | j
      · simp [go_sem]
      · simp [go_sem]
      · simp [go_sem]
      · simp [go_sem]
      · simp [go_sem]
      · omega
    · rcases j with _ | _ | _ | _ | _ | j
      · simp [go_sem]
      · simp [go_sem]
      · simp [go_sem]
      · simp [go_sem]
      · simp [go_sem]
      · omega
    · rcases j with _ | _ | _ | _ | _ | j
      · simp [go_sem]
      · simp [go_sem]
      · simp [go_sem]
      · simp [go_sem]
      · simp [go_sem]
      · omega
  have HP0 : Hid (PSt w N M w.heap.size (w.heap.size + 1) (w.heap.size + 1 + 1) 0 x0) := P0
  rw [hx0]
  clear hx0 P0
  go_loopg [5, 7] (5) (fun gh s5 s7 wr => ∃ i : Nat, s5 = .int .u64 (cyV N M i : Nat) ∧ s7 = .int .i64 (i : Int) ∧ i ≤ 5 ∧ gh = 5 - i ∧ Hid (PSt w N M w.heap.size (w.heap.size + 1) (w.heap.size + 1 + 1) i wr))
  case atStart => exact ⟨0, rfl, rfl, by omega, rfl, HP0.out⟩
  case round =>
    obtain ⟨i, rfl, rfl, hi, rfl, HP⟩ := hrel
    by_cases h5 : i < 5
    · go_wp2_with fail
      refine regionPL (nn := N i) (mm := M i) rfl rfl ⟨rfl, rfl, rfl, rfl, h5, HCY.out i, ?_, ?_, ?_⟩ ?_
      · have c := HP.out.c2 i h5
        rw [if_neg (Nat.lt_irrefl _)] at c
        simpa using c
      · simpa using HP.out.c3 i h5
      · simpa using HP.out.z2 i
      · simp only [putAll, Act.put]
        go_wp2_with fail
        go_roundg (5 - (i + 1))
        case measure => go_light; omega
        case rel =>
          go_light
          exact ⟨i + 1, rfl, by simp, by omega, rfl, HP.out.step (Nat.le_refl _) (by omega) (by omega) h5⟩
    · obtain rfl : i = 5 := by omega
      have HQ : Hid (Q w wr) := HP.out.q
      obtain ⟨a0, a1, a2, a3, a4⟩ : wr.cell? ⟨w.heap.size, 0, none⟩ = some (.int .u64 (dgV N M 0 : Nat)) ∧ wr.cell? ⟨w.heap.size, 1, none⟩ = some (.int .u64 (dgV N M 1 : Nat)) ∧ wr.cell? ⟨w.heap.size, 2, none⟩ = some (.int .u64 (dgV N M 2 : Nat)) ∧ wr.cell? ⟨w.heap.size, 3, none⟩ = some (.int .u64 (dgV N M 3 : Nat)) ∧ wr.cell? ⟨w.heap.size, 4, none⟩ = some (.int .u64 (dgV N M 4 : Nat)) :=
        ⟨HP.out.c2 0 (by decide), HP.out.c2 1 (by decide), HP.out.c2 2 (by decide), HP.out.c2 3 (by decide), HP.out.c2 4 (by decide)⟩
      have b0 := HP.out.c4 0 (by decide)
      have b1 := HP.out.c4 1 (by decide)
      have b2 := HP.out.c4 2 (by decide)
      have b3 := HP.out.c4 3 (by decide)
      have b4 := HP.out.c4 4 (by decide)
      have z0 := HP.out.z4 0
      have z1 := HP.out.z4 1
      have z2 := HP.out.z4 2
      have z3 := HP.out.z4 3
      have z4 := HP.out.z4 4
      clear HP HCY
      go_wp2_with fail
      refine bodyPost_ret (v := numV (dgV N M)) (by simp [results, Tryz.results72, go_sem, b0, b1, b2, b3, b4, numV]) rfl ⟨rfl, ?_⟩
      have hle : w.heap.size ≤ w.heap.size + 1 + 1 := by omega
      exact ((((HQ.out.set hle _).set hle _).set hle _).set hle _).set hle _
end Go.Proofs.YtieojgblamkgoaaGreatDoor

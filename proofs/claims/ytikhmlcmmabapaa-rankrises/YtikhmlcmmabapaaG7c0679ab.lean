/- A map of samples that the call itself has made: which keys it holds with 1. -/
import Derived.Maps.Own
import Derived.Maps.Views
import Derived.Test.YtikhmlcmmabapaaGa921ac76
import Derived.Test.YtikhmlcmmabapaaG16cf706c
import Derived.Test.YtikhmlcmmabapaaGf6c126f4
import Derived.Test.YtikhmlcmmabapaaG2b2bd855
import Derived.Test.YtikhmlcmmabapaaG0a9198e3
namespace Go.Proofs.Ytikhmlcmmabapaa
open Go.RowKit
set_option linter.unusedVariables false
set_option linter.unusedSimpArgs false

theorem lit_u32 {s : Nat} (h : s < 4294967296) : (Lit.int .u32 (s : Int)).wf = true := by
  have h1 : IntKind.u32.min = 0 := by decide
  have h2 : IntKind.u32.max = 4294967295 := by decide
  simp [Lit.wf, h1, h2]; omega
/-- A map that holds 1 for each of L. -/
def Mp (x : World) (bm n : Nat) (L : Nat → Prop) : Prop := ∃ D : DataW Unit, x.ownsMap Try.prog 38 (plainElem Try.prog 3) bm n D ∧ ∀ s, L s → D.atKey (.int .u32 (s : Int)) (.lit (.int .i64 0)) = .lit (.int .i64 1)
theorem keyU : Maps.Keyed Try.prog 38 := Maps.int_keyed Try.underlying38
theorem Mp.made (w : World) : Mp (w.alloc (.map #[] 0)) w.heap.size 0 (fun _ => False) := ⟨_, World.ownsMap_made _ _ _ _, fun s h => h.elim⟩
theorem Mp.lt {x : World} {bm n : Nat} {L : Nat → Prop} (h : Mp x bm n L) : bm < x.heap.size := by obtain ⟨D, h1, _⟩ := h; exact h1.lt
theorem Mp.same {x x' : World} {bm n : Nat} {L : Nat → Prop} (h : Mp x bm n L) (hb : x'.heap[bm]? = x.heap[bm]?) : Mp x' bm n L := by
  obtain ⟨D, ⟨es, clock, h1, h2⟩, h3⟩ := h
  exact ⟨D, ⟨es, clock, hb.trans h1, h2⟩, h3⟩
set_option maxRecDepth 100000 in
theorem Mp.look {x : World} {bm n : Nat} {L : Nat → Prop} (h : Mp x bm n L) {s : Nat} (hs : s < 4294967296) (hL : L s) : (Instr.lookup 37 (.map (some bm)) (.int .u32 (s : Int)) false).run Try.prog x = .ok (.int .i64 1) x := by
  obtain ⟨D, h1, h2⟩ := h
  obtain ⟨c, hr, hat, _⟩ := h1.lookup_int keyU Try.underlying37 Try.underlying3 (by kernel_rfl) (Maps.keyOf_int_mk Try.underlying38 (lit_u32 hs))
  rw [h2 s hL] at hat
  injection hat with hat
  injection hat with _ hat
  subst hat
  exact hr
set_option maxRecDepth 100000 in
theorem Mp.put {x : World} {bm n : Nat} {L : Nat → Prop} (h : Mp x bm n L) {s : Nat} (hs : s < 4294967296) (hn : n < 1000000) : ∃ x', (Instr.mapUpdate 37 (.map (some bm)) (.int .u32 (s : Int)) (.int .i64 1)).run Try.prog x = .ok () x' ∧ Mp x' bm (n + 1) (fun t => L t ∨ t = s) ∧ x.grownBy x' (some bm) := by
  obtain ⟨D, h1, h2⟩ := h
  have hm : Maps.IsMap D := by obtain ⟨es, clock, _, _, _, e⟩ := h1; exact ⟨_, e⟩
  obtain ⟨x', r1, r2, r3⟩ := h1.update (t := 37) keyU Try.underlying37 (by unfold maxLen; omega) (Maps.keyOf_int_mk Try.underlying38 (lit_u32 hs)) (plainElem_int Try.underlying3 (a := 1) (by decide))
  refine ⟨x', r1, ⟨_, r2, fun t ht => ?_⟩, r3⟩
  by_cases e : t = s
  · subst e
    exact Maps.atKey_put_same hm (by trivial) _ _
  · rw [Maps.atKey_put_other (by simp; omega)]
    exact h2 t (ht.resolve_right e)
theorem grown_cell {x x' : World} {row : Option Nat} {g j : Nat} (h : x.grownBy x' row) (hg : some g ≠ row) {v : Value} (hc : x.cell? ⟨g, j, none⟩ = some v) : x'.cell? ⟨g, j, none⟩ = some v := by
  have hl := World.block_lt_of_cell? _ _ hc
  rw [← hc]
  unfold World.cell?
  rw [h.block g hl hg]
theorem grown_frozen {x x' : World} {row : Option Nat} {g j : Nat} (h : x.grownBy x' row) (hg : some g ≠ row) (hl : g < x.heap.size) : x'.frozen? ⟨g, j, none⟩ = x.frozen? ⟨g, j, none⟩ := by
  unfold World.frozen?
  rw [h.block g hl hg]
theorem Qb.grown {a x x' : World} {bm : Nat} (h : Qb a x) (g : x.grownBy x' (some bm)) (hb : a.heap.size ≤ bm) : Qb a x' :=
  ⟨g.os.trans h.os, g.tape.trans h.tape, g.output.trans h.output, Nat.le_trans h.size g.size, fun b hl => (g.block b (Nat.lt_of_lt_of_le hl h.size) (by simp; omega)).trans (h.block b hl)⟩
end Go.Proofs.Ytikhmlcmmabapaa
/- RankRises: two lists of which one takes each new sample; what is asked of ranks. -/
namespace Go.Proofs.Ytikhmlcmmabapaa
open Go.RowKit
set_option linter.unusedVariables false
set_option linter.unusedSimpArgs false

/-- As far as k, the samples of A where c says so. -/
def selK (c : Nat → Bool) (A S : List Nat) (k j : Nat) : Nat := if j < k ∧ c j = true then A.getD j 0 else S.getD j 0
def selL (c : Nat → Bool) (A S : List Nat) : List Nat := (List.range S.length).map fun j => if c j = true then A.getD j 0 else S.getD j 0
theorem selK_step {c : Nat → Bool} {A S : List Nat} {k n : Nat} : ∀ j, j < n → j ≠ k → selK c A S (k + 1) j = selK c A S k j := fun j _ hj => by
  unfold selK
  by_cases h : j < k
  · simp only [h, show j < k + 1 by omega]
  · simp only [h, show ¬ j < k + 1 by omega]
theorem selK_new {c : Nat → Bool} {A S : List Nat} {k : Nat} (h : c k = true) : selK c A S (k + 1) k = A.getD k 0 := by unfold selK; rw [if_pos ⟨by omega, h⟩]
theorem selK_keep {c : Nat → Bool} {A S : List Nat} {k : Nat} (h : c k = false) : selK c A S (k + 1) = selK c A S k := by
  funext j
  by_cases hj : j = k
  · subst hj; unfold selK; simp [h]
  · exact selK_step (n := j + 1) j (by omega) hj
theorem selL_len (c : Nat → Bool) (A S : List Nat) : (selL c A S).length = S.length := by simp [selL]
theorem selL_at {c : Nat → Bool} {A S : List Nat} {i : Nat} (h : i < S.length) : (selL c A S).getD i 0 = if c i = true then A.getD i 0 else S.getD i 0 := by
  unfold selL
  rw [List.getD_eq_getElem?_getD, List.getElem?_map, List.getElem?_range h]; rfl
theorem selL_lt {c : Nat → Bool} {A S : List Nat} (hA : ∀ i, A.getD i 0 < 4294967296) (hS : ∀ i, S.getD i 0 < 4294967296) (i : Nat) : (selL c A S).getD i 0 < 4294967296 := by
  by_cases h : i < S.length
  · rw [selL_at h]; split
    · exact hA i
    · exact hS i
  · rw [List.getD_eq_getElem?_getD, List.getElem?_eq_none (by rw [selL_len]; omega)]; decide
theorem selK_all {c : Nat → Bool} {A S : List Nat} {x : World} {r n : Nat} (hl : S.length = n) (h : VR x r n (fun j => .int .u32 ((selK c A S n j : Nat) : Int))) : UIs x r 0 (selL c A S) := fun i hi => by
  have hi' : i < n := by rw [selL_len, hl] at hi; exact hi
  rw [Nat.zero_add, h.cell i hi', selL_at (by omega)]
  unfold selK
  simp only [hi', true_and]
theorem Tw.nextQ {wp x x' : World} {g1 g2 r1 r2 pa pb n c1 c2 : Nat} {F1 F2 : Nat → Nat} (h : Tw wp x g1 g2 r1 r2 pa pb n c1 c2 F1 F2) (q : Q x x') : Tw wp x' g1 g2 r1 r2 pa pb n c1 c2 F1 F2 :=
  ⟨h.q.trans q.qb, q.cell h.c10, q.cell h.c11, q.cell h.c12, q.cell h.c20, q.cell h.c21, q.cell h.c22, h.v1.next q, h.v2.next q, h.n12, h.n1a, h.n1b, h.n2a, h.n2b, h.l1, h.l2⟩
theorem Tw.grown {wp x x' : World} {g1 g2 r1 r2 pa pb n c1 c2 : Nat} {F1 F2 : Nat → Nat} {row : Option Nat} (h : Tw wp x g1 g2 r1 r2 pa pb n c1 c2 F1 F2) (hn : 1 ≤ n) (g : x.grownBy x' row) (q : Qb wp x') (a1 : some g1 ≠ row) (a2 : some g2 ≠ row) (a3 : some r1 ≠ row) (a4 : some r2 ≠ row) : Tw wp x' g1 g2 r1 r2 pa pb n c1 c2 F1 F2 :=
  ⟨q, grown_cell g a1 h.c10, grown_cell g a1 h.c11, grown_cell g a1 h.c12, grown_cell g a2 h.c20, grown_cell g a2 h.c21, grown_cell g a2 h.c22,
    ⟨fun i hi => grown_cell g a3 (h.v1.cell i hi), fun j => by rw [grown_frozen g a3 (h.v1.lt hn)]; exact h.v1.free j⟩,
    ⟨fun i hi => grown_cell g a4 (h.v2.cell i hi), fun j => by rw [grown_frozen g a4 (h.v2.lt hn)]; exact h.v2.free j⟩, h.n12, h.n1a, h.n1b, h.n2a, h.n2b, h.l1, h.l2⟩
/-- Two lists, and the map of the samples seen. -/
structure TwM (wp x : World) (g1 g2 r1 r2 pa pb n c1 c2 bm i : Nat) (c : Nat → Bool) (A S : List Nat) : Prop where
  t : Tw wp x g1 g2 r1 r2 pa pb n c1 c2 (selK c A S i) (selK (fun j => !c j) A S i)
  m : Mp x bm i (fun s => ∃ j, j < i ∧ S.getD j 0 = s)
  a1 : g1 ≠ bm
  a2 : g2 ≠ bm
  a3 : r1 ≠ bm
  a4 : r2 ≠ bm
  lb : wp.heap.size ≤ bm
theorem setcell_heap {x : World} {g i b : Nat} {v : Value} (h : b ≠ g) : (x.setCell ⟨g, i, none⟩ v).heap[b]? = x.heap[b]? := Below.heap_setCell _ _ _ _ (by exact h)
theorem TwM.put1 {wp x : World} {g1 g2 r1 r2 pa pb n c1 c2 bm i : Nat} {c : Nat → Bool} {A S : List Nat} (t : Tw wp x g1 g2 r1 r2 pa pb n c1 c2 (selK c A S i) (selK (fun j => !c j) A S i)) (m : Mp x bm (i + 1) (fun s => ∃ j, j < i + 1 ∧ S.getD j 0 = s)) (a1 : g1 ≠ bm) (a2 : g2 ≠ bm) (a3 : r1 ≠ bm) (a4 : r2 ≠ bm) (lb : wp.heap.size ≤ bm) (hi : i < n) (hc : c i = true) :
    TwM wp (x.setCell ⟨r1, i, none⟩ (.int .u32 ((A.getD i 0 : Nat) : Int))) g1 g2 r1 r2 pa pb n c1 c2 bm (i + 1) c A S :=
  ⟨by rw [selK_keep (c := fun j => !c j) (by simp [hc])]; exact t.put1 hi (selK_new hc) selK_step, m.same (setcell_heap a3.symm), a1, a2, a3, a4, lb⟩
theorem TwM.put2 {wp x : World} {g1 g2 r1 r2 pa pb n c1 c2 bm i : Nat} {c : Nat → Bool} {A S : List Nat} (t : Tw wp x g1 g2 r1 r2 pa pb n c1 c2 (selK c A S i) (selK (fun j => !c j) A S i)) (m : Mp x bm (i + 1) (fun s => ∃ j, j < i + 1 ∧ S.getD j 0 = s)) (a1 : g1 ≠ bm) (a2 : g2 ≠ bm) (a3 : r1 ≠ bm) (a4 : r2 ≠ bm) (lb : wp.heap.size ≤ bm) (hi : i < n) (hc : c i = false) :
    TwM wp (x.setCell ⟨r2, i, none⟩ (.int .u32 ((A.getD i 0 : Nat) : Int))) g1 g2 r1 r2 pa pb n c1 c2 bm (i + 1) c A S :=
  ⟨by rw [selK_keep (c := c) hc]; exact t.put2 hi (selK_new (c := fun j => !c j) (by simp [hc])) selK_step, m.same (setcell_heap a4.symm), a1, a2, a3, a4, lb⟩
/-- What is asked of ranks. -/
theorem rises_all {S A : List Nat} {pa pb bd wa ha kk mm i : Nat} (c : Nat → Bool) (hsz : Size pa pb) (hl : S.length = pa * pb) (hS : ∀ i, S.getD i 0 < 4294967296) (hA : ∀ i, A.getD i 0 < 4294967296) (a1 : 1 ≤ wa) (b1 : 1 ≤ ha) (hk : kk < wa * ha) (hm : mm < wa * ha) (hc : ∀ j, c j = true ↔ keyN (A.getD j 0) < keyN (S.getD j 0)) (hi : i < pa * pb) :
    (∃ j, j < pa * pb ∧ S.getD j 0 = (rnkL S pa pb bd wa ha kk).getD i 0) ∧ (kk ≤ mm → keyN ((rnkL S pa pb bd wa ha kk).getD i 0) ≤ keyN ((rnkL S pa pb bd wa ha mm).getD i 0)) ∧ (mm ≤ kk → keyN ((rnkL S pa pb bd wa ha mm).getD i 0) ≤ keyN ((rnkL S pa pb bd wa ha kk).getD i 0)) ∧
    keyN ((rnkL (selL c A S) pa pb bd wa ha kk).getD i 0) ≤ keyN ((rnkL (selL (fun j => !c j) A S) pa pb bd wa ha kk).getD i 0) ∧ keyN ((rnkL S pa pb bd wa ha 0).getD i 0) ≤ keyN (S.getD i 0) ∧ keyN (S.getD i 0) ≤ keyN ((rnkL S pa pb bd wa ha (wa * ha - 1)).getD i 0) := by
  obtain ⟨_, hx, hy⟩ := row_lt hi
  rw [rnkL_at hi, rnkL_at hi, rnkL_at hi, rnkL_at hi, rnkL_at hi, rnkL_at hi]
  have hself : S.getD i 0 ∈ winL S pa pb bd wa ha (i % pa) (i / pa) := by
    have := win_self (S := S) (bd := bd) hx hy a1 b1
    unfold smp at this
    rw [Nat.div_add_mod' i pa] at this
    exact this
  have hwl : (winL S pa pb bd wa ha (i % pa) (i / pa)).length = wa * ha := winL_len _ _ _ _ _ _ _ _
  have hp := Nat.mul_pos a1 b1
  refine ⟨?_, fun h => rk_rises h (by rw [hwl]; exact hm), fun h => rk_rises h (by rw [hwl]; exact hk), ?_, ?_, ?_⟩
  · have := rk_mem (L := winL S pa pb bd wa ha (i % pa) (i / pa)) (k := kk) (by rw [hwl]; exact hk)
    obtain ⟨u, v, _, _, e⟩ := mem_tab.1 this
    unfold rnkV
    rw [e]
    exact ⟨_, by rw [← hl]; exact smp_in hl (borN_lt _ hsz.a1) (borN_lt _ hsz.b1), rfl⟩
  · refine rnk_mono hsz.a1 hsz.b1 (by rw [selL_len]; exact hl) (fun j hj => ?_) hk _ _
    rw [selL_len] at hj
    rw [selL_at hj, selL_at hj]
    by_cases h : c j = true
    · have := (hc j).1 h
      simp only [h, Bool.not_true, if_true, Bool.false_eq_true, if_false]
      omega
    · have h2 : ¬ keyN (A.getD j 0) < keyN (S.getD j 0) := fun g => h ((hc j).2 g)
      have h3 : c j = false := by simpa using h
      simp only [h3, Bool.not_false, if_true, Bool.false_eq_true, if_false]
      omega
  · unfold rnkV
    rw [rk_least (by rw [hwl]; exact hp)]
    exact ⟨_, hself, Nat.le_refl _⟩
  · unfold rnkV
    have := (rk_most (L := winL S pa pb bd wa ha (i % pa) (i / pa)) (t := keyN (rkV (winL S pa pb bd wa ha (i % pa) (i / pa)) (wa * ha - 1))) (by rw [hwl]; exact hp))
    rw [hwl] at this
    exact this.1 (Nat.le_refl _) _ hself
end Go.Proofs.Ytikhmlcmmabapaa
/- Regions that draw their order, whose last operation waits for all others: one walk in the order of the text, and then the last operation. -/
namespace Go.Proofs.Ytikhmlcmmabapaa
open Go.RowKit
set_option linter.unusedVariables false

/-- The last operation waits for all others; each of these waits for earlier ones alone; none is guarded. -/
def lastB (pre : List Oper) (st : Oper) : Bool :=
  ((List.range pre.length).all fun k => match pre[k]? with
    | some o => o.guard.isNone && o.after.toList.all fun e => !(Region.binds .any e) || decide (e.on < k)
    | none => true) &&
  ((st.guard.isNone && st.after.toList.all fun e => !(Region.binds .any e) || decide (e.on < pre.length)) && (List.range pre.length).all fun k => st.after.toList.any fun e => Region.binds .any e && (e.on == k))
theorem lastB_pre {pre : List Oper} {st : Oper} (h : lastB pre st = true) {k : Nat} {o : Oper} (hk : pre[k]? = some o) : o.guard = none ∧ ∀ e ∈ o.after, Region.binds .any e = true → e.on < k := by
  unfold lastB at h
  rw [Bool.and_eq_true] at h
  have hlt : k < pre.length := (List.getElem?_eq_some_iff.1 hk).1
  have h1 := List.all_eq_true.1 h.1 k (List.mem_range.2 hlt)
  rw [hk] at h1
  simp only [Bool.and_eq_true] at h1
  refine ⟨by simpa using h1.1, fun e he hb => ?_⟩
  have h2 := List.all_eq_true.1 h1.2 e (by simpa using he)
  rw [hb] at h2
  simpa using h2
theorem lastB_st {pre : List Oper} {st : Oper} (h : lastB pre st = true) : st.guard = none ∧ (∀ k, k < pre.length → ∃ e ∈ st.after, Region.binds .any e = true ∧ e.on = k) ∧ ∀ e ∈ st.after, Region.binds .any e = true → e.on < pre.length := by
  unfold lastB at h
  simp only [Bool.and_eq_true] at h
  refine ⟨by simpa using h.2.1.1, fun k hk => ?_, fun e he hb => ?_⟩
  rotate_left
  · have h2 := List.all_eq_true.1 h.2.1.2 e (by simpa using he)
    rw [hb] at h2
    simpa using h2
  have h1 := List.all_eq_true.1 h.2.2 k (List.mem_range.2 hk)
  obtain ⟨e, he, h2⟩ := List.any_eq_true.1 h1
  rw [Bool.and_eq_true] at h2
  exact ⟨e, by simpa using he, h2.1, by simpa using h2.2⟩
theorem push_getD_lt (l : Array Bool) (d : Bool) {i : Nat} (h : i < l.size) : (l.push false).getD i d = l.getD i d := by
  rw [Array.getD_eq_getD_getElem?, Array.getD_eq_getD_getElem?, Array.getElem?_push_lt h, Array.getElem?_eq_getElem h]
theorem push_getD_eq (l : Array Bool) (d : Bool) : (l.push false).getD l.size d = false := by
  rw [Array.getD_eq_getD_getElem?, Array.getElem?_push_size]; rfl
theorem ops_lt {pre : List Oper} {st : Oper} {i : Nat} (h : i < pre.length) : (pre ++ [st]).toArray[i]? = pre.toArray[i]? := by
  simp [List.getElem?_append_left h]
theorem ready_lt {pre : List Oper} {st : Oper} (hB : lastB pre st = true) {listed : Array Bool} (hs : listed.size = pre.length) {i : Nat} (hi : i ∈ Region.ready .any (pre ++ [st]).toArray (listed.push false)) :
    (i < pre.length ∧ i ∈ Region.ready .any pre.toArray listed) ∨ (i = pre.length ∧ ∀ k, k < pre.length → listed.getD k false = true) := by
  obtain ⟨h1, o, ho, h2⟩ := mem_ready.1 hi
  rcases Nat.lt_trichotomy i pre.length with h | h | h
  · left
    refine ⟨h, mem_ready.2 ⟨?_, o, ?_, fun e he hb => ?_⟩⟩
    · rw [← push_getD_lt listed true (by omega)]; exact h1
    · rw [← ops_lt (st := st) h]; exact ho
    · have hk : pre[i]? = some o := by rw [ops_lt h] at ho; simpa using ho
      have := (lastB_pre hB hk).2 e he hb
      rw [← push_getD_lt listed false (by omega)]
      exact h2 e he hb
  · right
    refine ⟨h, fun k hk => ?_⟩
    have hst : o = st := by
      rw [h] at ho
      simp at ho
      exact ho.symm
    subst hst
    obtain ⟨e, he, hb, rfl⟩ := (lastB_st hB).2.1 k hk
    rw [← push_getD_lt listed false (by omega)]
    exact h2 e he hb
  · exfalso
    rw [List.getElem?_toArray, List.getElem?_eq_none (by simp; omega)] at ho
    cases ho
theorem ready_back {pre : List Oper} {st : Oper} (hB : lastB pre st = true) {listed : Array Bool} (hs : listed.size = pre.length) {i : Nat} (hi : i ∈ Region.ready .any pre.toArray listed) : i ∈ Region.ready .any (pre ++ [st]).toArray (listed.push false) := by
  obtain ⟨h1, o, ho, h2⟩ := mem_ready.1 hi
  have h : i < pre.length := by
    have := (List.getElem?_eq_some_iff.1 (show pre[i]? = some o by simpa using ho)).1
    exact this
  refine mem_ready.2 ⟨?_, o, ?_, fun e he hb => ?_⟩
  · rw [push_getD_lt listed true (by omega)]; exact h1
  · rw [ops_lt h]; exact ho
  · have hk : pre[i]? = some o := by simpa using ho
    have := (lastB_pre hB hk).2 e he hb
    rw [push_getD_lt listed false (by omega)]
    exact h2 e he hb
theorem ready_nil {pre : List Oper} {st : Oper} (hB : lastB pre st = true) {listed : Array Bool} (hs : listed.size = pre.length) (hr : Region.ready .any pre.toArray listed = []) : ∀ k, k < pre.length → listed.getD k false = true := by
  intro k
  induction k using Nat.strongRecOn with
  | ind k ih =>
    intro hk
    have hk' : k < listed.size := by omega
    cases hl : listed.getD k false with
    | true => rfl
    | false =>
      exfalso
      obtain ⟨o, ho⟩ : ∃ o, pre[k]? = some o := ⟨_, List.getElem?_eq_getElem hk⟩
      have : k ∈ Region.ready .any pre.toArray listed := by
        refine mem_ready.2 ⟨?_, o, by simpa using ho, fun e he hb => ?_⟩
        · rw [Array.getD_eq_getD_getElem?, Array.getElem?_eq_getElem hk'] at hl ⊢; exact hl
        · have := (lastB_pre hB ho).2 e he hb
          exact ih e.on this (by omega)
      rw [hr] at this
      cases this
theorem push_set (l : Array Bool) {i : Nat} (h : i < l.size) : (l.push false).setIfInBounds i true = (l.setIfInBounds i true).push false := by
  apply Array.ext_getElem?
  intro j
  rw [Array.getElem?_setIfInBounds, Array.getElem?_push, Array.getElem?_push, Array.getElem?_setIfInBounds]
  simp only [Array.size_push, Array.size_setIfInBounds]
  by_cases e : i = j
  · subst e
    have h3 : ¬ i = l.size := by omega
    have h4 : i < l.size + 1 := by omega
    simp [h, h3, h4]
  · simp [e]
theorem wpAny_done {P : Program} {ops : Array Oper} {Q' : Exit → Act → World → Prop} {listed : Array Bool} (hr : Region.ready .any ops listed = []) {a : Act} {w : World} (h : Q' .normal a w) : ∀ f, wpAny P .any ops Q' f listed a w
  | 0 => ⟨hr, h⟩
  | f + 1 => ⟨fun _ => h, fun i hi => by rw [hr] at hi; cases hi⟩
theorem wpAny_last {P : Program} {pre : List Oper} {st : Oper} {C : World → Prop} {Q : Act → Prop} {Q' : Exit → Act → World → Prop} (hB : lastB pre st = true)
    (hQ : ∀ a w, C w → Q a → st.wp P a w (fun a' w' => Q' .normal a' w') Q') : ∀ (fuel : Nat) (listed : Array Bool) (a : Act) (w : World), listed.size = pre.length → C w →
    wpAnyQ P .any pre.toArray C Q fuel listed a → wpAny P .any (pre ++ [st]).toArray Q' (fuel + 1) (listed.push false) a w := by
  have done : ∀ (fuel : Nat) (listed : Array Bool) (a : Act) (w : World), listed.size = pre.length → C w → (∀ k, k < pre.length → listed.getD k false = true) → Q a → wpAny P .any (pre ++ [st]).toArray Q' (fuel + 1) (listed.push false) a w := by
    intro fuel listed a w hs hC hall hq
    obtain ⟨g1, g2, g3⟩ := lastB_st hB
    have hrn : pre.length ∈ Region.ready .any (pre ++ [st]).toArray (listed.push false) := by
      refine mem_ready.2 ⟨?_, st, by simp, fun e he hb => ?_⟩
      · rw [← hs]; exact push_getD_eq _ _
      · have := g3 e he hb
        rw [push_getD_lt listed false (by omega)]
        exact hall _ this
    refine ⟨fun hr => (by rw [hr] at hrn; cases hrn), fun i hi => ?_⟩
    have hin : i = pre.length := by
      rcases ready_lt hB hs hi with ⟨h1, h2⟩ | ⟨h1, _⟩
      · exfalso
        obtain ⟨h3, _⟩ := mem_ready.1 h2
        have h4 := hall i h1
        rw [Array.getD_eq_getD_getElem?, Array.getElem?_eq_getElem (by omega)] at h3 h4
        simp at h3 h4
        rw [h4] at h3
        cases h3
      · exact h1
    subst hin
    unfold wpOp
    have hget : (pre ++ [st]).toArray[pre.length]? = some st := by simp
    rw [hget]
    simp only
    rw [if_pos (by unfold Region.wanted; rw [g1])]
    refine Or.inl (Oper.wp_mono (fun a' w' h => ?_) (hQ a w hC hq))
    refine wpAny_done ?_ h fuel
    cases hrr : Region.ready .any (pre ++ [st]).toArray ((listed.push false).setIfInBounds pre.length true) with
    | nil => rfl
    | cons j js =>
      exfalso
      have hj : j ∈ Region.ready .any (pre ++ [st]).toArray ((listed.push false).setIfInBounds pre.length true) := by rw [hrr]; exact List.mem_cons_self
      obtain ⟨h3, o, ho, _⟩ := mem_ready.1 hj
      have hj2 : j < (pre ++ [st]).length := by
        have := (List.getElem?_eq_some_iff.1 (show (pre ++ [st])[j]? = some o by simpa using ho)).1
        exact this
      rw [List.length_append, List.length_singleton] at hj2
      rw [Array.getD_eq_getD_getElem?, Array.getElem?_setIfInBounds] at h3
      by_cases e : pre.length = j
      · rw [if_pos e, if_pos (by rw [Array.size_push]; omega)] at h3
        cases h3
      · rw [if_neg e, Array.getElem?_push_lt (by omega)] at h3
        have h4 := hall j (by omega)
        rw [Array.getD_eq_getD_getElem?, Array.getElem?_eq_getElem (by omega)] at h4
        simp at h3 h4
        rw [h4] at h3
        cases h3
  intro fuel
  induction fuel with
  | zero =>
    intro listed a w hs hC h
    exact done 0 listed a w hs hC (ready_nil hB hs h.1) h.2
  | succ fuel ih =>
    intro listed a w hs hC h
    cases hr : Region.ready .any pre.toArray listed with
    | nil => exact done (fuel + 1) listed a w hs hC (ready_nil hB hs hr) (h.1 hr)
    | cons j js =>
      have hj : j ∈ Region.ready .any pre.toArray listed := by rw [hr]; exact List.mem_cons_self
      refine ⟨fun hn => (by have := ready_back (st := st) hB hs hj; rw [hn] at this; cases this), fun i hi => ?_⟩
      rcases ready_lt hB hs hi with ⟨h1, h2⟩ | ⟨_, h2⟩
      · have hq := h.2 i h2
        obtain ⟨o, ho⟩ : ∃ o, pre[i]? = some o := ⟨_, List.getElem?_eq_getElem h1⟩
        have hg := (lastB_pre hB ho).1
        unfold qOp at hq
        unfold wpOp
        rw [ops_lt h1]
        rw [show pre.toArray[i]? = some o by simpa using ho] at hq ⊢
        simp only at hq ⊢
        have hwt : ∀ y, Region.wanted o y = true := fun y => by unfold Region.wanted; rw [hg]
        rw [if_pos (hwt _)] at hq ⊢
        refine Or.inl (Oper.wp_of_quiet hC (fun a' w' hC' hk => ?_) hq)
        rw [push_set listed (by omega)]
        exact ih (listed.setIfInBounds i true) a' w' (by simpa using hs) hC' hk
      · exfalso
        obtain ⟨h3, o, ho, _⟩ := mem_ready.1 hj
        have hj2 : j < pre.length := (List.getElem?_eq_some_iff.1 (show pre[j]? = some o by simpa using ho)).1
        have h4 := h2 j hj2
        rw [Array.getD_eq_getD_getElem?, Array.getElem?_eq_getElem (by omega)] at h3 h4
        simp at h3 h4
        rw [h4] at h3
        cases h3
/-- The region's wp: the walk of all operations but the last, each quiet in the worlds that differ by new blocks; then the last one. -/
theorem wp_region_last {P : Program} {id : Nat} {R : Exit → Act → World → Prop} {a : Act} {w : World} {l : List Oper} (pre : List Oper) (st : Oper) (hl : l = pre ++ [st]) (hm : P.follows .mixedOrders = true) (hB : Region.lexB .any pre.toArray = true) (hL : lastB pre st = true)
    (h : wpQuiet P pre.toArray (fun w' => ∃ n : QW w, w' = n.x) (fun a' => ∀ (n : QW w) (K : Act → World → Prop), (∀ a'' w'', R .normal a'' w'' → K a'' w'') → st.wp P a' n.x K R) pre a) : (Code.region id l.toArray true).wp P R a w := by
  subst hl
  refine wp_region_any hm ?_
  have hq := wpAnyQ_lex (C := fun w' => ∃ n : QW w, w' = n.x) (md := .any) (by simp only [Region.lexB, Bool.and_eq_true] at hB; exact hB.1) pre 0 (Array.replicate pre.length false) a (by simp) (by simp only [Region.lexB, Bool.and_eq_true] at hB; simpa using hB.2) h
  have := wpAny_last (Q' := R) hL (fun a' w' hC hq => by obtain ⟨n, rfl⟩ := hC; exact hq n _ (fun _ _ h => h)) pre.length (Array.replicate pre.length false) a w.drew (by simp) ⟨⟨w.drew, (Q.refl w).drew⟩, rfl⟩ hq
  have e : (Array.replicate pre.length false).push false = Array.replicate (pre ++ [st]).toArray.size false := by
    rw [show (pre ++ [st]).toArray.size = pre.length + 1 by simp, Array.replicate_succ]
  rw [e] at this
  simpa using this
theorem wp_region_lastn {P : Program} {id : Nat} {R : Exit → Act → World → Prop} {a : Act} {w : World} {l : List Oper} (n : Nat) (hn : l.length = n + 1) (st : Oper) (hst : l[n]? = some st) (hm : P.follows .mixedOrders = true) (hB : Region.lexB .any (l.take n).toArray = true) (hL : lastB (l.take n) st = true)
    (h : wpQuiet P (l.take n).toArray (fun w' => ∃ n : QW w, w' = n.x) (fun a' => ∀ (n : QW w) (K : Act → World → Prop), (∀ a'' w'', R .normal a'' w'' → K a'' w'') → st.wp P a' n.x K R) (l.take n) a) : (Code.region id l.toArray true).wp P R a w := by
  refine wp_region_last (l.take n) st ?_ hm hB hL h
  have h1 : n < l.length := by omega
  have h2 : l[n] = st := by rw [List.getElem?_eq_getElem h1] at hst; injection hst
  rw [← h2, List.take_append_getElem h1, List.take_of_length_le (by omega)]
end Go.Proofs.Ytikhmlcmmabapaa
/- What operations tell, as a list of properties that last. -/
namespace Go.Proofs.Ytikhmlcmmabapaa
open Go.RowKit
set_option linter.unusedVariables false
set_option linter.unusedSimpArgs false

structure Spec where
  p : Value → World → Prop
  st : ∀ {v : Value} {x x' : World}, p v x → Q x x' → p v x'
def spV (u : Value) : Spec := ⟨fun v _ => v = u, fun h _ => h⟩
def specAt (l : List Spec) (i : Nat) (v : Value) (x : World) : Prop := match l[i]? with
  | some s => s.p v x
  | none => False
theorem specAt.next {l : List Spec} (i : Nat) (v : Value) (x x' : World) (h : specAt l i v x) (q : Q x x') : specAt l i v x' := by
  unfold specAt at h ⊢
  cases g : l[i]? with
  | none => rw [g] at h; exact h
  | some s => rw [g] at h; exact s.st h q
section
variable {P : Program} {ρ : Operand → Value} {x : World} {d : Option Tmp} {ty : TypeId} {ps : String} {af : Array Edge} {g : Option (Nat × Bool)}
theorem run_sub64 {j k : Nat} {m n r : Int} (h : ρ (.tmp j) = .int .i64 m) (h' : ρ (.tmp k) = .int .i64 n) (hr : IntKind.i64.wrap (m - n) = r) : (execOp ρ { dst := d, op := .binOp .sub 3 (.tmp j) (.tmp k) 3, type := ty, pos := ps, after := af, guard := g }).run Try.prog x = .ok (.value (.int .i64 r)) x := by
  simp [execOp, h, h', go_sem, hr]
theorem run_leq64 {j : Nat} {m n : Int} (h : ρ (.tmp j) = .int .i64 m) (hk : ρ (.const (.int .i64 n)) = .int .i64 n) : (execOp ρ { dst := d, op := .binOp .leq 3 (.tmp j) (.const (.int .i64 n)) 3, type := ty, pos := ps, after := af, guard := g }).run Try.prog x = .ok (.value (.bool (decide (m ≤ n)))) x := by
  simp [execOp, h, hk, go_sem]
end
end Go.Proofs.Ytikhmlcmmabapaa
/- A region that draws its order and stores nothing: each operation with a fact that lasts; those that are guarded are known to be let through, or known to be left out. -/
namespace Go.Proofs.Ytikhmlcmmabapaa
open Go.RowKit
set_option linter.unusedVariables false
set_option linter.unusedSimpArgs false

theorem dst_mem {l : List Oper} {s : List Nat} (hs : l.map (fun o : Oper => o.dst) = s.map some) {k j : Nat} (h : dstOf l k = some j) : s[k]? = some j := by
  unfold dstOf at h
  have h1 : (l.map (fun o : Oper => o.dst))[k]? = (s.map some)[k]? := by rw [hs]
  rw [List.getElem?_map, List.getElem?_map] at h1
  cases hl : l[k]? with
  | none => rw [hl] at h; cases h
  | some o =>
    rw [hl] at h h1
    cases hk : s[k]? with
    | none => rw [hk] at h1; cases h1
    | some t =>
      rw [hk] at h1
      have h2 : some o.dst = some (some t) := h1
      injection h2 with h2
      have h3 : o.dst = some j := h
      rw [h2] at h3
      injection h3 with h3
      rw [h3]
theorem dst_of {l : List Oper} {s : List Nat} (hs : l.map (fun o : Oper => o.dst) = s.map some) {k j : Nat} (h : s[k]? = some j) : dstOf l k = some j := by
  have h1 : (l.map (fun o : Oper => o.dst))[k]? = (s.map some)[k]? := by rw [hs]
  rw [List.getElem?_map, List.getElem?_map, h] at h1
  unfold dstOf
  cases hl : l[k]? with
  | none => rw [hl] at h1; cases h1
  | some o =>
    rw [hl] at h1
    have h2 : some o.dst = some (some j) := h1
    injection h2
set_option maxHeartbeats 1000000 in
theorem wp_region_factsS {P : Program} {id : Nat} {R : Exit → Act → World → Prop} {a0 : Act} {w : World} {l : List Oper} (s : List Nat) (F : Nat → Value → World → Prop) (skip : Nat → Bool)
    (hm : P.follows .mixedOrders = true) (hB : regS l = true) (hs : l.map (fun o : Oper => o.dst) = s.map some) (hmax : ∀ t ∈ s, t < a0.tmps.size)
    (hst : ∀ i v x x', F i v x → Q x x' → F i v x')
    (hgu : ∀ (i : Nat) (o : Oper) (g : Nat) (b : Bool), l[i]? = some o → o.guard = some (g, b) → ∀ v x, F g v x → (v = .bool b ↔ skip i = false))
    (hgn : ∀ (i : Nat) (o : Oper), l[i]? = some o → o.guard = none → skip i = false)
    (hsk : ∀ i x, skip i = true → F i undef x)
    (hop : ∀ i t o (a : Act) x, skip i = false → s[i]? = some t → l[i]? = some o → Q w x → (∀ j, j ∉ s → a.tmps[j]? = a0.tmps[j]?) → (∀ ed ∈ o.after, Region.binds .any ed = true → ∀ t', s[ed.on]? = some t' → ∃ v, a.tmps[t']? = some v ∧ F ed.on v x) → Yld P R o a x t (F i))
    (hend : ∀ (a : Act) x, Q w x → a.tmps.size = a0.tmps.size → a.defers = a0.defers → (∀ j, j ∉ s → a.tmps[j]? = a0.tmps[j]?) → (∀ i t, s[i]? = some t → ∃ v, a.tmps[t]? = some v ∧ F i v x) → Shut (R .normal a x)) :
    (Code.region id l.toArray true).wp P R a0 w := by
  have oth : ∀ {a : Act}, (∀ j, (∀ k, dstOf l k ≠ some j) → a.tmps[j]? = a0.tmps[j]?) → ∀ j, j ∉ s → a.tmps[j]? = a0.tmps[j]? := fun h j hj => h j (fun k hk => hj (List.mem_of_getElem? (dst_mem hs hk)))
  refine wp_region_slots (fun done val x => Q w x ∧ ∀ i, done i = true → F i (val i) x) hm hB (fun i t h => hmax t (List.mem_of_getElem? (dst_mem hs h))) ⟨(Q.refl w).drew, fun i h => by cases h⟩ ?_ ?_ ?_
  · intro i o a x done val ho hd hdep I hoth hvals hg
    have hil : i < l.length := (List.getElem?_eq_some_iff.1 ho).1
    have hlen : l.length = s.length := by have := congrArg List.length hs; simpa using this
    obtain ⟨t, ht⟩ : ∃ t, s[i]? = some t := ⟨_, List.getElem?_eq_getElem (by omega)⟩
    have hdst : o.dst = some t := by rw [← dstOf_at ho]; exact dst_of hs ht
    have hski : skip i = false := by
      cases hgd : o.guard with
      | none => exact hgn i o ho hgd
      | some gb =>
        obtain ⟨g, b⟩ := gb
        obtain ⟨⟨ed, he, hb, hon⟩, _⟩ := (regS_at hB ho).1 g b hgd
        have hdone := hdep ed he hb
        rw [hon] at hdone
        exact (hgu i o g b ho hgd (val g) x (I.2 g hdone)).1 (hg g b hgd)
    have hrun := hop i t o a x hski ht ho I.1 (oth hoth) (fun ed he hb t' ht' => ⟨val ed.on, hvals ed.on t' (hdep ed he hb) (dst_of hs ht'), I.2 ed.on (hdep ed he hb)⟩)
    refine ⟨Oper.wp_mono ?_ hrun.out⟩
    rintro a' x' ⟨v, rfl, q', hf⟩
    refine ⟨v, by rw [hdst], I.1.trans q', fun j hj => ?_⟩
    by_cases e : j = i
    · subst e; rw [upd_eq]; exact hf
    · rw [upd_ne _ _ e] at hj ⊢
      exact hst _ _ _ _ (I.2 j hj) q'
  · intro i o x done val g b ho hd hdep I hgd hne
    have hsk' : skip i = true := by
      cases h : skip i with
      | true => rfl
      | false =>
        obtain ⟨⟨ed, he, hb, hon⟩, _⟩ := (regS_at hB ho).1 g b hgd
        have hdone := hdep ed he hb
        rw [hon] at hdone
        exact absurd ((hgu i o g b ho hgd (val g) x (I.2 g hdone)).2 h) hne
    refine ⟨I.1, fun j hj => ?_⟩
    by_cases e : j = i
    · subst e; rw [upd_eq]; exact hsk _ _ hsk'
    · rw [upd_ne _ _ e] at hj ⊢
      exact I.2 j hj
  · intro a x val I size defers other vals
    refine hend a x I.1 size defers (oth other) (fun i t ht => ⟨val i, vals i t (dst_of hs ht), I.2 i ?_⟩)
    have hlen : l.length = s.length := by have := congrArg List.length hs; simpa using this
    have := (List.getElem?_eq_some_iff.1 ht).1
    exact decide_eq_true (by omega)
end Go.Proofs.Ytikhmlcmmabapaa
/- RankRises: what its last region wants. -/
namespace Go.Proofs.Ytikhmlcmmabapaa
open Go.RowKit
set_option linter.unusedVariables false

theorem run_ixo {ρ : Operand → Value} {x : World} {d : Option Tmp} {ty : TypeId} {ps : String} {af : Array Edge} {gd : Option (Nat × Bool)} {j k gg oo Lw cap i : Nat} (h : ρ (.tmp j) = .slice (some ⟨gg, oo, none⟩) Lw cap) (h' : ρ (.tmp k) = .int .i64 (i : Nat)) (hi : i < Lw) : (execOp ρ { dst := d, op := .indexAddr 22 (.tmp j) (.tmp k), type := ty, pos := ps, after := af, guard := gd }).run Try.prog x = .ok (.value (.pointer (some ⟨gg, oo + i, none⟩))) x := by
  simp [execOp, h, h', go_sem, hi]
end Go.Proofs.Ytikhmlcmmabapaa

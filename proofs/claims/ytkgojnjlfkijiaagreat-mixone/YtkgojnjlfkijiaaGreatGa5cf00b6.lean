/- A region that draws its order: operations that read come up in whatever order; the others one behind the other (or in any of a few orders). -/
import Derived.Test.YtkgojnjlfkijiaaGreatGb3d8d911
import Derived.Test.YtkgojnjlfkijiaaGreatGa5861977
import Derived.Test.YtkgojnjlfkijiaaGreatG42d4e526
namespace Go.Proofs.YtkgojnjlfkijiaaGreat
open Go.RowKit
set_option linter.unusedVariables false
set_option linter.unusedSimpArgs false

/-- Operations that only read. -/
def rdKind (o : Oper) : Bool := match o.op with
  | .move _ | .assign _ | .build .. | .load .. | .fieldAddr .. | .indexAddr .. | .binOp .. | .unOp .. | .convert .. | .field .. | .index .. | .slice .. | .extract .. | .makeInterface .. => true
  | _ => false
theorem value_only {P : Program} {x : World} (s : Sem Value) (f : FuncId) (args : Array Value) (x' : World) : (do pure (Next.value (← s)) : Sem Next).run P x ≠ .ok (.enter f args) x' := by
  rw [Sem.run_bind]
  cases h : s.run P x with
  | ok v w => simp
  | halt e w => simp
theorem no_enter {P : Program} {x x' : World} {o : Oper} {ρ : Operand → Value} {f : FuncId} {args : Array Value} (h : rdKind o = true) : (execOp ρ o).run P x ≠ .ok (.enter f args) x' := by
  obtain ⟨dst, op, ty, ps, af, g⟩ := o
  cases op <;> first | (cases h; done) | exact value_only _ _ _ _ | (simp only [execOp]; simp; done) | (simp only [execOp]; exact value_only _ _ _ _)
/-- What an operation does, read off its operands. -/
def Does (P : Program) (o : Oper) (ρ : Operand → Value) (x : World) (G : Value → World → Prop) : Prop := match (execOp ρ o).run P x with
  | .ok (.value v) x' => G v x'
  | .ok .skip x' => G undef x'
  | .ok (.enter f args) x' => Calls P f args x' fun e x'' => ∃ v, e = .returned v ∧ G v x''
  | _ => False
theorem Does.wp {P : Program} {o : Oper} {a : Act} {x : World} {G : Value → World → Prop} {R : Exit → Act → World → Prop} {K : Act → World → Prop} (h : Does P o a.eval x G) (hK : ∀ v x', G v x' → K (a.put o.dst v) x') : o.wp P a x K R := by
  unfold Does at h
  unfold Oper.wp
  split at h
  · rename_i e; rw [e]; exact hK _ _ h
  · rename_i e; rw [e]; exact hK _ _ h
  · rename_i e
    rw [e, Oper.upon_enter]
    refine h.mono ?_
    rintro u x' ⟨v, rfl, hg⟩
    exact hK _ _ hg
  · exact h.elim
theorem does_value {P : Program} {o : Oper} {ρ : Operand → Value} {x x' : World} {G : Value → World → Prop} {v : Value} (hr : (execOp ρ o).run P x = .ok (.value v) x') (h : G v x') : Does P o ρ x G := by unfold Does; rw [hr]; exact h
theorem does_skip {P : Program} {o : Oper} {ρ : Operand → Value} {x x' : World} {G : Value → World → Prop} (hr : (execOp ρ o).run P x = .ok .skip x') (h : G undef x') : Does P o ρ x G := by unfold Does; rw [hr]; exact h
theorem does_call {P : Program} {o : Oper} {ρ : Operand → Value} {x : World} {G : Value → World → Prop} {f : FuncId} {args : Array Value} (hr : (execOp ρ o).run P x = .ok (.enter f args) x) (h : Calls P f args x fun e x' => ∃ v, e = .returned v ∧ G v x') : Does P o ρ x G := by unfold Does; rw [hr]; exact h
/-- What may come next behind a row of operations. -/
def nexts (ords : List (List Nat)) (p : List Nat) : List Nat := ords.filterMap fun o => if o.take p.length = p then o[p.length]? else none
/-- Do all operations that read come up ahead of this one? -/
def fullB (l : List Oper) (rd : List Nat) (k : Nat) : Bool := match l[k]? with
  | some o => rd.all fun r => (reach l 8 ((o.after.toList.filter (Region.binds .any)).map (·.on))).contains r
  | none => false
/-- The operations that do not only read, in each order. -/
def wpTree (P : Program) (l : List Oper) (rd : List Nat) (ords : List (List Nat)) (C : World → Prop) (N : Act → World → Prop) : Nat → List Nat → Act → World → Prop
  | 0, p, A, x => N A x
  | n + 1, p, A, x => ∀ k ∈ nexts ords p, ∀ o, l[k]? = some o → Does P o A.eval x (fun v x' => (fullB l rd k = false → C x') ∧ wpTree P l rd ords C N n (p ++ [k]) (A.put o.dst v) x')
/-- The slots that an operation looks at. -/
def looks (o : Oper) : List Nat := o.op.operands.toList.filterMap fun | .tmp t => some t | _ => none
/-- What a text of operations must be like. -/
structure MkOk (l : List Oper) (rd : List Nat) (ords : List (List Nat)) (n : Nat) : Prop where
  sel : ∀ (j : Nat) (o : Oper) cs b, l[j]? = some o → o.op ≠ .select cs b
  gd : ∀ (k : Nat) (o : Oper), l[k]? = some o → o.guard = none
  lt : ∀ (k : Nat) (o : Oper), l[k]? = some o → ∀ e ∈ o.after, Region.binds .any e = true → e.on < k
  look : ∀ (k : Nat) (o : Oper) (j t : Nat), l[k]? = some o → dstOf l j = some t → t ∈ looks o → (∃ e ∈ o.after, Region.binds .any e = true ∧ e.on = j) ∨ (j ∉ rd ∧ ∃ oj, l[j]? = some oj ∧ ∃ e ∈ oj.after, Region.binds .any e = true ∧ e.on = k)
  dst : ∀ j k t, dstOf l j = some t → dstOf l k = some t → j = k
  rdc : ∀ (r : Nat) (o : Oper), r ∈ rd → l[r]? = some o → ∀ e ∈ o.after, Region.binds .any e = true → e.on ∈ rd
  rdl : ∀ r ∈ rd, r < l.length
  rdk : ∀ (r : Nat) (o : Oper), r ∈ rd → l[r]? = some o → rdKind o = true
  rda : rd.Pairwise (· < ·)
  len : ∀ od ∈ ords, od.length = n
  one : ords ≠ []
  rdm : ∀ od ∈ ords, ∀ k ∈ od, k ∉ rd ∧ k < l.length
  all : ∀ od ∈ ords, ∀ k, k < l.length → k ∉ rd → k ∈ od
  nd : ∀ od ∈ ords, od.Nodup
  nx : ∀ od ∈ ords, ∀ i, i ≤ n → ∀ (k : Nat) (o : Oper), l[k]? = some o → k ∉ rd → k ∉ od.take i → (∀ e ∈ o.after, Region.binds .any e = true → e.on ∉ rd → e.on ∈ od.take i) → k ∈ nexts ords (od.take i)
def mkB (l : List Oper) (rd : List Nat) (ords : List (List Nat)) (n : Nat) : Bool :=
  Region.noSelect l.toArray &&
  ((List.range l.length).all fun k => match l[k]? with
    | some o => o.guard.isNone &&
      ((o.after.toList.all fun e => !(Region.binds .any e) || decide (e.on < k)) &&
      (((List.range l.length).all fun j => match dstOf l j with
        | some t => (!((looks o).contains t) || ((o.after.toList.any fun e => Region.binds .any e && (e.on == j)) || (!(rd.contains j) && match l[j]? with | some oj => oj.after.toList.any fun e => Region.binds .any e && (e.on == k) | none => false))) && ((j == k) || (o.dst != some t))
        | none => true) &&
      (!(rd.contains k) || (rdKind o && (o.after.toList.all fun e => !(Region.binds .any e) || rd.contains e.on)))))
    | none => true) &&
  ((rd.all fun r => decide (r < l.length)) && (decide (rd.Pairwise (· < ·)) &&
  ((ords.all fun od => od.length == n) && (!ords.isEmpty &&
  ((ords.all fun od => od.all fun k => !(rd.contains k) && decide (k < l.length)) &&
  ((ords.all fun od => (List.range l.length).all fun k => rd.contains k || od.contains k) && ((ords.all fun od => decide od.Nodup) &&
  (ords.all fun od => (List.range (n + 1)).all fun i => (List.range l.length).all fun k => match l[k]? with
    | some o => rd.contains k || ((od.take i).contains k || ((o.after.toList.any fun e => Region.binds .any e && (!(rd.contains e.on) && !((od.take i).contains e.on))) || (nexts ords (od.take i)).contains k))
    | none => true))))))))
theorem mkB_ok {l : List Oper} {rd : List Nat} {ords : List (List Nat)} {n : Nat} (h : mkB l rd ords n = true) : MkOk l rd ords n := by
  unfold mkB at h
  simp only [Bool.and_eq_true] at h
  obtain ⟨⟨h0, h1⟩, h2, h3, h4, h5, h6, h7, h9, h8⟩ := h
  have at_ : ∀ (k : Nat) (o : Oper), l[k]? = some o → o.guard = none ∧ (∀ e ∈ o.after, Region.binds .any e = true → e.on < k) ∧ (∀ j t, dstOf l j = some t → (t ∈ looks o → (∃ e ∈ o.after, Region.binds .any e = true ∧ e.on = j) ∨ (j ∉ rd ∧ ∃ oj, l[j]? = some oj ∧ ∃ e ∈ oj.after, Region.binds .any e = true ∧ e.on = k)) ∧ (o.dst = some t → j = k)) ∧ (k ∈ rd → rdKind o = true ∧ ∀ e ∈ o.after, Region.binds .any e = true → e.on ∈ rd) := fun k o hk => by
    have hlt : k < l.length := (List.getElem?_eq_some_iff.1 hk).1
    have g := List.all_eq_true.1 h1 k (List.mem_range.2 hlt)
    rw [hk] at g
    simp only [Bool.and_eq_true] at g
    obtain ⟨g1, g2, g3, g4⟩ := g
    refine ⟨by simpa using g1, fun e he hb => ?_, fun j t hj => ?_, fun hr => ?_⟩
    · have := List.all_eq_true.1 g2 e (by simpa using he)
      rw [hb] at this
      simpa using this
    · have hjl : j < l.length := by
        unfold dstOf at hj
        cases hl : l[j]? with
        | none => rw [hl] at hj; cases hj
        | some o' => exact (List.getElem?_eq_some_iff.1 hl).1
      have := List.all_eq_true.1 g3 j (List.mem_range.2 hjl)
      rw [hj] at this
      simp only [Bool.and_eq_true, Bool.or_eq_true] at this
      refine ⟨fun ht => ?_, fun ho => ?_⟩
      · rcases this.1 with c | c
        · have : (looks o).contains t = true := by simpa using ht
          rw [this] at c; cases c
        · rcases c with c | c
          · obtain ⟨e, he, hb⟩ := List.any_eq_true.1 c
            rw [Bool.and_eq_true] at hb
            exact Or.inl ⟨e, by simpa using he, hb.1, by simpa using hb.2⟩
          · refine Or.inr ⟨by simpa using c.1, ?_⟩
            obtain ⟨oj, hoj⟩ : ∃ oj, l[j]? = some oj := ⟨_, List.getElem?_eq_getElem hjl⟩
            have c2 := c.2
            rw [hoj] at c2
            obtain ⟨e, he, hb⟩ := List.any_eq_true.1 c2
            rw [Bool.and_eq_true] at hb
            exact ⟨oj, hoj, e, by simpa using he, hb.1, by simpa using hb.2⟩
      · rcases this.2 with c | c
        · simpa using c
        · rw [ho] at c; simp at c
    · have hc : rd.contains k = true := by simpa using hr
      rw [hc, Bool.not_true, Bool.false_or, Bool.and_eq_true] at g4
      refine ⟨g4.1, fun e he hb => ?_⟩
      have := List.all_eq_true.1 g4.2 e (by simpa using he)
      rw [hb] at this
      simpa using this
  refine ⟨fun j o cs b hj => Region.noSelect_spec h0 j o cs b (by simpa using hj), fun k o hk => (at_ k o hk).1, fun k o hk => (at_ k o hk).2.1, fun k o j t hk hj ht => ((at_ k o hk).2.2.1 j t hj).1 ht, fun j k t hj hk => ?_, fun r o hr ho => ((at_ r o ho).2.2.2 hr).2, fun r hr => by simpa using List.all_eq_true.1 h2 r hr, fun r o hr ho => ((at_ r o ho).2.2.2 hr).1, of_decide_eq_true h3, fun od ho => by simpa using List.all_eq_true.1 h4 od ho, fun e => (by subst e; cases h5), fun od ho k hk => ?_, fun od ho k hk hr => ?_, fun od ho => of_decide_eq_true (List.all_eq_true.1 h9 od ho), fun od ho i hi k o hk hr hp hd => ?_⟩
  · cases hl : l[k]? with
    | none => unfold dstOf at hk; rw [hl] at hk; cases hk
    | some o => exact ((at_ k o hl).2.2.1 j t hj).2 (by rw [dstOf_at hl] at hk; exact hk)
  · have := List.all_eq_true.1 (List.all_eq_true.1 h6 od ho) k hk
    simpa using this
  · have := List.all_eq_true.1 (List.all_eq_true.1 h7 od ho) k (List.mem_range.2 hk)
    simp only [Bool.or_eq_true] at this
    rcases this with c | c
    · exact absurd (by simpa using c) hr
    · simpa using c
  · have := List.all_eq_true.1 (List.all_eq_true.1 (List.all_eq_true.1 h8 od ho) i (List.mem_range.2 (by omega))) k (List.mem_range.2 (List.getElem?_eq_some_iff.1 hk).1)
    rw [hk] at this
    simp only [Bool.or_eq_true] at this
    rcases this with c | c | c | c
    · exact absurd (by simpa using c) hr
    · exact absurd (by simpa using c) hp
    · obtain ⟨e, he, hb⟩ := List.any_eq_true.1 c
      simp only [Bool.and_eq_true] at hb
      obtain ⟨b1, b2, b3⟩ := hb
      exact absurd (hd e (by simpa using he) b1 (by simpa using b2)) (by simpa using b3)
    · simpa using c
theorem eval_agree {a A : Act} {x : Operand} (h : ∀ t, x = .tmp t → a.tmps[t]? = A.tmps[t]?) : a.eval x = A.eval x := by
  cases x with
  | tmp t =>
    have := h t rfl
    show a.tmps.getD t undef = A.tmps.getD t undef
    rw [Array.getD_eq_getD_getElem?, Array.getD_eq_getD_getElem?, this]
  | _ => rfl
theorem exec_agree {o : Oper} (hs : ∀ cs b, o.op ≠ .select cs b) {a A : Act} (h : ∀ t ∈ looks o, a.tmps[t]? = A.tmps[t]?) : execOp a.eval o = execOp A.eval o :=
  execOp_congr o hs fun x hx => eval_agree fun t ht => h t (by
    subst ht
    exact List.mem_filterMap.2 ⟨.tmp t, by simpa using hx, rfl⟩)
theorem put_size (a : Act) (d : Option Tmp) (v : Value) : (a.put d v).tmps.size = a.tmps.size := by
  cases d with
  | none => rfl
  | some t => exact Array.size_setIfInBounds
theorem put_defers (a : Act) (d : Option Tmp) (v : Value) : (a.put d v).defers = a.defers := by cases d <;> rfl
theorem put_ne (a : Act) {d : Option Tmp} (v : Value) {j : Nat} (h : d ≠ some j) : (a.put d v).tmps[j]? = a.tmps[j]? := by
  cases d with
  | none => rfl
  | some t => exact Array.getElem?_setIfInBounds_ne (fun e => h (by rw [e]))
theorem put_eq (a : Act) {t : Nat} (v : Value) (h : t < a.tmps.size) : (a.put (some t) v).tmps[t]? = some v := Array.getElem?_setIfInBounds_self_of_lt h
/-- What the operations that read tell. -/
theorem readers {P : Program} {l : List Oper} {Cl : World → Prop} {N : Act → Prop} : ∀ (rd : List Nat) (lr : List Oper) (a : Act), rd.map (fun r => l[r]?) = lr.map some →
    (∀ o ∈ lr, o.guard = none) → (∀ j k t, dstOf l j = some t → dstOf l k = some t → j = k) → rd.Pairwise (· < ·) →
    wpQuiet P l.toArray Cl N lr a →
    ∃ A : Act, N A ∧ A.tmps.size = a.tmps.size ∧ A.defers = a.defers ∧ (∀ j, (∀ r ∈ rd, dstOf l r ≠ some j) → A.tmps[j]? = a.tmps[j]?) ∧
    ∀ r ∈ rd, ∀ o, l[r]? = some o → ∃ (ar : Act) (v : Value), (∀ x, Cl x → Oper.quietUpon P Cl x v ((execOp ar.eval o).run P x)) ∧ (∀ t, o.dst = some t → t < a.tmps.size → A.tmps[t]? = some v) ∧ ∀ (j : Nat), (∀ r' ∈ rd, r ≤ r' → dstOf l r' ≠ some j) → ar.tmps[j]? = A.tmps[j]?
  | [], lr, a, hl, hg, hd, hp, h => by
    cases lr with
    | nil =>
      exact ⟨a, h, rfl, rfl, fun _ _ => rfl, fun r hr => (by cases hr)⟩
    | cons o lr => cases hl
  | r :: rd, lr, a, hl, hg, hd, hp, h => by
    cases lr with
    | nil => cases hl
    | cons o lr =>
      simp only [List.map_cons, List.cons.injEq] at hl
      obtain ⟨ho, hl⟩ := hl
      have hgo : o.guard = none := hg o List.mem_cons_self
      have hw : Region.wanted o (yielded l.toArray a.tmps) = true := by simp [Region.wanted, hgo]
      have h : (if Region.wanted o (yielded l.toArray a.tmps) = true then o.quiet P a Cl (wpQuiet P l.toArray Cl N lr) else wpQuiet P l.toArray Cl N lr (a.put o.dst undef)) := h
      rw [if_pos hw] at h
      obtain ⟨v, hv, hn⟩ := h
      rw [List.pairwise_cons] at hp
      obtain ⟨A, i0, i1, i2, i3, i4⟩ := readers rd lr (a.put o.dst v) hl (fun o' h' => hg o' (List.mem_cons_of_mem _ h')) hd hp.2 hn
      rw [put_size] at i1
      rw [put_defers] at i2
      have hdo : dstOf l r = o.dst := dstOf_at ho
      have hne : ∀ t, o.dst = some t → ∀ r' ∈ rd, dstOf l r' ≠ some t := fun t ht r' hr' e => by
        have := hd r r' t (by rw [hdo]; exact ht) e
        have := hp.1 r' hr'
        omega
      refine ⟨A, i0, i1, i2, fun j hj => ?_, fun r' hr' o' ho' => ?_⟩
      · rw [i3 j (fun r' hr' => hj r' (List.mem_cons_of_mem _ hr'))]
        exact put_ne a v (by rw [← hdo]; exact hj r List.mem_cons_self)
      · rcases List.mem_cons.1 hr' with rfl | hr'
        · rw [ho] at ho'
          injection ho' with ho'
          subst ho'
          refine ⟨a, v, hv, fun t ht hb => ?_, fun j hj => ?_⟩
          · rw [i3 t (hne t ht), ht]
            exact put_eq a v hb
          · rw [i3 j (fun r' hr' => hj r' (List.mem_cons_of_mem _ hr') (Nat.le_of_lt (hp.1 r' hr')))]
            exact (put_ne a v (by rw [← hdo]; exact hj r' List.mem_cons_self (Nat.le_refl _))).symm
        · obtain ⟨ar, u, q1, q2, q3⟩ := i4 r' hr' o' ho'
          refine ⟨ar, u, q1, fun t ht hb => q2 t ht (by rw [put_size]; exact hb), fun j hj => q3 j (fun r2 h2 h3 => hj r2 (List.mem_cons_of_mem _ h2) h3)⟩
structure MkInv (P : Program) (l : List Oper) (rd : List Nat) (ords : List (List Nat)) (n : Nat) (C : World → Prop) (N : Act → World → Prop) (a0 A : Act) (lst : Array Bool) (a : Act) (x : World) (od : List Nat) (i : Nat) (B : Act) : Prop where
  ls : lst.size = l.length
  closed : ∀ (j : Nat) (o : Oper), lst.getD j false = true → l[j]? = some o → ∀ e ∈ o.after, Region.binds .any e = true → lst.getD e.on false = true
  mem : od ∈ ords
  le : i ≤ n
  mains : ∀ k, k < l.length → k ∉ rd → (lst.getD k false = true ↔ k ∈ od.take i)
  tree : wpTree P l rd ords C N (n - i) (od.take i) B x
  size : a.tmps.size = B.tmps.size
  size0 : B.tmps.size = a0.tmps.size
  defers : a.defers = B.defers
  agree : ∀ (j : Nat), (∀ r ∈ rd, lst.getD r false = false → dstOf l r ≠ some j) → a.tmps[j]? = B.tmps[j]?
  rdv : ∀ r ∈ rd, ∀ t, dstOf l r = some t → B.tmps[t]? = A.tmps[t]?
  oth : ∀ (j : Nat), (∀ k, dstOf l k ≠ some j) → B.tmps[j]? = a0.tmps[j]?
  cl : (∃ r ∈ rd, lst.getD r false = false) → C x
  fresh : ∀ (j t : Nat), j ∉ rd → j ∉ od.take i → dstOf l j = some t → B.tmps[t]? = a0.tmps[t]?
theorem act_ext {a b : Act} (h1 : a.tmps.size = b.tmps.size) (h2 : a.defers = b.defers) (h3 : ∀ (j : Nat), a.tmps[j]? = b.tmps[j]?) : a = b := by
  obtain ⟨at_, ad⟩ := a
  obtain ⟨bt, bd⟩ := b
  simp only at h1 h2 h3
  subst h2
  congr 1
  exact Array.ext_getElem? h3
def maxB (l : List Oper) (m : Nat) : Bool := l.all fun o => match o.dst with | some t => decide (t < m) | none => true
theorem maxB_ok {l : List Oper} {m : Nat} (h : maxB l m = true) : ∀ i t, dstOf l i = some t → t < m := fun i t hi => by
  unfold dstOf at hi
  cases hl : l[i]? with
  | none => rw [hl] at hi; cases hi
  | some o =>
    rw [hl] at hi
    have hi : o.dst = some t := hi
    have := List.all_eq_true.1 h o (List.mem_of_getElem? hl)
    rw [hi] at this
    simpa using this
theorem map_some {l : List Oper} : ∀ (rd : List Nat), (∀ r ∈ rd, r < l.length) → rd.map (fun r => l[r]?) = (rd.filterMap (fun r => l[r]?)).map some
  | [], _ => rfl
  | r :: rd, h => by
    obtain ⟨o, ho⟩ : ∃ o, l[r]? = some o := ⟨_, List.getElem?_eq_getElem (h r List.mem_cons_self)⟩
    rw [List.map_cons, List.filterMap_cons, ho, map_some rd (fun r' hr' => h r' (List.mem_cons_of_mem _ hr'))]
    rfl
theorem getD_repl (n j : Nat) : (Array.replicate n false).getD j false = false := by
  rw [Array.getD_eq_getD_getElem?, Array.getElem?_replicate]
  split <;> rfl
theorem nexts_of {ords : List (List Nat)} {p : List Nat} {k : Nat} (h : k ∈ nexts ords p) : ∃ od ∈ ords, od.take p.length = p ∧ od[p.length]? = some k := by
  obtain ⟨od, h1, h2⟩ := List.mem_filterMap.1 h
  by_cases hp : od.take p.length = p
  · rw [if_pos hp] at h2; exact ⟨od, h1, hp, h2⟩
  · rw [if_neg hp] at h2; cases h2
set_option maxHeartbeats 1000000 in
theorem wp_region_mkC {P : Program} {id : Nat} {R : Exit → Act → World → Prop} {a0 : Act} {w : World} {l : List Oper} (rd : List Nat) (ords : List (List Nat)) (n : Nat) (lr : List Oper) (C : World → Prop)
    (hm : P.follows .mixedOrders = true) (hB : mkB l rd ords n = true) (hlr : rd.filterMap (fun r => l[r]?) = lr) (hmx : maxB l a0.tmps.size = true) (hC' : C w.drew)
    (hrd : wpQuiet P l.toArray C (fun A => wpTree P l rd ords C (fun A x => R .normal A x) n [] A w.drew) lr a0) :
    (Code.region id l.toArray true).wp P R a0 w := by
  have ok := mkB_ok hB
  have hmax := maxB_ok hmx
  have hlr := hlr ▸ map_some rd ok.rdl
  have get : ∀ k, l.toArray[k]? = l[k]? := fun k => List.getElem?_toArray
  have hc := List.countP_le_length (l := (Array.replicate l.toArray.size false).toList) (p := (· == false))
  have hlg : ∀ o ∈ lr, o.guard = none := fun o ho => by
    obtain ⟨r, hr, e⟩ := List.mem_map.1 (by rw [hlr]; exact List.mem_map_of_mem ho : some o ∈ rd.map (fun r => l[r]?))
    exact ok.gd r o e
  obtain ⟨A, hT, z1, z2, z3, z4⟩ := readers rd lr a0 hlr hlg ok.dst ok.rda hrd
  obtain ⟨od0, hod0⟩ : ∃ od, od ∈ ords := by
    cases h : ords with
    | nil => exact absurd h ok.one
    | cons od t => exact ⟨od, List.mem_cons_self⟩
  -- the frame of an operation agrees where it looks
  have agr : ∀ {lst : Array Bool} {a : Act} {x : World} {od : List Nat} {i : Nat} {B : Act}, MkInv P l rd ords n C (fun A x => R .normal A x) a0 A lst a x od i B → ∀ (k : Nat) (o : Oper), l[k]? = some o → (∀ e ∈ o.after, Region.binds .any e = true → lst.getD e.on false = true) → ∀ t ∈ looks o, a.tmps[t]? = B.tmps[t]? := fun T k o ho hdep t ht => by
    refine T.agree t (fun r hr hl hd => ?_)
    rcases ok.look k o r t ho hd ht with ⟨e, he, hb, hon⟩ | ⟨hnr, _⟩
    · have := hdep e he hb
      rw [hon, hl] at this
      cases this
    · exact hnr hr
  refine wp_region_any hm (wpAny_invS (fun lst a x => ∃ od i B, MkInv P l rd ords n C (fun A x => R .normal A x) a0 A lst a x od i B) ?_ ?_ _ _ _ _ ?_ (by simpa using hc))
  · rintro lst a x k o ⟨od, i, B, T⟩ ho hl hdep
    rw [get] at ho
    have hkl : k < l.length := (List.getElem?_eq_some_iff.1 ho).1
    have hgd := ok.gd k o ho
    have hlf : lst.getD k false = false := not_got hl
    have hdo : dstOf l k = o.dst := dstOf_at ho
    have hag := agr T k o ho hdep
    refine ⟨fun _ => ?_, fun hw => (by unfold Region.wanted at hw; rw [hgd] at hw; cases hw)⟩
    by_cases hr : k ∈ rd
    · -- one that reads
      have hCx : C x := T.cl ⟨k, hr, hlf⟩
      obtain ⟨ar, v, q0, q2, q3⟩ := z4 k hr o ho
      have q1 := q0 x hCx
      have e1 : execOp a.eval o = execOp ar.eval o := exec_agree (fun cs b => ok.sel k o cs b ho) (fun t ht => by
        rw [hag t ht]
        by_cases hd : ∃ j, dstOf l j = some t
        · obtain ⟨j, hj⟩ := hd
          rcases ok.look k o j t ho hj ht with ⟨e, he, hb, hon⟩ | ⟨hnr, oj, hoj, e, he, hb, hon⟩
          · have hjr : j ∈ rd := by rw [← hon]; exact ok.rdc k o hr ho e he hb
            have hjk : j < k := by rw [← hon]; exact ok.lt k o ho e he hb
            rw [T.rdv j hjr t hj]
            refine (q3 t (fun r' hr' hle hd' => ?_)).symm
            have := ok.dst j r' t hj hd'
            omega
          · have hjl : j < l.length := (List.getElem?_eq_some_iff.1 hoj).1
            have hnj : j ∉ od.take i := fun hm => by
              have h1 := (T.mains j hjl hnr).2 hm
              have h2 := T.closed j oj h1 hoj e he hb
              rw [hon, hlf] at h2
              cases h2
            have hnd : ∀ r ∈ rd, dstOf l r ≠ some t := fun r hr' hd' => hnr (by rw [ok.dst j r t hj hd']; exact hr')
            rw [T.fresh j t hnr hnj hj, ← z3 t hnd]
            exact (q3 t (fun r' hr' _ => hnd r' hr')).symm
        · have hd : ∀ j, dstOf l j ≠ some t := fun j hj => hd ⟨j, hj⟩
          rw [T.oth t hd, ← z3 t (fun r _ => hd r)]
          exact (q3 t (fun r' _ _ => hd r')).symm)
      have key : ∀ x', x' = x → ∃ od i B, MkInv P l rd ords n C (fun A x => R .normal A x) a0 A (lst.setIfInBounds k true) (a.put o.dst v) x' od i B := fun x' hx' => by
        subst hx'
        have hsz : k < lst.size := by rw [T.ls]; exact hkl
        refine ⟨od, i, B, ⟨by rw [Array.size_setIfInBounds]; exact T.ls, closed_set ho T.closed hdep, T.mem, T.le, fun j hj hjr => ?_, T.tree, by rw [put_size]; exact T.size, T.size0, by rw [put_defers]; exact T.defers, fun j hj => ?_, T.rdv, T.oth, fun ⟨r, h1, h2⟩ => T.cl ⟨r, h1, ?_⟩, T.fresh⟩⟩
        · rw [set_ne (fun e => hjr (by rw [← e]; exact hr))]; exact T.mains j hj hjr
        · by_cases hjk : o.dst = some j
          · rw [hjk, put_eq a v (by rw [T.size, T.size0]; exact hmax k j (by rw [hdo]; exact hjk)), T.rdv k hr j (by rw [hdo]; exact hjk)]
            exact (q2 j hjk (hmax k j (by rw [hdo]; exact hjk))).symm
          · rw [put_ne a v hjk]
            refine T.agree j (fun r h1 h2 hd => ?_)
            by_cases hrk : k = r
            · subst hrk; exact hjk (by rw [← hdo]; exact hd)
            · exact hj r h1 (by rw [set_ne hrk]; exact h2) hd
        · by_cases hrk : k = r
          · subst hrk; exact hlf
          · rw [set_ne hrk] at h2; exact h2
      unfold Oper.wp
      rw [e1]
      generalize hres : (execOp ar.eval o).run P x = res at q1
      cases res with
      | ok nn w' =>
        cases nn <;> simp only [Oper.quietUpon] at q1 <;> simp only [Oper.upon]
        case value u =>
          obtain ⟨f1, f2⟩ := q1
          rw [f2]; exact key _ f1
        case skip =>
          obtain ⟨f1, f2⟩ := q1
          rw [← f2]; exact key _ f1
        case enter f args =>
          exact absurd hres (no_enter (ok.rdk k o hr ho))
      | halt e w' => simp only [Oper.quietUpon] at q1
    · -- one of the others
      have hnp : k ∉ od.take i := fun hk => by
        have := (T.mains k hkl hr).2 hk
        rw [hlf] at this; cases this
      have hnx := ok.nx od T.mem i T.le k o ho hr hnp (fun e he hb hnr => by
        have hel : e.on < l.length := by have := ok.lt k o ho e he hb; omega
        exact (T.mains e.on hel hnr).1 (hdep e he hb))
      have hlen := ok.len od T.mem
      have hpl : (od.take i).length = i := by rw [List.length_take]; have := T.le; omega
      obtain ⟨od', m1, m2, m3⟩ := nexts_of hnx
      rw [hpl] at m2 m3
      have hin : i < n := by
        have := (List.getElem?_eq_some_iff.1 m3).1
        rw [ok.len od' m1] at this; exact this
      have htk : od'.take (i + 1) = od.take i ++ [k] := by rw [List.take_add_one, m2, m3]; rfl
      have hT' := T.tree
      rw [show n - i = (n - (i + 1)) + 1 by omega] at hT'
      have hD := hT' k hnx o ho
      have e1 := exec_agree (A := B) (fun cs b => ok.sel k o cs b ho) hag
      unfold Does at hD
      rw [← e1] at hD
      change Does P o a.eval x _ at hD
      refine hD.wp (fun v x' hG => ?_)
      have hsz : k < lst.size := by rw [T.ls]; exact hkl
      refine ⟨od', i + 1, B.put o.dst v, ⟨by rw [Array.size_setIfInBounds]; exact T.ls, closed_set ho T.closed hdep, m1, hin, fun j hj hjr => ?_, by rw [htk]; exact hG.2, by rw [put_size, put_size]; exact T.size, by rw [put_size]; exact T.size0, by rw [put_defers, put_defers]; exact T.defers, fun j hj => ?_, fun r hr' t ht => ?_, fun j hj => ?_, fun ⟨r, h1, h2⟩ => ?_, fun j t hjr hjn hjt => ?_⟩⟩
      · rw [htk, List.mem_append, List.mem_singleton]
        by_cases hjk : k = j
        · subst hjk; simp [set_eq hsz]
        · rw [set_ne hjk, T.mains j hj hjr]
          exact ⟨Or.inl, fun h => h.elim (fun h => h) (fun e => absurd e.symm hjk)⟩
      · by_cases hjk : o.dst = some j
        · rw [hjk, put_eq a v (by rw [T.size, T.size0]; exact hmax k j (by rw [hdo]; exact hjk)), put_eq B v (by rw [T.size0]; exact hmax k j (by rw [hdo]; exact hjk))]
        · rw [put_ne a v hjk, put_ne B v hjk]
          refine T.agree j (fun r h1 h2 hd => hj r h1 ?_ hd)
          rw [set_ne (fun e => hr (by rw [e]; exact h1))]; exact h2
      · have hne : o.dst ≠ some t := fun e => by
          have := ok.dst r k t ht (by rw [hdo]; exact e)
          exact hr (by rw [← this]; exact hr')
        rw [put_ne B v hne]; exact T.rdv r hr' t ht
      · rw [put_ne B v (by rw [← hdo]; exact hj k)]; exact T.oth j hj
      · refine hG.1 ?_
        cases hf : fullB l rd k with
        | false => rfl
        | true =>
          exfalso
          unfold fullB at hf
          rw [ho] at hf
          have hm := List.all_eq_true.1 hf r h1
          have := reach_got T.closed 8 ((o.after.toList.filter (Region.binds .any)).map (·.on)) (fun j hj => by
            obtain ⟨e, he, rfl⟩ := List.mem_map.1 hj
            obtain ⟨g1, g2⟩ := List.mem_filter.1 he
            exact hdep e (by simpa using g1) g2) r (by simpa using hm)
          rw [set_ne (fun e => hr (by rw [e]; exact h1))] at h2
          rw [h2] at this; cases this
      · rw [htk, List.mem_append, List.mem_singleton] at hjn
        have hne : o.dst ≠ some t := fun e => by
          have := ok.dst j k t hjt (by rw [hdo]; exact e)
          exact hjn (Or.inr this)
        rw [put_ne B v hne]
        have hjl : j < l.length := by
          unfold dstOf at hjt
          cases hl' : l[j]? with
          | none => rw [hl'] at hjt; cases hjt
          | some o' => exact (List.getElem?_eq_some_iff.1 hl').1
        refine T.fresh j t hjr (fun hm => ?_) hjt
        exact hjn (Or.inl hm)
  · rintro lst a x ⟨od, i, B, T⟩ hno
    have all : ∀ j, j < l.length → lst.getD j false = true := by
      intro j
      induction j using Nat.strongRecOn with
      | ind j ih =>
        intro hj
        obtain ⟨o, ho⟩ : ∃ o, l[j]? = some o := ⟨_, List.getElem?_eq_getElem hj⟩
        refine got_of (hno j o (by rw [get]; exact ho) (fun e he hb => ?_)) (by rw [T.ls]; exact hj)
        have := ok.lt j o ho e he hb
        exact ih e.on this (by omega)
    have hi : i = n := by
      rcases Nat.lt_or_ge i n with hlt | hge
      · exfalso
        have hlen := ok.len od T.mem
        obtain ⟨k, hk⟩ : ∃ k, od[i]? = some k := ⟨_, List.getElem?_eq_getElem (by omega)⟩
        have hkm := List.mem_of_getElem? hk
        obtain ⟨h1, h2⟩ := ok.rdm od T.mem k hkm
        have h3 := (T.mains k h2 h1).1 (all k h2)
        obtain ⟨m, hm⟩ := List.getElem?_of_mem h3
        have hmi : m < i := by have := (List.getElem?_eq_some_iff.1 hm).1; rw [List.length_take] at this; omega
        rw [List.getElem?_take_of_lt hmi] at hm
        have hnd := ok.nd od T.mem
        have := (List.getElem?_inj (by omega : m < od.length) hnd).1 (hm.trans hk.symm)
        omega
      · exact Nat.le_antisymm T.le hge
    have hT' := T.tree
    rw [hi, Nat.sub_self] at hT'
    have hab : a = B := act_ext T.size T.defers (fun j => T.agree j (fun r hr hl => by rw [all r (ok.rdl r hr)] at hl; cases hl))
    rw [hab]
    exact hT'
  · refine ⟨od0, 0, A, ⟨by simp, fun j o hj => ?_, hod0, Nat.zero_le _, fun k hk hkr => ?_, by simpa using hT, z1.symm, z1, z2.symm, fun j hj => ?_, fun r hr t ht => rfl, fun j hj => z3 j (fun r hr => hj r), fun _ => hC', fun j t hjr _ hjt => z3 t (fun r hr hd => hjr (by rw [ok.dst j r t hjt hd]; exact hr))⟩⟩
    · rw [getD_repl] at hj; cases hj
    · rw [getD_repl]; simp
    · exact (z3 j (fun r hr => hj r hr (getD_repl _ _))).symm
theorem wpQuiet_mono {P : Program} {ops : Array Oper} {C : World → Prop} {N N' : Act → Prop} (h : ∀ A, N A → N' A) : ∀ (lr : List Oper) (a : Act), wpQuiet P ops C N lr a → wpQuiet P ops C N' lr a
  | [], a, hh => h a hh
  | o :: lr, a, hh => by
    have hh : (if Region.wanted o (yielded ops a.tmps) = true then o.quiet P a C (wpQuiet P ops C N lr) else wpQuiet P ops C N lr (a.put o.dst undef)) := hh
    show (if Region.wanted o (yielded ops a.tmps) = true then o.quiet P a C (wpQuiet P ops C N' lr) else wpQuiet P ops C N' lr (a.put o.dst undef))
    by_cases hw : Region.wanted o (yielded ops a.tmps) = true
    · rw [if_pos hw] at hh ⊢
      exact Oper.quiet_mono (fun a' => wpQuiet_mono h lr a') hh
    · rw [if_neg hw] at hh ⊢
      exact wpQuiet_mono h lr _ hh
theorem wpTree_mono {P : Program} {l : List Oper} {rd : List Nat} {ords : List (List Nat)} {C C' : World → Prop} {N : Act → World → Prop} (hC : ∀ x, C x → C' x) : ∀ (n : Nat) (p : List Nat) (A : Act) (x : World), wpTree P l rd ords C N n p A x → wpTree P l rd ords C' N n p A x
  | 0, p, A, x, h => h
  | n + 1, p, A, x, h => fun k hk o ho => by
    have := h k hk o ho
    unfold Does at this ⊢
    split at this
    · exact ⟨fun e => hC _ (this.1 e), wpTree_mono hC n _ _ _ this.2⟩
    · exact ⟨fun e => hC _ (this.1 e), wpTree_mono hC n _ _ _ this.2⟩
    · exact this.mono fun e x' ⟨v, h1, h2⟩ => ⟨v, h1, fun e => hC _ (h2.1 e), wpTree_mono hC n _ _ _ h2.2⟩
    · exact this
theorem wp_region_mk {P : Program} {id : Nat} {R : Exit → Act → World → Prop} {a0 : Act} {w : World} {l : List Oper} (rd : List Nat) (ords : List (List Nat)) (n : Nat) (lr : List Oper)
    (hm : P.follows .mixedOrders = true) (hB : mkB l rd ords n = true) (hlr : rd.filterMap (fun r => l[r]?) = lr) (hmx : maxB l a0.tmps.size = true)
    (hrd : wpQuiet P l.toArray (fun y => ∃ n : QW w, y = n.x) (fun A => ∀ x, Q w x → wpTree P l rd ords (fun x => Q w x) (fun A x => R .normal A x) n [] A x) lr a0) :
    (Code.region id l.toArray true).wp P R a0 w :=
  wp_region_mkC rd ords n lr (fun y => ∃ n : QW w, y = n.x) hm hB hlr hmx ⟨⟨w.drew, (Q.refl w).drew⟩, rfl⟩ (wpQuiet_mono (fun A h => wpTree_mono (fun x hx => ⟨⟨x, hx⟩, rfl⟩) _ _ _ _ (h w.drew (Q.refl w).drew)) lr a0 hrd)
/-- Worlds of a kind. -/
structure CW (D : World → Prop) where
  x : World
  h : D x
theorem cw_some {D : World → Prop} {w : World} (h : D w) : Nonempty (CW D) := ⟨⟨w, h⟩⟩
theorem wp_region_mkP {P : Program} {id : Nat} {R : Exit → Act → World → Prop} {a0 : Act} {w : World} {l : List Oper} (rd : List Nat) (ords : List (List Nat)) (n : Nat) (lr : List Oper) (D : World → Prop)
    (hm : P.follows .mixedOrders = true) (hB : mkB l rd ords n = true) (hlr : rd.filterMap (fun r => l[r]?) = lr) (hmx : maxB l a0.tmps.size = true) (hD : D w.drew)
    (hrd : wpQuiet P l.toArray (fun y => ∃ n : CW D, y = n.x) (fun A => wpTree P l rd ords D (fun A x => R .normal A x) n [] A w.drew) lr a0) :
    (Code.region id l.toArray true).wp P R a0 w :=
  wp_region_mkC rd ords n lr (fun y => ∃ n : CW D, y = n.x) hm hB hlr hmx ⟨⟨w.drew, hD⟩, rfl⟩ (wpQuiet_mono (fun A h => wpTree_mono (fun x hx => ⟨⟨x, hx⟩, rfl⟩) _ _ _ _ h) lr a0 hrd)
section
variable {P : Program} {l : List Oper} {rd : List Nat} {ords : List (List Nat)} {C : World → Prop} {N : Act → World → Prop} {n : Nat} {p : List Nat} {A : Act} {x : World}
theorem tree1 (k : Nat) (hk : nexts ords p = [k]) {o : Oper} (ho : l[k]? = some o) (h : Does P o A.eval x (fun v x' => (fullB l rd k = false → C x') ∧ wpTree P l rd ords C N n (p ++ [k]) (A.put o.dst v) x')) : wpTree P l rd ords C N (n + 1) p A x := by
  intro k' hk' o' ho'
  rw [hk, List.mem_singleton] at hk'
  subst hk'
  rw [ho] at ho'
  injection ho' with ho'
  subst ho'
  exact h
theorem tree2 (k k' : Nat) (hk : nexts ords p = [k, k']) {o o' : Oper} (ho : l[k]? = some o) (ho' : l[k']? = some o') (h : Does P o A.eval x (fun v x' => (fullB l rd k = false → C x') ∧ wpTree P l rd ords C N n (p ++ [k]) (A.put o.dst v) x')) (h' : Does P o' A.eval x (fun v x' => (fullB l rd k' = false → C x') ∧ wpTree P l rd ords C N n (p ++ [k']) (A.put o'.dst v) x')) : wpTree P l rd ords C N (n + 1) p A x := by
  intro j hj oj hoj
  rw [hk] at hj
  simp only [List.mem_cons, List.not_mem_nil, or_false] at hj
  rcases hj with rfl | rfl
  · rw [ho] at hoj
    injection hoj with hoj
    subst hoj
    exact h
  · rw [ho'] at hoj
    injection hoj with hoj
    subst hoj
    exact h'
theorem run_val {o : Oper} (j : Nat) (f : FuncId) (first : Array Value) (ars : Array Operand) (ts : Array TypeId) (ho : o.op = .call { callee := .value (.tmp j), args := ars, argTypes := ts }) (hj : A.eval (.tmp j) = .func (.func f) first #[]) (hen : ∀ (args : Array Value) (x : World), (callFunc f args).run P x = .ok (.enter f args) x) {vs : Array Value} (hv : first ++ ars.map A.eval = vs) : (execOp A.eval o).run P x = .ok (.enter f vs) x := by
  obtain ⟨dst, op, ty, ps, af, g⟩ := o
  have ho : op = _ := ho
  subst ho
  simp only [execOp, resolve, Sem.run_bind, hj, Deferred.ofValue, Sem.run_pure, Result.andThen_ok, invoke]
  rw [hv]
  simp [hen]
theorem tree_skip (k : Nat) (hk : nexts ords p = [k]) {o : Oper} (ho : l[k]? = some o) {x' : World} (hr : (execOp A.eval o).run P x = .ok .skip x') (hC : C x') (h : wpTree P l rd ords C N n (p ++ [k]) (A.put o.dst undef) x') : wpTree P l rd ords C N (n + 1) p A x :=
  tree1 k hk ho (does_skip hr ⟨fun _ => hC, h⟩)
theorem tree_run (k : Nat) (hk : nexts ords p = [k]) {o : Oper} (ho : l[k]? = some o) {v : Value} {x' : World} (hr : (execOp A.eval o).run P x = .ok (.value v) x') (hC : C x') (h : wpTree P l rd ords C N n (p ++ [k]) (A.put o.dst v) x') : wpTree P l rd ords C N (n + 1) p A x :=
  tree1 k hk ho (does_value hr ⟨fun _ => hC, h⟩)
theorem tree_runF (k : Nat) (hk : nexts ords p = [k]) {o : Oper} (ho : l[k]? = some o) (hf : fullB l rd k = true) {v : Value} {x' : World} (hr : (execOp A.eval o).run P x = .ok (.value v) x') (h : wpTree P l rd ords C N n (p ++ [k]) (A.put o.dst v) x') : wpTree P l rd ords C N (n + 1) p A x :=
  tree1 k hk ho (does_value hr ⟨fun e => (by rw [hf] at e; cases e), h⟩)
theorem tree_skipF (k : Nat) (hk : nexts ords p = [k]) {o : Oper} (ho : l[k]? = some o) (hf : fullB l rd k = true) {x' : World} (hr : (execOp A.eval o).run P x = .ok .skip x') (h : wpTree P l rd ords C N n (p ++ [k]) (A.put o.dst undef) x') : wpTree P l rd ords C N (n + 1) p A x :=
  tree1 k hk ho (does_skip hr ⟨fun e => (by rw [hf] at e; cases e), h⟩)
theorem run_fn {o : Oper} (f : FuncId) (ars : Array Operand) (ts : Array TypeId) (ho : o.op = .call { callee := .value (.func f), args := ars, argTypes := ts }) (hen : ∀ (args : Array Value) (x : World), (callFunc f args).run P x = .ok (.enter f args) x) {vs : Array Value} (hv : ars.map A.eval = vs) : (execOp A.eval o).run P x = .ok (.enter f vs) x := by
  obtain ⟨dst, op, ty, ps, af, g⟩ := o
  have ho : op = _ := ho
  subst ho
  show (callFunc f (#[] ++ (ars.map A.eval) ++ #[])).run P x = _
  rw [hv, Array.append_empty, Array.empty_append, hen]
theorem tree_call (k : Nat) (hk : nexts ords p = [k]) {o : Oper} (ho : l[k]? = some o) {f : FuncId} {vs : Array Value} (hr : (execOp A.eval o).run P x = .ok (.enter f vs) x) {G : Value → World → Prop} (hc : Calls P f vs x fun e x' => ∃ v, e = .returned v ∧ G v x') (h : ∀ v x', G v x' → C x' ∧ wpTree P l rd ords C N n (p ++ [k]) (A.put o.dst v) x') : wpTree P l rd ords C N (n + 1) p A x :=
  tree1 k hk ho (does_call hr (hc.mono fun e x' ⟨v, h1, h2⟩ => ⟨v, h1, fun _ => (h v x' h2).1, (h v x' h2).2⟩))
theorem tree_callF (k : Nat) (hk : nexts ords p = [k]) {o : Oper} (ho : l[k]? = some o) (hf : fullB l rd k = true) {f : FuncId} {vs : Array Value} (hr : (execOp A.eval o).run P x = .ok (.enter f vs) x) {G : Value → World → Prop} (hc : Calls P f vs x fun e x' => ∃ v, e = .returned v ∧ G v x') (h : ∀ v x', G v x' → wpTree P l rd ords C N n (p ++ [k]) (A.put o.dst v) x') : wpTree P l rd ords C N (n + 1) p A x :=
  tree1 k hk ho (does_call hr (hc.mono fun e x' ⟨v, h1, h2⟩ => ⟨v, h1, fun e => (by rw [hf] at e; cases e), h v x' h2⟩))
theorem tree_nil (h : N A x) : wpTree P l rd ords C N 0 p A x := h
end
end Go.Proofs.YtkgojnjlfkijiaaGreat
/- Mixing in binary64: what each way tells (mxT), and what it is worth (mxZ): plain. -/
namespace Go.Proofs.YtkgojnjlfkijiaaGreat
open Go.RowKit
set_option linter.unusedVariables false

/-- 1 - a. -/
def rsT (a : Nat) : Nat := opT .sub 4607182418800017408 a
def mxT : Nat → Nat → Nat → Nat → Nat → Nat
  | 1, s, a, d, b => opT .add s (opT .mul d (rsT a))
  | 2, s, a, d, b => opT .mul s b
  | 3, s, a, d, b => opT .mul s (rsT b)
  | 4, s, a, d, b => opT .add (opT .mul s b) (opT .mul d (rsT a))
  | 5, s, a, d, b => opT .add (opT .mul s (rsT b)) (opT .mul d (rsT a))
  | _, s, a, d, b => opT .add s d
def mstT (a b t : Nat) : Nat := opT .add (opT .mul a (rsT t)) (opT .mul b t)
def mxV (k s sa d da : Nat) : Nat := narW (mxT k (wideW s) (wideW sa) (wideW d) (wideW da))
def mstV (a b t : Nat) : Nat := narW (mstT (wideW a) (wideW b) (wideW t))
theorem mnar_lt (x : Nat) : narW x < 4294967296 := toldD_lt _
theorem mxV_lt (k s sa d da : Nat) : mxV k s sa d da < 4294967296 := mnar_lt _
theorem mstV_lt (a b t : Nat) : mstV a b t < 4294967296 := mnar_lt _

def eU : Nat := 1074
def eB : Nat := 1202
def UZ : Int := ((2 ^ eU : Nat) : Int)
theorem UZ_pos : 0 < UZ := by unfold UZ; have := Nat.two_pow_pos eU; omega
def prZ (X Y : Int) : Int := X * Y / UZ
theorem samp_one : sampleZ 1065353216 = UZ := by decide +kernel
theorem wide_one : wideW 1065353216 = 4607182418800017408 := by decide +kernel
theorem one_wf : Wf 4607182418800017408 UZ := by
  rw [← wide_one, ← samp_one]
  exact wide_wf (by decide +kernel)
theorem mlog_lt {n j : Nat} (h : n < 2 ^ j) (hj : j ≤ 2000) : n.log2 ≤ 2000 := by
  by_cases h0 : n = 0
  · subst h0; exact Nat.zero_le _
  · have := (Nat.log2_lt h0).2 h
    omega
theorem msamp_lt {a : Nat} (h : rung32 a < 2139095040) {j : Nat} (hj : eB ≤ j) : (sampleZ a).natAbs < 2 ^ j := by
  unfold sampleZ
  rw [signed_abs]
  have h1 := plc_le32 h
  obtain ⟨m, hm⟩ : ∃ m, mag32 (rung32 a) = m := ⟨_, rfl⟩
  have h2 : m < 16777216 := by rw [← hm]; exact mag_lt32 _
  obtain ⟨k, hk⟩ : ∃ k, plc32 (rung32 a) + 925 = k := ⟨_, rfl⟩
  have h3 : k ≤ 1178 := by omega
  rw [hk, hm]
  have h4 : m * 2 ^ k < 16777216 * 2 ^ k := Nat.mul_lt_mul_of_pos_right h2 (Nat.two_pow_pos _)
  have h5 : 16777216 * 2 ^ k = 2 ^ (24 + k) := by rw [Nat.pow_add]
  have h6 : 2 ^ (24 + k) ≤ 2 ^ j := Nat.pow_le_pow_right (by omega) (by unfold eB at hj; omega)
  omega
theorem samp_dvd (a : Nat) {g : Nat} (hg : g ≤ 925) : ((2 ^ g : Nat) : Int) ∣ sampleZ a := signed_dvd _ _ (by omega)
theorem sgn_wf {x : Nat} {Z : Int} (hx : Wf x Z) (h : Z ≠ 0) : sgn64 x = decide (Z < 0) := by
  have := signed_sign (s := sgn64 x) (m := mag64 (rung64 x)) (k := plc64 (rung64 x))
  rw [← sval_signed, hx.val] at this
  exact this h
theorem mul_wf {x y : Nat} {X Y P : Int} (hx : Wf x X) (hy : Wf y Y) (hP : X * Y = P * UZ) (hs : P.natAbs.log2 ≤ 2000) : Wf (opT .mul x y) (RN P) := by
  have hU := UZ_pos
  have e : floatBits .mul .f64 x y = some (wordOf (sgn64 x ^^ sgn64 y) P) := by
    show ((Ieee.double.read x).product (Ieee.double.read y)).map Ieee.double.write = _
    rw [read_fin64 hx.fin, read_fin64 hy.fin]
    show some (Ieee.double.nearest _ _ _) = _
    rw [nearest_rung]
    unfold wordOf
    have w1 : mag64 (rung64 x) * 2 ^ plc64 (rung64 x) = X.natAbs := by have := val_abs x; rw [hx.val] at this; exact this.symm
    have w2 : mag64 (rung64 y) * 2 ^ plc64 (rung64 y) = Y.natAbs := by have := val_abs y; rw [hy.val] at this; exact this.symm
    have w3 : X.natAbs * Y.natAbs = P.natAbs * 2 ^ eU := by rw [← Int.natAbs_mul, hP, Int.natAbs_mul]; rfl
    have e1 : mag64 (rung64 x) * mag64 (rung64 y) * 2 ^ (plc64 (rung64 x) + plc64 (rung64 y)) = P.natAbs * 2 ^ eU := by
      rw [Nat.pow_add, Nat.mul_mul_mul_comm, w1, w2, w3]
    have k1 := rung_scale Ieee.double (mag64 (rung64 x) * mag64 (rung64 y)) (plc64 (rung64 x) + plc64 (rung64 y)) (-2148)
    rw [e1, rung_scale, show (-2148 : Int) + (eU : Int) = -1074 from rfl] at k1
    have e4 : (-1074 : Int) + (plc64 (rung64 x) : Int) + (-1074 + (plc64 (rung64 y) : Int)) = -2148 + ((plc64 (rung64 x) + plc64 (rung64 y) : Nat) : Int) := by omega
    rw [e4, ← k1]
  rw [opT_of hA3 e]
  obtain ⟨_, _, h1, h2⟩ := wordOf_facts (σ := sgn64 x ^^ sgn64 y) hs (fun h => by
    have hX : X ≠ 0 := by
      rintro rfl
      rw [Int.zero_mul] at hP
      rcases Int.mul_eq_zero.1 hP.symm with c | c
      · exact h c
      · omega
    have hY : Y ≠ 0 := by
      rintro rfl
      rw [Int.mul_zero] at hP
      rcases Int.mul_eq_zero.1 hP.symm with c | c
      · exact h c
      · omega
    rw [sgn_wf hx hX, sgn_wf hy hY]
    have pn : P < 0 → X * Y < 0 := fun c => by rw [hP]; exact Int.mul_neg_of_neg_of_pos c hU
    have pp : 0 < P → 0 < X * Y := fun c => by rw [hP]; exact Int.mul_pos c hU
    rcases Int.lt_or_gt_of_ne hX with a | a <;> rcases Int.lt_or_gt_of_ne hY with b | b
    · have := Int.mul_pos_of_neg_of_neg a b
      rw [decide_eq_true a, decide_eq_true b, decide_eq_false (fun c => by have := pn c; omega)]; rfl
    · have := Int.mul_neg_of_neg_of_pos a b
      rw [decide_eq_true a, decide_eq_false (by omega), decide_eq_true (by rcases Int.lt_or_gt_of_ne h with c | c; exact c; have := pp c; omega)]; rfl
    · have := Int.mul_neg_of_pos_of_neg a b
      rw [decide_eq_false (by omega), decide_eq_true b, decide_eq_true (by rcases Int.lt_or_gt_of_ne h with c | c; exact c; have := pp c; omega)]; rfl
    · have := Int.mul_pos a b
      rw [decide_eq_false (by omega), decide_eq_false (by omega), decide_eq_false (fun c => by have := pn c; omega)]; rfl)
  exact ⟨h1, h2⟩
theorem RN_U : RN UZ = UZ := by
  refine RN_exact (g := eU) ?_ ?_ ?_
  · show (2 ^ eU : Nat).log2 ≤ 2000
    exact mlog_lt (j := eU + 1) (Nat.pow_lt_pow_right (by omega) (by omega)) (by unfold eU; omega)
  · exact Int.dvd_refl _
  · show 2 ^ eU < 2 ^ (53 + eU)
    exact Nat.pow_lt_pow_right (by omega) (by omega)
/-- An alpha from 0 to 1. -/
structure Al (a : Nat) : Prop where
  fin : rung32 a < 2139095040
  lo : 0 ≤ sampleZ a
  hi : sampleZ a ≤ UZ
def rsZ (A : Int) : Int := RN (UZ - A)
theorem rs_bd {A : Int} (h0 : 0 ≤ A) (h1 : A ≤ UZ) : 0 ≤ rsZ A ∧ rsZ A ≤ UZ := by
  constructor
  · have := RN_mono (show (0 : Int) ≤ UZ - A by omega); rw [RN_zero] at this; exact this
  · have := RN_mono (show UZ - A ≤ UZ by omega); rw [RN_U] at this; exact this
theorem U_lt {j : Nat} (h : eU + 1 ≤ j) : UZ.natAbs < 2 ^ j := by
  show 2 ^ eU < 2 ^ j
  exact Nat.pow_lt_pow_right (by omega) (by omega)
theorem al_lt {A : Int} (h0 : 0 ≤ A) (h1 : A ≤ UZ) : (UZ - A).natAbs.log2 ≤ 2000 := mlog_lt (j := eU + 1) (Nat.lt_of_le_of_lt (show (UZ - A).natAbs ≤ UZ.natAbs by omega) (U_lt (Nat.le_refl _))) (by unfold eU; omega)
theorem rest_wf {a : Nat} (h : Al a) : Wf (rsT (wideW a)) (rsZ (sampleZ a)) := sub_wf one_wf (wide_wf h.fin) (al_lt h.lo h.hi)
theorem pow_dvd_int {i j : Nat} (h : i ≤ j) : ((2 ^ i : Nat) : Int) ∣ ((2 ^ j : Nat) : Int) := Int.ofNat_dvd.2 (Nat.pow_dvd_pow 2 h)
theorem rs_dvd {a : Nat} (h : Al a) {g e f : Nat} (hg : g = 1021) (he : e + 1 = eU) (hf : f = 1050) : ((2 ^ g : Nat) : Int) ∣ rsZ (sampleZ a) := by
  have hl := al_lt h.lo h.hi
  have hA := h.lo
  have hA1 := h.hi
  have he' : e = 1073 := by unfold eU at he; omega
  by_cases hh : 2 ^ e ≤ (UZ - sampleZ a).natAbs
  · unfold rsZ
    rw [Int.ofNat_dvd_left, RN_abs, vN_eq hl]
    have h0 : (UZ - sampleZ a).natAbs ≠ 0 := by have := Nat.two_pow_pos e; omega
    have := (Nat.le_log2 h0).2 hh
    exact Nat.dvd_mul_left_of_dvd (Nat.pow_dvd_pow 2 (by unfold lostK; omega)) _
  · have hb : ((2 ^ f : Nat) : Int) ∣ sampleZ a := by
      have hz : 2 ^ e < (sampleZ a).natAbs := by
        have e1 : (2 ^ eU : Nat) = 2 * 2 ^ e := by rw [← he, Nat.pow_succ, Nat.mul_comm]
        have e2 : UZ = ((2 ^ eU : Nat) : Int) := rfl
        generalize 2 ^ e = T at *
        generalize (2 ^ eU : Nat) = V at *
        omega
      unfold sampleZ at hz ⊢
      rw [signed_abs] at hz
      have h2 : mag32 (rung32 a) < 16777216 := mag_lt32 _
      refine signed_dvd _ _ ?_
      obtain ⟨m, hm⟩ : ∃ m, mag32 (rung32 a) = m := ⟨_, rfl⟩
      obtain ⟨k, hk⟩ : ∃ k, plc32 (rung32 a) + 925 = k := ⟨_, rfl⟩
      rw [hm, hk] at hz
      rw [hm] at h2
      rw [hk]
      have h3 : m * 2 ^ k < 16777216 * 2 ^ k := Nat.mul_lt_mul_of_pos_right h2 (Nat.two_pow_pos _)
      have h5 : 16777216 * 2 ^ k = 2 ^ (24 + k) := by rw [Nat.pow_add]
      have h4 := (Nat.pow_lt_pow_iff_right (a := 2) (by omega)).1 (show 2 ^ e < 2 ^ (24 + k) by omega)
      omega
    have h5 : ((2 ^ f : Nat) : Int) ∣ UZ - sampleZ a := Int.dvd_sub (pow_dvd_int (by unfold eU; omega)) hb
    exact Int.dvd_trans (pow_dvd_int (by omega)) (RN_dvd hl h5)
theorem dvd_prod {X Y : Int} {i j : Nat} (hX : ((2 ^ i : Nat) : Int) ∣ X) (hY : ((2 ^ j : Nat) : Int) ∣ Y) (h : eU ≤ i + j) : X * Y = prZ X Y * UZ := by
  have h1 : ((2 ^ i : Nat) : Int) * ((2 ^ j : Nat) : Int) ∣ X * Y := Int.mul_dvd_mul hX hY
  rw [← Int.natCast_mul, ← Nat.pow_add] at h1
  exact (Int.ediv_mul_cancel (Int.dvd_trans (pow_dvd_int h) h1)).symm
theorem pr_zero (Y : Int) : prZ 0 Y = 0 := by unfold prZ; rw [Int.zero_mul, Int.zero_ediv]
theorem pr_zero' (X : Int) : prZ X 0 = 0 := by unfold prZ; rw [Int.mul_zero, Int.zero_ediv]
theorem pr_one (X : Int) : prZ X UZ = X := by unfold prZ; exact Int.mul_ediv_cancel _ (by have := UZ_pos; omega)
theorem pr_mono {X Y R : Int} (h : X ≤ Y) (hR : 0 ≤ R) : prZ X R ≤ prZ Y R := Int.ediv_le_ediv UZ_pos (Int.mul_le_mul_of_nonneg_right h hR)
theorem pr_mono' {X R S : Int} (h : R ≤ S) (hX : 0 ≤ X) : prZ X R ≤ prZ X S := Int.ediv_le_ediv UZ_pos (Int.mul_le_mul_of_nonneg_left h hX)
theorem pr_abs {X R : Int} (h0 : 0 ≤ R) (h1 : R ≤ UZ) : (prZ X R).natAbs ≤ X.natAbs := by
  rcases Int.lt_or_le X 0 with c | c
  · have a1 : prZ X R ≤ prZ 0 R := pr_mono (by omega) h0
    rw [pr_zero] at a1
    have a2 : prZ X UZ ≤ prZ X R := Int.ediv_le_ediv UZ_pos (Int.mul_le_mul_of_nonpos_left (by omega) h1)
    rw [pr_one] at a2
    omega
  · have a1 : prZ 0 R ≤ prZ X R := pr_mono c h0
    rw [pr_zero] at a1
    have a2 := pr_mono' h1 c
    rw [pr_one] at a2
    omega
theorem two_lt {n j : Nat} (h : n < 2 ^ j) : 2 * n < 2 ^ (j + 1) := by rw [Nat.pow_succ]; omega
/-- A sample times an alpha, or times what it leaves of 1. -/
theorem pr_wf {x y : Nat} {X Y : Int} (hx : Wf x X) (hy : Wf y Y) {i j : Nat} (dX : ((2 ^ i : Nat) : Int) ∣ X) (dY : ((2 ^ j : Nat) : Int) ∣ Y) (h : eU ≤ i + j) (h0 : 0 ≤ Y) (h1 : Y ≤ UZ) (hX : X.natAbs < 2 ^ eB) :
    Wf (opT .mul x y) (RN (prZ X Y)) ∧ (RN (prZ X Y)).natAbs < 2 ^ (eB + 1) := by
  have hl : (prZ X Y).natAbs < 2 ^ eB := Nat.lt_of_le_of_lt (pr_abs h0 h1) hX
  have hl2 := mlog_lt hl (by unfold eB; omega)
  exact ⟨mul_wf hx hy (dvd_prod dX dY h) hl2, Nat.lt_of_le_of_lt (RN_le hl2) (two_lt hl)⟩
theorem sum_lt {X Y : Int} (hX : X.natAbs < 2 ^ (eB + 1)) (hY : Y.natAbs < 2 ^ (eB + 1)) : (X + Y).natAbs.log2 ≤ 2000 := by
  refine mlog_lt (j := eB + 1 + 1) ?_ (by unfold eB; omega)
  have := two_lt (j := eB + 1) (n := max X.natAbs Y.natAbs) (by omega)
  generalize 2 ^ (eB + 1 + 1) = T at *
  omega
theorem samp_small {a : Nat} (h : rung32 a < 2139095040) : (sampleZ a).natAbs < 2 ^ eB := msamp_lt h (Nat.le_refl _)
theorem samp_small' {a : Nat} (h : rung32 a < 2139095040) : (sampleZ a).natAbs < 2 ^ (eB + 1) := msamp_lt h (Nat.le_succ _)
theorem al_wf {x a : Nat} (hx : rung32 x < 2139095040) (h : Al a) : Wf (opT .mul (wideW x) (wideW a)) (RN (prZ (sampleZ x) (sampleZ a))) ∧ (RN (prZ (sampleZ x) (sampleZ a))).natAbs < 2 ^ (eB + 1) :=
  pr_wf (wide_wf hx) (wide_wf h.fin) (samp_dvd x (Nat.le_refl _)) (samp_dvd a (Nat.le_refl _)) (by unfold eU; omega) h.lo h.hi (samp_small hx)
theorem ar_wf {x a : Nat} (hx : rung32 x < 2139095040) (h : Al a) : Wf (opT .mul (wideW x) (rsT (wideW a))) (RN (prZ (sampleZ x) (rsZ (sampleZ a)))) ∧ (RN (prZ (sampleZ x) (rsZ (sampleZ a)))).natAbs < 2 ^ (eB + 1) :=
  pr_wf (wide_wf hx) (rest_wf h) (samp_dvd x (Nat.le_refl _)) (rs_dvd h rfl (e := 1073) rfl rfl) (by unfold eU; omega) (rs_bd h.lo h.hi).1 (rs_bd h.lo h.hi).2 (samp_small hx)
def mxZ : Nat → Int → Int → Int → Int → Int
  | 1, S, A, D, B => RN (S + RN (prZ D (rsZ A)))
  | 2, S, A, D, B => RN (prZ S B)
  | 3, S, A, D, B => RN (prZ S (rsZ B))
  | 4, S, A, D, B => RN (RN (prZ S B) + RN (prZ D (rsZ A)))
  | 5, S, A, D, B => RN (RN (prZ S (rsZ B)) + RN (prZ D (rsZ A)))
  | _, S, A, D, B => RN (S + D)
def mstZ (X Y T : Int) : Int := RN (RN (prZ X (rsZ T)) + RN (prZ Y T))
theorem mx_wf (k : Nat) {s sa d da : Nat} (hs : rung32 s < 2139095040) (hd : rung32 d < 2139095040) (ha : Al sa) (hb : Al da) : Wf (mxT k (wideW s) (wideW sa) (wideW d) (wideW da)) (mxZ k (sampleZ s) (sampleZ sa) (sampleZ d) (sampleZ da)) := by
  obtain ⟨a1, a2⟩ := ar_wf hd ha
  obtain ⟨b1, b2⟩ := al_wf hs hb
  obtain ⟨c1, c2⟩ := ar_wf hs hb
  match k with
  | 1 => exact add_wf (wide_wf hs) a1 (sum_lt (samp_small' hs) a2)
  | 2 => exact b1
  | 3 => exact c1
  | 4 => exact add_wf b1 a1 (sum_lt b2 a2)
  | 5 => exact add_wf c1 a1 (sum_lt c2 a2)
  | 0 => exact add_wf (wide_wf hs) (wide_wf hd) (sum_lt (samp_small' hs) (samp_small' hd))
  | n + 6 => exact add_wf (wide_wf hs) (wide_wf hd) (sum_lt (samp_small' hs) (samp_small' hd))
theorem mst_wf {x y t : Nat} (hx : rung32 x < 2139095040) (hy : rung32 y < 2139095040) (ht : Al t) : Wf (mstT (wideW x) (wideW y) (wideW t)) (mstZ (sampleZ x) (sampleZ y) (sampleZ t)) := by
  obtain ⟨a1, a2⟩ := ar_wf hx ht
  obtain ⟨b1, b2⟩ := al_wf hy ht
  exact add_wf a1 b1 (sum_lt a2 b2)
theorem mx_key15 (k : Nat) {s sa d da : Nat} (hs : rung32 s < 2139095040) (hd : rung32 d < 2139095040) (ha : Al sa) (hb : Al da) : srung32 (mxV k s sa d da) = RS (mxZ k (sampleZ s) (sampleZ sa) (sampleZ d) (sampleZ da)) ∧ nanN (mxV k s sa d da) = false := nar_wf (mx_wf k hs hd ha hb)
theorem mst_key {x y t : Nat} (hx : rung32 x < 2139095040) (hy : rung32 y < 2139095040) (ht : Al t) : srung32 (mstV x y t) = RS (mstZ (sampleZ x) (sampleZ y) (sampleZ t)) ∧ nanN (mstV x y t) = false := nar_wf (mst_wf hx hy ht)
theorem mxZ_rises (k : Nat) {S T A D B : Int} (h : S ≤ T) (hA0 : 0 ≤ A) (hA : A ≤ UZ) (hB0 : 0 ≤ B) (hB : B ≤ UZ) : mxZ k S A D B ≤ mxZ k T A D B ∧ mxZ k D A S B ≤ mxZ k D A T B := by
  obtain ⟨r1, r2⟩ := rs_bd hA0 hA
  obtain ⟨r3, r4⟩ := rs_bd hB0 hB
  have m1 := RN_mono (pr_mono h r1)
  have m2 := RN_mono (pr_mono h r3)
  have m3 := RN_mono (pr_mono h hB0)
  constructor
  · match k with
    | 1 => exact (show RN (S + RN (prZ D (rsZ A))) ≤ RN (T + RN (prZ D (rsZ A))) from RN_mono (Int.add_le_add_right h _))
    | 2 => exact (show RN (prZ S B) ≤ RN (prZ T B) from m3)
    | 3 => exact (show RN (prZ S (rsZ B)) ≤ RN (prZ T (rsZ B)) from m2)
    | 4 => exact (show RN (RN (prZ S B) + RN (prZ D (rsZ A))) ≤ RN (RN (prZ T B) + RN (prZ D (rsZ A))) from RN_mono (Int.add_le_add_right m3 _))
    | 5 => exact (show RN (RN (prZ S (rsZ B)) + RN (prZ D (rsZ A))) ≤ RN (RN (prZ T (rsZ B)) + RN (prZ D (rsZ A))) from RN_mono (Int.add_le_add_right m2 _))
    | 0 => exact (show RN (S + D) ≤ RN (T + D) from RN_mono (Int.add_le_add_right h _))
    | n + 6 => exact (show RN (S + D) ≤ RN (T + D) from RN_mono (Int.add_le_add_right h _))
  · match k with
    | 1 => exact (show RN (D + RN (prZ S (rsZ A))) ≤ RN (D + RN (prZ T (rsZ A))) from RN_mono (Int.add_le_add_left m1 _))
    | 2 => exact (show RN (prZ D B) ≤ RN (prZ D B) from Int.le_refl _)
    | 3 => exact (show RN (prZ D (rsZ B)) ≤ RN (prZ D (rsZ B)) from Int.le_refl _)
    | 4 => exact (show RN (RN (prZ D B) + RN (prZ S (rsZ A))) ≤ RN (RN (prZ D B) + RN (prZ T (rsZ A))) from RN_mono (Int.add_le_add_left m1 _))
    | 5 => exact (show RN (RN (prZ D (rsZ B)) + RN (prZ S (rsZ A))) ≤ RN (RN (prZ D (rsZ B)) + RN (prZ T (rsZ A))) from RN_mono (Int.add_le_add_left m1 _))
    | 0 => exact (show RN (D + S) ≤ RN (D + T) from RN_mono (Int.add_le_add_left h _))
    | n + 6 => exact (show RN (D + S) ≤ RN (D + T) from RN_mono (Int.add_le_add_left h _))
end Go.Proofs.YtkgojnjlfkijiaaGreat

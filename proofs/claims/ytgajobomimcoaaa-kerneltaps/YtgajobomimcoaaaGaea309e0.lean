/- A region that draws its order: operations that come up in whatever order, each with a fact that lasts (it may speak of what those told that it waits for); blocks that are made lie apart. -/
import Derived.Test.YtgajobomimcoaaaGafd2286e
import Derived.Test.YtgajobomimcoaaaGa920c7b0
import Derived.Test.YtgajobomimcoaaaGe815dc40
namespace Go.Proofs.Ytgajobomimcoaaa
open Go.RowKit
set_option linter.unusedVariables false
set_option linter.unusedSimpArgs false

/-- The block that a slice or a pointer is at. -/
def blkV : Value → Nat
  | .slice (some a) _ _ => a.block
  | .pointer (some a) => a.block
  | _ => 0
/-- What is told of a value, where others (deps) may be named. -/
structure Sp2 where
  p : Value → (Nat → Value) → World → Prop
  deps : List Nat
  st : ∀ {v : Value} {val val' : Nat → Value} {x x' : World}, p v val x → Q x x' → (∀ j ∈ deps, val' j = val j) → p v val' x'
def sV (u : Value) : Sp2 := ⟨fun v _ _ => v = u, [], fun h _ _ => h⟩
def sE (j : Nat) : Sp2 := ⟨fun v val _ => v = val j, [j], fun h _ e => h.trans (e j (by simp)).symm⟩
def sP (p : Value → World → Prop) (st : ∀ v x x', p v x → Q x x' → p v x') : Sp2 := ⟨fun v _ x => p v x, [], fun h q _ => st _ _ _ h q⟩
/-- Each operation fills a slot, is not guarded, and what is told of it names what it waits for. -/
def newB (l : List Oper) (D : List (List Nat)) (s : List Nat) : Bool := (D.length == l.length) && ((s.length == l.length) && (List.range l.length).all fun k => match l[k]? with
  | some o => o.guard.isNone && ((o.dst == s[k]?) && (D.getD k []).all fun j => decide (j < k) && o.after.toList.any fun e => Region.binds .any e && (e.on == j))
  | none => true)
structure InvN (l : List Oper) (L : List Sp2) (A : List Nat) (w : World) (done : Nat → Bool) (val : Nat → Value) (x : World) : Prop where
  q : Q w x
  f : ∀ i s, L[i]? = some s → done i = true → s.p (val i) val x
  lt : ∀ i, i ∈ A → done i = true → blkV (val i) < x.heap.size
  ap : ∀ i j, i ∈ A → j ∈ A → i ≠ j → done i = true → done j = true → blkV (val i) ≠ blkV (val j)
  cl : ∀ i o, l[i]? = some o → done i = true → ∀ e ∈ o.after, Region.binds .any e = true → done e.on = true
set_option maxHeartbeats 1000000 in
theorem wp_region_new {P : Program} {id : Nat} {R : Exit → Act → World → Prop} {a0 : Act} {w : World} {l : List Oper} (s : List Nat) (L : List Sp2) (D : List (List Nat)) (A : List Nat)
    (hm : P.follows .mixedOrders = true) (hB : regS l = true) (hN : newB l D s = true) (hD : L.map (·.deps) = D) (hmax : ∀ t ∈ s, t < a0.tmps.size)
    (hop : ∀ i t o sp (a : Act) x (val : Nat → Value), s[i]? = some t → l[i]? = some o → L[i]? = some sp → Q w x → (∀ j, j ∉ s → a.tmps[j]? = a0.tmps[j]?) → (∀ e ∈ o.after, Region.binds .any e = true → ∀ s' t', L[e.on]? = some s' → s[e.on]? = some t' → a.tmps[t']? = some (val e.on) ∧ s'.p (val e.on) val x) →
      Yld P R o a x t (fun v x' => sp.p v val x' ∧ (i ∈ A → x.heap.size ≤ blkV v ∧ blkV v < x'.heap.size)))
    (hend : ∀ (a : Act) x (val : Nat → Value), Q w x → a.tmps.size = a0.tmps.size → a.defers = a0.defers → (∀ j, j ∉ s → a.tmps[j]? = a0.tmps[j]?) → (∀ i t sp, s[i]? = some t → L[i]? = some sp → a.tmps[t]? = some (val i) ∧ sp.p (val i) val x) → (∀ i j, i ∈ A → j ∈ A → i < l.length → j < l.length → i ≠ j → blkV (val i) ≠ blkV (val j)) → Shut (R .normal a x)) :
    (Code.region id l.toArray true).wp P R a0 w := by
  unfold newB at hN
  simp only [Bool.and_eq_true, beq_iff_eq] at hN
  obtain ⟨hDl, hsl, hall⟩ := hN
  have hLl : L.length = l.length := by rw [← hDl, ← hD]; simp
  have at_ : ∀ k o, l[k]? = some o → o.guard = none ∧ o.dst = s[k]? ∧ ∀ j ∈ D.getD k [], j < k ∧ ∃ e ∈ o.after, Region.binds .any e = true ∧ e.on = j := fun k o hk => by
    have g := List.all_eq_true.1 hall k (List.mem_range.2 (List.getElem?_eq_some_iff.1 hk).1)
    rw [hk] at g
    simp only [Bool.and_eq_true, beq_iff_eq] at g
    refine ⟨by simpa using g.1, g.2.1, fun j hj => ?_⟩
    have h := List.all_eq_true.1 g.2.2 j hj
    rw [Bool.and_eq_true] at h
    obtain ⟨e, he, hb⟩ := List.any_eq_true.1 h.2
    rw [Bool.and_eq_true] at hb
    exact ⟨by simpa using h.1, e, by simpa using he, hb.1, by simpa using hb.2⟩
  have dst_s : ∀ k t, dstOf l k = some t ↔ s[k]? = some t := fun k t => by
    cases hk : l[k]? with
    | none =>
      have : l.length ≤ k := by
        rcases Nat.lt_or_ge k l.length with c | c
        · rw [List.getElem?_eq_getElem c] at hk; cases hk
        · exact c
      rw [List.getElem?_eq_none (by omega)]
      unfold dstOf
      rw [hk]
      exact Iff.rfl
    | some o => rw [dstOf_at hk, (at_ k o hk).2.1]
  have mem_s : ∀ j, (∀ k, dstOf l k ≠ some j) ↔ j ∉ s := fun j => by
    constructor
    · intro h hm
      obtain ⟨k, hk⟩ := List.getElem?_of_mem hm
      exact h k ((dst_s k j).2 hk)
    · intro h k e
      exact h (List.mem_of_getElem? ((dst_s k j).1 e))
  have depsD : ∀ k sp, L[k]? = some sp → sp.deps = D.getD k [] := fun k sp hk => by
    rw [← hD, List.getD_eq_getElem?_getD, List.getElem?_map, hk]; rfl
  refine wp_region_slots (InvN l L A w) hm hB (fun i t h => hmax t (List.mem_of_getElem? ((dst_s i t).1 h))) ⟨(Q.refl w).drew, fun _ _ _ h => (by cases h), fun _ _ h => (by cases h), fun _ _ _ _ _ h => (by cases h), fun _ _ _ h => (by cases h)⟩ ?_ ?_ ?_
  · intro i o a x done val ho hd hdep I oth vals _
    have hil : i < l.length := (List.getElem?_eq_some_iff.1 ho).1
    obtain ⟨sp, hsp⟩ : ∃ sp, L[i]? = some sp := ⟨_, List.getElem?_eq_getElem (by omega)⟩
    obtain ⟨t, ht⟩ : ∃ t, s[i]? = some t := ⟨_, List.getElem?_eq_getElem (by omega)⟩
    obtain ⟨hg, hdst, hdp⟩ := at_ i o ho
    have hrun := hop i t o sp a x val ht ho hsp I.q (fun j hj => oth j ((mem_s j).2 hj)) (fun e he hb s' t' hs' ht' => ⟨vals e.on t' (hdep e he hb) ((dst_s _ _).2 ht'), I.f e.on s' hs' (hdep e he hb)⟩)
    refine ⟨Oper.wp_mono ?_ hrun.out⟩
    rintro a' x' ⟨v, rfl, q', hf, hfA⟩
    refine ⟨v, by rw [hdst, ht], I.q.trans q', fun j sj hsj hdj => ?_, fun j hj hdj => ?_, fun j k hj hk hjk hdj hdk => ?_, fun j o' ho' hdj e he hb => ?_⟩
    · by_cases e : j = i
      · subst e
        rw [hsp] at hsj
        injection hsj with hsj
        subst hsj
        rw [upd_eq]
        refine sp.st hf (Q.refl x') (fun k hk => upd_ne _ _ ?_)
        rw [depsD j sp hsp] at hk
        have := (hdp k hk).1
        omega
      · rw [upd_ne _ _ e] at hdj ⊢
        refine sj.st (I.f j sj hsj hdj) q' (fun k hk => upd_ne _ _ ?_)
        rw [depsD j sj hsj] at hk
        have hjl : j < l.length := by have := (List.getElem?_eq_some_iff.1 hsj).1; omega
        obtain ⟨_, e2, he2, hb2, hk2⟩ := (at_ j _ (List.getElem?_eq_getElem hjl)).2.2 k hk
        have := I.cl j _ (List.getElem?_eq_getElem hjl) hdj e2 he2 hb2
        intro ek
        rw [hk2, ek, hd] at this
        cases this
    · by_cases e : j = i
      · subst e; rw [upd_eq]; exact (hfA hj).2
      · rw [upd_ne _ _ e] at hdj ⊢
        have := I.lt j hj hdj
        have := q'.1.size
        omega
    · by_cases e : j = i
      · subst e
        have ek : k ≠ j := fun h => hjk h.symm
        rw [upd_eq, upd_ne _ _ ek]
        rw [upd_ne _ _ ek] at hdk
        have := I.lt k hk hdk
        have := (hfA hj).1
        omega
      · rw [upd_ne _ _ e] at hdj ⊢
        by_cases ek : k = i
        · subst ek
          rw [upd_eq]
          have := I.lt j hj hdj
          have := (hfA hk).1
          omega
        · rw [upd_ne _ _ ek] at hdk ⊢
          exact I.ap j k hj hk hjk hdj hdk
    · by_cases ee : e.on = i
      · rw [ee, upd_eq]
      · rw [upd_ne _ _ ee]
        by_cases ej : j = i
        · subst ej
          rw [ho] at ho'
          injection ho' with ho'
          subst ho'
          exact hdep e he hb
        · rw [upd_ne _ _ ej] at hdj
          exact I.cl j o' ho' hdj e he hb
  · intro i o x done val g b ho _ _ _ hg _
    rw [(at_ i o ho).1] at hg
    cases hg
  · intro a x val I size defers other facts
    refine hend a x val I.q size defers (fun j hj => other j ((mem_s j).2 hj)) (fun i t sp ht hsp => ⟨facts i t ((dst_s i t).2 ht), I.f i sp hsp (decide_eq_true (by have := (List.getElem?_eq_some_iff.1 hsp).1; omega))⟩) (fun i j hi hj hil hjl hij => I.ap i j hi hj hij (decide_eq_true hil) (decide_eq_true hjl))
end Go.Proofs.Ytgajobomimcoaaa
/- The document's Share: two rows that it makes, in whatever order. -/
namespace Go.Proofs.Ytgajobomimcoaaa
open Go.RowKit
set_option linter.unusedVariables false
set_option linter.unusedSimpArgs false

/-- A row of noughts that is made. -/
def rowS (B n : Nat) : Sp2 := sP (fun v x => ∃ g, v = .slice (some ⟨g, 0, none⟩) n n ∧ B ≤ g ∧ g < x.heap.size ∧ IRow x g (List.replicate n 0)) (fun v x x' ⟨g, h1, h2, h3, h4⟩ q => ⟨g, h1, h2, by have := q.1.size; omega, h4.next q⟩)
def oRs_0 : Oper := { dst := some 46, op := .move (.tmp 0), type := 36, pos := "halideref9.go:40", after := #[], guard := none }
def oRs_1 : Oper := { dst := some 47, op := .call { callee := .builtin .len, args := #[.tmp 46], argTypes := #[36] }, type := 3, pos := "halideref9.go:40", after := #[⟨0, .data⟩], guard := none }
def oRs_2 : Oper := { dst := some 48, op := .makeSlice 36 (.tmp 47) (.tmp 47), type := 36, pos := "halideref9.go:40", after := #[⟨1, .data⟩, ⟨1, .data⟩], guard := none }
def oRs_3 : Oper := { dst := some 49, op := .move (.tmp 0), type := 36, pos := "halideref9.go:40", after := #[], guard := none }
def oRs_4 : Oper := { dst := some 50, op := .call { callee := .builtin .len, args := #[.tmp 49], argTypes := #[36] }, type := 3, pos := "halideref9.go:40", after := #[⟨3, .data⟩], guard := none }
def oRs_5 : Oper := { dst := some 51, op := .makeSlice 36 (.tmp 50) (.tmp 50), type := 36, pos := "halideref9.go:40", after := #[⟨4, .data⟩, ⟨4, .data⟩], guard := none }
def oRs_6 : Oper := { dst := some 6, op := .assign (.tmp 48), type := 36, pos := "halideref9.go:40", after := #[⟨2, .data⟩, ⟨0, .phase⟩, ⟨1, .phase⟩, ⟨2, .phase⟩, ⟨3, .textOnly .lateStores⟩, ⟨4, .textOnly .lateStoresUnsure⟩, ⟨5, .textOnly .lateStoresUnsure⟩], guard := none }
def oRs_7 : Oper := { dst := some 7, op := .assign (.tmp 51), type := 36, pos := "halideref9.go:40", after := #[⟨5, .data⟩, ⟨6, .chain⟩, ⟨0, .phase⟩, ⟨1, .phase⟩, ⟨2, .phase⟩, ⟨3, .phase⟩, ⟨4, .phase⟩, ⟨5, .phase⟩, ⟨6, .phase⟩], guard := none }
def opsRs : List Oper := [oRs_0, oRs_1, oRs_2, oRs_3, oRs_4, oRs_5, oRs_6, oRs_7]
def sRs : List Nat := [46, 47, 48, 49, 50, 51, 6, 7]
def spRs (B : Nat) (ad : Option Addr) (n c : Nat) : List Sp2 := [sV (.slice ad n c), sV (.int .i64 (n : Int)), rowS B n, sV (.slice ad n c), sV (.int .i64 (n : Int)), rowS B n, sE 2, sE 5]
structure EnvRs (a0 : Act) (w : World) (B : Nat) (ad : Option Addr) (n c : Nat) : Prop where
  h0 : a0.tmps[0]? = some (.slice ad n c)
  hn : n ≤ 1048576
  hB : B ≤ w.heap.size
theorem yRs_0 {a0 : Act} {w : World} {B : Nat} {ad : Option Addr} {n c : Nat} (E : EnvRs a0 w B ad n c) {R : Exit → Act → World → Prop} {a : Act} {x : World} {val : Nat → Value} (q : Q w x) (oth : ∀ j, j ∉ sRs → a.tmps[j]? = a0.tmps[j]?) (dep : ∀ ed ∈ oRs_0.after, Region.binds .any ed = true → ∀ s' t', (spRs B ad n c)[ed.on]? = some s' → sRs[ed.on]? = some t' → a.tmps[t']? = some (val ed.on) ∧ s'.p (val ed.on) val x) : Yld Try.prog R oRs_0 a x 46 (fun v x' => (sV (.slice ad n c)).p v val x' ∧ (0 ∈ ([2, 5] : List Nat) → x.heap.size ≤ blkV v ∧ blkV v < x'.heap.size)) := by
  exact yld_move ((oth 0 (by decide)).trans E.h0) ⟨rfl, fun h => absurd h (by decide)⟩
theorem yRs_1 {a0 : Act} {w : World} {B : Nat} {ad : Option Addr} {n c : Nat} (E : EnvRs a0 w B ad n c) {R : Exit → Act → World → Prop} {a : Act} {x : World} {val : Nat → Value} (q : Q w x) (oth : ∀ j, j ∉ sRs → a.tmps[j]? = a0.tmps[j]?) (dep : ∀ ed ∈ oRs_1.after, Region.binds .any ed = true → ∀ s' t', (spRs B ad n c)[ed.on]? = some s' → sRs[ed.on]? = some t' → a.tmps[t']? = some (val ed.on) ∧ s'.p (val ed.on) val x) : Yld Try.prog R oRs_1 a x 47 (fun v x' => (sV (.int .i64 (n : Int))).p v val x' ∧ (1 ∈ ([2, 5] : List Nat) → x.heap.size ≤ blkV v ∧ blkV v < x'.heap.size)) := by
  obtain ⟨t0, f0⟩ := dep ⟨0, .data⟩ (by simp [oRs_1]) rfl _ 46 rfl rfl
  have f0 : val 0 = (.slice ad n c) := f0
  rw [f0] at t0
  exact yld_run (x' := x) rfl (by simp [oRs_1, execOp, resolve, invoke, builtin, t0, go_sem]) (Q.refl x) ⟨rfl, fun h => absurd h (by decide)⟩
theorem yRs_2 {a0 : Act} {w : World} {B : Nat} {ad : Option Addr} {n c : Nat} (E : EnvRs a0 w B ad n c) {R : Exit → Act → World → Prop} {a : Act} {x : World} {val : Nat → Value} (q : Q w x) (oth : ∀ j, j ∉ sRs → a.tmps[j]? = a0.tmps[j]?) (dep : ∀ ed ∈ oRs_2.after, Region.binds .any ed = true → ∀ s' t', (spRs B ad n c)[ed.on]? = some s' → sRs[ed.on]? = some t' → a.tmps[t']? = some (val ed.on) ∧ s'.p (val ed.on) val x) : Yld Try.prog R oRs_2 a x 48 (fun v x' => (rowS B n).p v val x' ∧ (2 ∈ ([2, 5] : List Nat) → x.heap.size ≤ blkV v ∧ blkV v < x'.heap.size)) := by
  obtain ⟨t1, f1⟩ := dep ⟨1, .data⟩ (by simp [oRs_2]) rfl _ 47 rfl rfl
  have f1 : val 1 = (.int .i64 (n : Int)) := f1
  rw [f1] at t1
  obtain ⟨M, hM, hF⟩ := make_i n E.hn
  have hrun : (execOp a.eval oRs_2).run Try.prog x = .ok (.value (.slice (some ⟨x.heap.size, 0, none⟩) n n)) (x.alloc (.cells M 3)) := by
    have := tmp_eval t1
    simp [oRs_2, execOp, this, hM]
  have := q.1.size
  have := E.hB
  exact yld_run rfl hrun ((Q.refl x).cells _ _) ⟨⟨_, rfl, by omega, by simp, hF x⟩, fun _ => ⟨Nat.le_refl _, by simp [blkV]⟩⟩
theorem yRs_3 {a0 : Act} {w : World} {B : Nat} {ad : Option Addr} {n c : Nat} (E : EnvRs a0 w B ad n c) {R : Exit → Act → World → Prop} {a : Act} {x : World} {val : Nat → Value} (q : Q w x) (oth : ∀ j, j ∉ sRs → a.tmps[j]? = a0.tmps[j]?) (dep : ∀ ed ∈ oRs_3.after, Region.binds .any ed = true → ∀ s' t', (spRs B ad n c)[ed.on]? = some s' → sRs[ed.on]? = some t' → a.tmps[t']? = some (val ed.on) ∧ s'.p (val ed.on) val x) : Yld Try.prog R oRs_3 a x 49 (fun v x' => (sV (.slice ad n c)).p v val x' ∧ (3 ∈ ([2, 5] : List Nat) → x.heap.size ≤ blkV v ∧ blkV v < x'.heap.size)) := by
  exact yld_move ((oth 0 (by decide)).trans E.h0) ⟨rfl, fun h => absurd h (by decide)⟩
theorem yRs_4 {a0 : Act} {w : World} {B : Nat} {ad : Option Addr} {n c : Nat} (E : EnvRs a0 w B ad n c) {R : Exit → Act → World → Prop} {a : Act} {x : World} {val : Nat → Value} (q : Q w x) (oth : ∀ j, j ∉ sRs → a.tmps[j]? = a0.tmps[j]?) (dep : ∀ ed ∈ oRs_4.after, Region.binds .any ed = true → ∀ s' t', (spRs B ad n c)[ed.on]? = some s' → sRs[ed.on]? = some t' → a.tmps[t']? = some (val ed.on) ∧ s'.p (val ed.on) val x) : Yld Try.prog R oRs_4 a x 50 (fun v x' => (sV (.int .i64 (n : Int))).p v val x' ∧ (4 ∈ ([2, 5] : List Nat) → x.heap.size ≤ blkV v ∧ blkV v < x'.heap.size)) := by
  obtain ⟨t3, f3⟩ := dep ⟨3, .data⟩ (by simp [oRs_4]) rfl _ 49 rfl rfl
  have f3 : val 3 = (.slice ad n c) := f3
  rw [f3] at t3
  exact yld_run (x' := x) rfl (by simp [oRs_4, execOp, resolve, invoke, builtin, t3, go_sem]) (Q.refl x) ⟨rfl, fun h => absurd h (by decide)⟩
theorem yRs_5 {a0 : Act} {w : World} {B : Nat} {ad : Option Addr} {n c : Nat} (E : EnvRs a0 w B ad n c) {R : Exit → Act → World → Prop} {a : Act} {x : World} {val : Nat → Value} (q : Q w x) (oth : ∀ j, j ∉ sRs → a.tmps[j]? = a0.tmps[j]?) (dep : ∀ ed ∈ oRs_5.after, Region.binds .any ed = true → ∀ s' t', (spRs B ad n c)[ed.on]? = some s' → sRs[ed.on]? = some t' → a.tmps[t']? = some (val ed.on) ∧ s'.p (val ed.on) val x) : Yld Try.prog R oRs_5 a x 51 (fun v x' => (rowS B n).p v val x' ∧ (5 ∈ ([2, 5] : List Nat) → x.heap.size ≤ blkV v ∧ blkV v < x'.heap.size)) := by
  obtain ⟨t4, f4⟩ := dep ⟨4, .data⟩ (by simp [oRs_5]) rfl _ 50 rfl rfl
  have f4 : val 4 = (.int .i64 (n : Int)) := f4
  rw [f4] at t4
  obtain ⟨M, hM, hF⟩ := make_i n E.hn
  have hrun : (execOp a.eval oRs_5).run Try.prog x = .ok (.value (.slice (some ⟨x.heap.size, 0, none⟩) n n)) (x.alloc (.cells M 3)) := by
    have := tmp_eval t4
    simp [oRs_5, execOp, this, hM]
  have := q.1.size
  have := E.hB
  exact yld_run rfl hrun ((Q.refl x).cells _ _) ⟨⟨_, rfl, by omega, by simp, hF x⟩, fun _ => ⟨Nat.le_refl _, by simp [blkV]⟩⟩
theorem yRs_6 {a0 : Act} {w : World} {B : Nat} {ad : Option Addr} {n c : Nat} (E : EnvRs a0 w B ad n c) {R : Exit → Act → World → Prop} {a : Act} {x : World} {val : Nat → Value} (q : Q w x) (oth : ∀ j, j ∉ sRs → a.tmps[j]? = a0.tmps[j]?) (dep : ∀ ed ∈ oRs_6.after, Region.binds .any ed = true → ∀ s' t', (spRs B ad n c)[ed.on]? = some s' → sRs[ed.on]? = some t' → a.tmps[t']? = some (val ed.on) ∧ s'.p (val ed.on) val x) : Yld Try.prog R oRs_6 a x 6 (fun v x' => (sE 2).p v val x' ∧ (6 ∈ ([2, 5] : List Nat) → x.heap.size ≤ blkV v ∧ blkV v < x'.heap.size)) := by
  obtain ⟨t2, f2⟩ := dep ⟨2, .data⟩ (by simp [oRs_6]) rfl _ 48 rfl rfl
  exact yld_run (x' := x) rfl (by rw [← tmp_eval t2]; rfl) (Q.refl x) ⟨rfl, fun h => absurd h (by decide)⟩
theorem yRs_7 {a0 : Act} {w : World} {B : Nat} {ad : Option Addr} {n c : Nat} (E : EnvRs a0 w B ad n c) {R : Exit → Act → World → Prop} {a : Act} {x : World} {val : Nat → Value} (q : Q w x) (oth : ∀ j, j ∉ sRs → a.tmps[j]? = a0.tmps[j]?) (dep : ∀ ed ∈ oRs_7.after, Region.binds .any ed = true → ∀ s' t', (spRs B ad n c)[ed.on]? = some s' → sRs[ed.on]? = some t' → a.tmps[t']? = some (val ed.on) ∧ s'.p (val ed.on) val x) : Yld Try.prog R oRs_7 a x 7 (fun v x' => (sE 5).p v val x' ∧ (7 ∈ ([2, 5] : List Nat) → x.heap.size ≤ blkV v ∧ blkV v < x'.heap.size)) := by
  obtain ⟨t5, f5⟩ := dep ⟨5, .data⟩ (by simp [oRs_7]) rfl _ 51 rfl rfl
  exact yld_run (x' := x) rfl (by rw [← tmp_eval t5]; rfl) (Q.refl x) ⟨rfl, fun h => absurd h (by decide)⟩
theorem hopRs {a0 : Act} {w : World} {B : Nat} {ad : Option Addr} {n c : Nat} (E : EnvRs a0 w B ad n c) {R : Exit → Act → World → Prop} : ∀ (i t : Nat) (o : Oper) (sp : Sp2) (a : Act) (x : World) (val : Nat → Value), sRs[i]? = some t → opsRs[i]? = some o → (spRs B ad n c)[i]? = some sp → Q w x → (∀ j, j ∉ sRs → a.tmps[j]? = a0.tmps[j]?) → (∀ ed ∈ o.after, Region.binds .any ed = true → ∀ s' t', (spRs B ad n c)[ed.on]? = some s' → sRs[ed.on]? = some t' → a.tmps[t']? = some (val ed.on) ∧ s'.p (val ed.on) val x) → Yld Try.prog R o a x t (fun v x' => sp.p v val x' ∧ (i ∈ ([2, 5] : List Nat) → x.heap.size ≤ blkV v ∧ blkV v < x'.heap.size))
  | 0, t, o, sp, a, x, val, ht, ho, hs, q, oth, dep => by
    have e1 : oRs_0 = o := Option.some.inj ho
    have e2 : 46 = t := Option.some.inj ht
    have e3 := Option.some.inj hs
    subst e1 e2 e3
    exact yRs_0 E q oth dep
  | 1, t, o, sp, a, x, val, ht, ho, hs, q, oth, dep => by
    have e1 : oRs_1 = o := Option.some.inj ho
    have e2 : 47 = t := Option.some.inj ht
    have e3 := Option.some.inj hs
    subst e1 e2 e3
    exact yRs_1 E q oth dep
  | 2, t, o, sp, a, x, val, ht, ho, hs, q, oth, dep => by
    have e1 : oRs_2 = o := Option.some.inj ho
    have e2 : 48 = t := Option.some.inj ht
    have e3 := Option.some.inj hs
    subst e1 e2 e3
    exact yRs_2 E q oth dep
  | 3, t, o, sp, a, x, val, ht, ho, hs, q, oth, dep => by
    have e1 : oRs_3 = o := Option.some.inj ho
    have e2 : 49 = t := Option.some.inj ht
    have e3 := Option.some.inj hs
    subst e1 e2 e3
    exact yRs_3 E q oth dep
  | 4, t, o, sp, a, x, val, ht, ho, hs, q, oth, dep => by
    have e1 : oRs_4 = o := Option.some.inj ho
    have e2 : 50 = t := Option.some.inj ht
    have e3 := Option.some.inj hs
    subst e1 e2 e3
    exact yRs_4 E q oth dep
  | 5, t, o, sp, a, x, val, ht, ho, hs, q, oth, dep => by
    have e1 : oRs_5 = o := Option.some.inj ho
    have e2 : 51 = t := Option.some.inj ht
    have e3 := Option.some.inj hs
    subst e1 e2 e3
    exact yRs_5 E q oth dep
  | 6, t, o, sp, a, x, val, ht, ho, hs, q, oth, dep => by
    have e1 : oRs_6 = o := Option.some.inj ho
    have e2 : 6 = t := Option.some.inj ht
    have e3 := Option.some.inj hs
    subst e1 e2 e3
    exact yRs_6 E q oth dep
  | 7, t, o, sp, a, x, val, ht, ho, hs, q, oth, dep => by
    have e1 : oRs_7 = o := Option.some.inj ho
    have e2 : 7 = t := Option.some.inj ht
    have e3 := Option.some.inj hs
    subst e1 e2 e3
    exact yRs_7 E q oth dep
  | i + 8, t, o, sp, a, x, val, ht, ho, hs, q, oth, dep => by cases ho
set_option maxHeartbeats 1000000 in
theorem regionRs {id : Nat} {l : List Oper} {R : Exit → Act → World → Prop} {a0 : Act} {w : World} {B : Nat} {ad : Option Addr} {n c : Nat} (hl : l = opsRs) (hsz : a0.tmps.size = 119) (E : EnvRs a0 w B ad n c)
    (hR : ∀ x g gr, Q w x → B ≤ g → B ≤ gr → g ≠ gr → g < x.heap.size → gr < x.heap.size → IRow x g (List.replicate n 0) → IRow x gr (List.replicate n 0) → R .normal (putAll a0 [(46, .slice ad n c), (47, .int .i64 (n : Int)), (48, .slice (some ⟨g, 0, none⟩) n n), (49, .slice ad n c), (50, .int .i64 (n : Int)), (51, .slice (some ⟨gr, 0, none⟩) n n), (6, .slice (some ⟨g, 0, none⟩) n n), (7, .slice (some ⟨gr, 0, none⟩) n n)]) x) :
    (Code.region id l.toArray true).wp Try.prog R a0 w := by
  subst hl
  refine wp_region_new sRs (spRs B ad n c) [[], [], [], [], [], [], [2], [5]] [2, 5] (by kernel_rfl) (by decide +kernel) (by decide +kernel) rfl (fun t ht => ?_) (hopRs E) (fun a x val q size defers other facts apart => ?_)
  · rw [hsz]
    revert t
    decide
  · obtain ⟨t0, f0⟩ := facts 0 46 _ rfl rfl
    have f0 : val 0 = (.slice ad n c) := f0
    rw [f0] at t0
    obtain ⟨t1, f1⟩ := facts 1 47 _ rfl rfl
    have f1 : val 1 = (.int .i64 (n : Int)) := f1
    rw [f1] at t1
    obtain ⟨t2, f2⟩ := facts 2 48 _ rfl rfl
    obtain ⟨t3, f3⟩ := facts 3 49 _ rfl rfl
    have f3 : val 3 = (.slice ad n c) := f3
    rw [f3] at t3
    obtain ⟨t4, f4⟩ := facts 4 50 _ rfl rfl
    have f4 : val 4 = (.int .i64 (n : Int)) := f4
    rw [f4] at t4
    obtain ⟨t5, f5⟩ := facts 5 51 _ rfl rfl
    obtain ⟨t6, f6⟩ := facts 6 6 _ rfl rfl
    have f6 : val 6 = val 2 := f6
    obtain ⟨t7, f7⟩ := facts 7 7 _ rfl rfl
    have f7 : val 7 = val 5 := f7
    obtain ⟨g, e2, a1, a2, a3⟩ := f2
    obtain ⟨gr, e5, b1, b2, b3⟩ := f5
    have ap := apart 2 5 (by simp) (by simp) (by decide) (by decide) (by decide)
    rw [e2, e5] at ap
    rw [f6, e2] at t6
    rw [f7, e5] at t7
    rw [e2] at t2
    rw [e5] at t5
    have hA := act_puts (a := a) (a0 := a0) [(46, .slice ad n c), (47, .int .i64 (n : Int)), (48, .slice (some ⟨g, 0, none⟩) n n), (49, .slice ad n c), (50, .int .i64 (n : Int)), (51, .slice (some ⟨gr, 0, none⟩) n n), (6, .slice (some ⟨g, 0, none⟩) n n), (7, .slice (some ⟨gr, 0, none⟩) n n)] (show ([46, 47, 48, 49, 50, 51, 6, 7] : List Nat).Nodup by decide) size defers (fun j hj => other j (by simpa [sRs] using hj)) (fun r hr => ?_)
    · refine ⟨?_⟩
      rw [hA]
      exact hR x g gr q a1 b1 ap a2 b2 a3 b3
    · simp only [List.mem_cons, List.not_mem_nil, or_false] at hr
      rcases hr with rfl | rfl | rfl | rfl | rfl | rfl | rfl | rfl
      · exact t0
      · exact t1
      · exact t2
      · exact t3
      · exact t4
      · exact t5
      · exact t6
      · exact t7
set_option maxRecDepth 100000 in
theorem normRs {t0 t1 t2 t3 t4 t5 t6 t7 t8 t9 t10 t11 t12 t13 t14 t15 t16 t17 t18 t19 t20 t21 t22 t23 t24 t25 t26 t27 t28 t29 t30 t31 t32 t33 t34 t35 t36 t37 t38 t39 t40 t41 t42 t43 t44 t45 t46 t47 t48 t49 t50 t51 t52 t53 t54 t55 t56 t57 t58 t59 t60 t61 t62 t63 t64 t65 t66 t67 t68 t69 t70 t71 t72 t73 t74 t75 t76 t77 t78 t79 t80 t81 t82 t83 t84 t85 t86 t87 t88 t89 t90 t91 t92 t93 t94 t95 t96 t97 t98 t99 t100 t101 t102 t103 t104 t105 t106 t107 t108 t109 t110 t111 t112 t113 t114 t115 t116 t117 t118 v46 v47 v48 v49 v50 v51 v6 v7 : Value} {d : List Deferred} : putAll ⟨#[t0, t1, t2, t3, t4, t5, t6, t7, t8, t9, t10, t11, t12, t13, t14, t15, t16, t17, t18, t19, t20, t21, t22, t23, t24, t25, t26, t27, t28, t29, t30, t31, t32, t33, t34, t35, t36, t37, t38, t39, t40, t41, t42, t43, t44, t45, t46, t47, t48, t49, t50, t51, t52, t53, t54, t55, t56, t57, t58, t59, t60, t61, t62, t63, t64, t65, t66, t67, t68, t69, t70, t71, t72, t73, t74, t75, t76, t77, t78, t79, t80, t81, t82, t83, t84, t85, t86, t87, t88, t89, t90, t91, t92, t93, t94, t95, t96, t97, t98, t99, t100, t101, t102, t103, t104, t105, t106, t107, t108, t109, t110, t111, t112, t113, t114, t115, t116, t117, t118], d⟩ [(46, v46), (47, v47), (48, v48), (49, v49), (50, v50), (51, v51), (6, v6), (7, v7)] = ⟨#[t0, t1, t2, t3, t4, t5, v6, v7, t8, t9, t10, t11, t12, t13, t14, t15, t16, t17, t18, t19, t20, t21, t22, t23, t24, t25, t26, t27, t28, t29, t30, t31, t32, t33, t34, t35, t36, t37, t38, t39, t40, t41, t42, t43, t44, t45, v46, v47, v48, v49, v50, v51, t52, t53, t54, t55, t56, t57, t58, t59, t60, t61, t62, t63, t64, t65, t66, t67, t68, t69, t70, t71, t72, t73, t74, t75, t76, t77, t78, t79, t80, t81, t82, t83, t84, t85, t86, t87, t88, t89, t90, t91, t92, t93, t94, t95, t96, t97, t98, t99, t100, t101, t102, t103, t104, t105, t106, t107, t108, t109, t110, t111, t112, t113, t114, t115, t116, t117, t118], d⟩ := by
  kernel_rfl
end Go.Proofs.Ytgajobomimcoaaa

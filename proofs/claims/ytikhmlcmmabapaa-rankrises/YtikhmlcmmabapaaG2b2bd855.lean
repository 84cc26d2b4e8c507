/- A region that draws its order, by what holds of the operations that have come up, of what they told, and of the world. -/
import Derived.Test.YtikhmlcmmabapaaG041ef13a
namespace Go.Proofs.Ytikhmlcmmabapaa
open Go.RowKit
set_option linter.unusedVariables false
set_option linter.unusedSimpArgs false

def upd {α : Type} (f : Nat → α) (i : Nat) (v : α) : Nat → α := fun j => if j = i then v else f j
theorem upd_eq {α : Type} (f : Nat → α) (i : Nat) (v : α) : upd f i v i = v := by unfold upd; rw [if_pos rfl]
theorem upd_ne {α : Type} (f : Nat → α) {i j : Nat} (v : α) (h : j ≠ i) : upd f i v j = f j := by unfold upd; rw [if_neg h]
theorem wpAny_invS {P : Program} {ops : Array Oper} {R : Exit → Act → World → Prop} (Inv : Array Bool → Act → World → Prop)
    (hs : ∀ lst a w i o, Inv lst a w → ops[i]? = some o → lst.getD i true = false → (∀ e ∈ o.after, Region.binds .any e = true → lst.getD e.on false = true) → (Region.wanted o (yielded ops a.tmps) = true → o.wp P a w (fun a' w' => Inv (lst.setIfInBounds i true) a' w') R) ∧ (Region.wanted o (yielded ops a.tmps) = false → Inv (lst.setIfInBounds i true) (a.put o.dst undef) w))
    (he : ∀ lst a w, Inv lst a w → (∀ i o, ops[i]? = some o → (∀ e ∈ o.after, Region.binds .any e = true → lst.getD e.on false = true) → lst.getD i true = true) → R .normal a w) :
    ∀ (fuel : Nat) (lst : Array Bool) (a : Act) (w : World), Inv lst a w → lst.toList.countP (· == false) ≤ fuel → wpAny P .any ops R fuel lst a w := by
  have done : ∀ (lst : Array Bool) (a : Act) (w : World), Inv lst a w → Region.ready .any ops lst = [] → R .normal a w := fun lst a w h hr => he lst a w h (fun i o ho hd => by
    cases hc : lst.getD i true with
    | true => rfl
    | false =>
      have : i ∈ Region.ready .any ops lst := mem_ready.2 ⟨hc, o, ho, hd⟩
      rw [hr] at this
      cases this)
  intro fuel
  induction fuel with
  | zero =>
    intro lst a w h hc
    have hr : Region.ready .any ops lst = [] := by
      cases hr : Region.ready .any ops lst with
      | nil => rfl
      | cons j js =>
        have : j ∈ Region.ready .any ops lst := by rw [hr]; exact List.mem_cons_self
        have := ready_pos (mem_ready.1 this).1
        omega
    exact ⟨hr, done lst a w h hr⟩
  | succ fuel ih =>
    intro lst a w h hc
    refine ⟨done lst a w h, fun i hi => ?_⟩
    obtain ⟨h1, o, ho, h2⟩ := mem_ready.1 hi
    obtain ⟨hy, hn⟩ := hs lst a w i o h ho h1 h2
    have hcs := count_set h1
    unfold wpOp
    rw [ho]
    simp only
    cases hw : Region.wanted o (yielded ops a.tmps) with
    | true =>
      rw [if_pos rfl]
      exact Or.inl (Oper.wp_mono (fun a' w' h' => ih _ a' w' h' (by omega)) (hy hw))
    | false =>
      rw [if_neg (by decide)]
      exact ih _ _ _ (hn hw) (by omega)
/-- The slot that an operation fills. -/
def dstOf (l : List Oper) (i : Nat) : Option Nat := (l[i]?).bind (fun o : Oper => o.dst)
theorem dstOf_at {l : List Oper} {i : Nat} {o : Oper} (h : l[i]? = some o) : dstOf l i = o.dst := by unfold dstOf; rw [h]; rfl
/-- Each operation waits for earlier ones alone, and for what guards it; no two fill one slot. -/
def regS (l : List Oper) : Bool := (List.range l.length).all fun k => match l[k]? with
  | some o => (match o.guard with | none => true | some (g, _) => o.after.toList.any (fun e => Region.binds .any e && (e.on == g)) && (dstOf l g).isSome) && ((o.after.toList.all fun e => !(Region.binds .any e) || decide (e.on < k)) && (List.range k).all fun j => match o.dst, dstOf l j with | some t, some u => t != u | _, _ => true)
  | none => true
theorem regS_at {l : List Oper} (h : regS l = true) {k : Nat} {o : Oper} (hk : l[k]? = some o) : (∀ g b, o.guard = some (g, b) → (∃ e ∈ o.after, Region.binds .any e = true ∧ e.on = g) ∧ ∃ t, dstOf l g = some t) ∧ (∀ e ∈ o.after, Region.binds .any e = true → e.on < k) ∧ (∀ j t, j < k → o.dst = some t → dstOf l j ≠ some t) := by
  have hlt : k < l.length := (List.getElem?_eq_some_iff.1 hk).1
  have h1 := List.all_eq_true.1 h k (List.mem_range.2 hlt)
  rw [hk] at h1
  simp only [Bool.and_eq_true] at h1
  refine ⟨fun g b hgd => ?_, fun e he hb => ?_, fun j t hj ht hc => ?_⟩
  · have h2 := h1.1
    rw [hgd] at h2
    simp only [Bool.and_eq_true] at h2
    obtain ⟨e, he, h3⟩ := List.any_eq_true.1 h2.1
    rw [Bool.and_eq_true] at h3
    exact ⟨⟨e, by simpa using he, h3.1, by simpa using h3.2⟩, Option.isSome_iff_exists.1 h2.2⟩
  · have h2 := List.all_eq_true.1 h1.2.1 e (by simpa using he)
    rw [hb] at h2
    simpa using h2
  · have h2 := List.all_eq_true.1 h1.2.2 j (List.mem_range.2 hj)
    rw [ht, hc] at h2
    simp at h2
/-- Does one operation wait for another? -/
def waits (l : List Oper) (k i : Nat) : Bool := match l[k]? with
  | some o => o.after.toList.any fun e => Region.binds .any e && (e.on == i)
  | none => false
structure Slots (I : (Nat → Bool) → (Nat → Value) → World → Prop) (a0 : Act) (l : List Oper) (lst : Array Bool) (a : Act) (x : World) (val : Nat → Value) : Prop where
  size : a.tmps.size = a0.tmps.size
  defers : a.defers = a0.defers
  other : ∀ j, (∀ k, dstOf l k ≠ some j) → a.tmps[j]? = a0.tmps[j]?
  ls : lst.size = l.length
  vals : ∀ j t, lst.getD j false = true → dstOf l j = some t → a.tmps[t]? = some (val j)
  fresh : ∀ j t, lst.getD j false = false → dstOf l j = some t → a.tmps[t]? = a0.tmps[t]?
  closed : ∀ (j : Nat) (o : Oper), lst.getD j false = true → l[j]? = some o → ∀ e ∈ o.after, Region.binds .any e = true → lst.getD e.on false = true
  inv : I (fun i => lst.getD i false) val x
theorem set_upd {lst : Array Bool} {i : Nat} (h : i < lst.size) : (fun j => (lst.setIfInBounds i true).getD j false) = upd (fun j => lst.getD j false) i true := by
  funext j
  by_cases e : j = i
  · subst e; rw [upd_eq]; exact set_eq h
  · rw [upd_ne _ _ e]; exact set_ne (fun e' => e e'.symm)
theorem dst_inj {l : List Oper} (hB : regS l = true) {i j : Nat} {t : Nat} (hi : dstOf l i = some t) (hj : dstOf l j = some t) : i = j := by
  have key : ∀ i j, i < j → dstOf l i = some t → dstOf l j = some t → False := fun i j h hi hj => by
    cases hl : l[j]? with
    | none => unfold dstOf at hj; rw [hl] at hj; cases hj
    | some o =>
      rw [dstOf_at hl] at hj
      exact (regS_at hB hl).2.2 i t h hj hi
  rcases Nat.lt_trichotomy i j with h | h | h
  · exact (key i j h hi hj).elim
  · exact h
  · exact (key j i h hj hi).elim
theorem slots_put {I : (Nat → Bool) → (Nat → Value) → World → Prop} {a0 : Act} {l : List Oper} {lst : Array Bool} {a : Act} {x x' : World} {val : Nat → Value} (T : Slots I a0 l lst a x val) (hB : regS l = true) (hmax : ∀ i t, dstOf l i = some t → t < a0.tmps.size) {i : Nat} {o : Oper} (ho : l[i]? = some o) (v : Value) (hdep : ∀ e ∈ o.after, Region.binds .any e = true → lst.getD e.on false = true) (hI : I (upd (fun j => lst.getD j false) i true) (upd val i v) x') :
    Slots I a0 l (lst.setIfInBounds i true) (a.put o.dst v) x' (upd val i v) := by
  have hil : i < l.length := (List.getElem?_eq_some_iff.1 ho).1
  have hid : dstOf l i = o.dst := dstOf_at ho
  refine ⟨?_, ?_, fun j hj => ?_, by rw [Array.size_setIfInBounds]; exact T.ls, fun j t hlj hjt => ?_, fun j t hlj hjt => ?_, closed_set ho T.closed hdep, by rw [set_upd (by rw [T.ls]; exact hil)]; exact hI⟩
  · cases hd : o.dst with
    | none => exact T.size
    | some t => exact (Array.size_setIfInBounds).trans T.size
  · cases hd : o.dst with
    | none => exact T.defers
    | some t => exact T.defers
  · cases hd : o.dst with
    | none => exact T.other j hj
    | some t =>
      refine (Array.getElem?_setIfInBounds_ne (fun e => hj i ?_)).trans (T.other j hj)
      rw [hid, hd, e]
  · by_cases e : j = i
    · subst e
      rw [hid] at hjt
      rw [hjt, upd_eq]
      exact Array.getElem?_setIfInBounds_self_of_lt (by rw [T.size]; exact hmax j t (by rw [hid]; exact hjt))
    · rw [set_ne (fun e' => e e'.symm)] at hlj
      rw [upd_ne _ _ e]
      cases hd : o.dst with
      | none => exact T.vals j t hlj hjt
      | some t' =>
        refine (Array.getElem?_setIfInBounds_ne (fun e' => e ?_)).trans (T.vals j t hlj hjt)
        subst e'
        exact dst_inj hB hjt (by rw [hid]; exact hd)
  · by_cases e : j = i
    · subst e
      rw [set_eq (by rw [T.ls]; exact hil)] at hlj
      cases hlj
    · rw [set_ne (fun e' => e e'.symm)] at hlj
      cases hd : o.dst with
      | none => exact T.fresh j t hlj hjt
      | some t' =>
        refine (Array.getElem?_setIfInBounds_ne (fun e' => e ?_)).trans (T.fresh j t hlj hjt)
        subst e'
        exact dst_inj hB hjt (by rw [hid]; exact hd)
set_option maxHeartbeats 1000000 in
theorem wp_region_slotsF {P : Program} {id : Nat} {R : Exit → Act → World → Prop} {a0 : Act} {w : World} {l : List Oper} (I : (Nat → Bool) → (Nat → Value) → World → Prop)
    (hm : P.follows .mixedOrders = true) (hB : regS l = true) (hmax : ∀ i t, dstOf l i = some t → t < a0.tmps.size)
    (h0 : I (fun _ => false) (fun _ => undef) w.drew)
    (hop : ∀ i o (a : Act) x (done : Nat → Bool) (val : Nat → Value), l[i]? = some o → done i = false → (∀ e ∈ o.after, Region.binds .any e = true → done e.on = true) → I done val x → (∀ j, (∀ k, dstOf l k ≠ some j) → a.tmps[j]? = a0.tmps[j]?) → (∀ j t, done j = true → dstOf l j = some t → a.tmps[t]? = some (val j)) → (∀ g b, o.guard = some (g, b) → val g = .bool b) → (∀ j t, waits l j i = true → dstOf l j = some t → a.tmps[t]? = a0.tmps[t]?) →
      Shut (o.wp P a x (fun a' x' => ∃ v, a' = a.put o.dst v ∧ I (upd done i true) (upd val i v) x') R))
    (hskip : ∀ i o x (done : Nat → Bool) (val : Nat → Value) g b, l[i]? = some o → done i = false → (∀ e ∈ o.after, Region.binds .any e = true → done e.on = true) → I done val x → o.guard = some (g, b) → val g ≠ .bool b → I (upd done i true) (upd val i undef) x)
    (hend : ∀ (a : Act) x (val : Nat → Value), I (fun i => decide (i < l.length)) val x → a.tmps.size = a0.tmps.size → a.defers = a0.defers → (∀ j, (∀ k, dstOf l k ≠ some j) → a.tmps[j]? = a0.tmps[j]?) → (∀ j t, dstOf l j = some t → a.tmps[t]? = some (val j)) → Shut (R .normal a x)) :
    (Code.region id l.toArray true).wp P R a0 w := by
  have get : ∀ k, l.toArray[k]? = l[k]? := fun k => List.getElem?_toArray
  have hc := List.countP_le_length (l := (Array.replicate l.toArray.size false).toList) (p := (· == false))
  refine wp_region_any hm (wpAny_invS (fun lst a x => ∃ val, Slots I a0 l lst a x val) ?_ ?_ _ _ _ _ ?_ (by simpa using hc))
  · rintro lst a x i o ⟨val, T⟩ ho hl hdep
    rw [get] at ho
    obtain ⟨hg, hdl, hds⟩ := regS_at hB ho
    have hil : i < l.length := (List.getElem?_eq_some_iff.1 ho).1
    have hlf : (fun j => lst.getD j false) i = false := not_got hl
    have gval : ∀ g b, o.guard = some (g, b) → ∃ t, dstOf l g = some t ∧ a.tmps[t]? = some (val g) := fun g b hgd => by
      obtain ⟨⟨e, he, hb, hon⟩, t, ht⟩ := hg g b hgd
      have := hdep e he hb
      rw [hon] at this
      exact ⟨t, ht, T.vals g t this ht⟩
    have hyl : ∀ g b, o.guard = some (g, b) → (Region.wanted o (yielded l.toArray a.tmps) = true ↔ val g = .bool b) := fun g b hgd => by
      obtain ⟨t, ht, hv⟩ := gval g b hgd
      unfold Region.wanted
      rw [hgd]
      simp only [yielded]
      rw [get]
      unfold dstOf at ht
      rw [ht]
      simp only [Option.bind_some]
      rw [hv]
      cases hval : val g <;> simp
    have hfr : ∀ j t, waits l j i = true → dstOf l j = some t → a.tmps[t]? = a0.tmps[t]? := fun j t hwt hjt => by
      refine T.fresh j t ?_ hjt
      cases hdj : lst.getD j false with
      | false => rfl
      | true =>
        exfalso
        unfold waits at hwt
        cases hl' : l[j]? with
        | none => rw [hl'] at hwt; cases hwt
        | some oj =>
          rw [hl'] at hwt
          obtain ⟨e, he, h1⟩ := List.any_eq_true.1 hwt
          rw [Bool.and_eq_true] at h1
          have h2 := T.closed j oj hdj hl' e (by simpa using he) h1.1
          have h3 : e.on = i := by simpa using h1.2
          rw [h3] at h2
          have h4 : lst.getD i false = false := hlf
          rw [h4] at h2
          cases h2
    refine ⟨fun hw => ?_, fun hw => ?_⟩
    · have := (hop i o a x (fun j => lst.getD j false) val ho hlf hdep T.inv T.other T.vals (fun g b hgd => (hyl g b hgd).1 hw) hfr).out
      refine Oper.wp_mono ?_ this
      rintro a' x' ⟨v, rfl, hI⟩
      exact ⟨_, slots_put T hB hmax ho v hdep hI⟩
    · cases hgd : o.guard with
      | none => unfold Region.wanted at hw; rw [hgd] at hw; cases hw
      | some gb =>
        obtain ⟨g, b⟩ := gb
        refine ⟨_, slots_put T hB hmax ho undef hdep (hskip i o x _ val g b ho hlf hdep T.inv hgd (fun e => ?_))⟩
        rw [(hyl g b hgd).2 e] at hw
        cases hw
  · rintro lst a x ⟨val, T⟩ hno
    have all : ∀ j, j < l.length → lst.getD j false = true := by
      intro j
      induction j using Nat.strongRecOn with
      | ind j ih =>
        intro hj
        obtain ⟨o, ho⟩ : ∃ o, l[j]? = some o := ⟨_, List.getElem?_eq_getElem hj⟩
        refine got_of (hno j o (by rw [get]; exact ho) (fun e he hb => ?_)) (by rw [T.ls]; exact hj)
        have := (regS_at hB ho).2.1 e he hb
        exact ih e.on this (by omega)
    have hall : (fun i => lst.getD i false) = (fun i => decide (i < l.length)) := by
      funext j
      by_cases hj : j < l.length
      · rw [all j hj, decide_eq_true hj]
      · rw [decide_eq_false hj, Array.getD_eq_getD_getElem?, Array.getElem?_eq_none (by rw [T.ls]; omega)]; rfl
    refine (hend a x val (by rw [← hall]; exact T.inv) T.size T.defers T.other (fun j t hjt => T.vals j t (all j ?_) hjt)).out
    cases hl : l[j]? with
    | none => unfold dstOf at hjt; rw [hl] at hjt; cases hjt
    | some o => exact (List.getElem?_eq_some_iff.1 hl).1
  · refine ⟨fun _ => undef, rfl, rfl, fun _ _ => rfl, by simp, fun j t hj => ?_, fun _ _ _ _ => rfl, fun j o hj => ?_, ?_⟩
    · rw [Array.getD_eq_getD_getElem?, Array.getElem?_replicate] at hj
      split at hj <;> cases hj
    · rw [Array.getD_eq_getD_getElem?, Array.getElem?_replicate] at hj
      split at hj <;> cases hj
    · have : (fun i => (Array.replicate l.toArray.size false).getD i false) = fun _ => false := by
        funext j
        rw [Array.getD_eq_getD_getElem?, Array.getElem?_replicate]
        split <;> rfl
      rw [this]
      exact h0
theorem wp_region_slots {P : Program} {id : Nat} {R : Exit → Act → World → Prop} {a0 : Act} {w : World} {l : List Oper} (I : (Nat → Bool) → (Nat → Value) → World → Prop)
    (hm : P.follows .mixedOrders = true) (hB : regS l = true) (hmax : ∀ i t, dstOf l i = some t → t < a0.tmps.size)
    (h0 : I (fun _ => false) (fun _ => undef) w.drew)
    (hop : ∀ i o (a : Act) x (done : Nat → Bool) (val : Nat → Value), l[i]? = some o → done i = false → (∀ e ∈ o.after, Region.binds .any e = true → done e.on = true) → I done val x → (∀ j, (∀ k, dstOf l k ≠ some j) → a.tmps[j]? = a0.tmps[j]?) → (∀ j t, done j = true → dstOf l j = some t → a.tmps[t]? = some (val j)) → (∀ g b, o.guard = some (g, b) → val g = .bool b) →
      Shut (o.wp P a x (fun a' x' => ∃ v, a' = a.put o.dst v ∧ I (upd done i true) (upd val i v) x') R))
    (hskip : ∀ i o x (done : Nat → Bool) (val : Nat → Value) g b, l[i]? = some o → done i = false → (∀ e ∈ o.after, Region.binds .any e = true → done e.on = true) → I done val x → o.guard = some (g, b) → val g ≠ .bool b → I (upd done i true) (upd val i undef) x)
    (hend : ∀ (a : Act) x (val : Nat → Value), I (fun i => decide (i < l.length)) val x → a.tmps.size = a0.tmps.size → a.defers = a0.defers → (∀ j, (∀ k, dstOf l k ≠ some j) → a.tmps[j]? = a0.tmps[j]?) → (∀ j t, dstOf l j = some t → a.tmps[t]? = some (val j)) → Shut (R .normal a x)) :
    (Code.region id l.toArray true).wp P R a0 w :=
  wp_region_slotsF I hm hB hmax h0 (fun i o a x done val h1 h2 h3 h4 h5 h6 h7 _ => hop i o a x done val h1 h2 h3 h4 h5 h6 h7) hskip hend
end Go.Proofs.Ytikhmlcmmabapaa
/- A region that draws its order: operations that come up in whatever order, each with a fact that lasts (it may speak of what those told that it waits for); blocks that are made lie apart. -/
namespace Go.Proofs.Ytikhmlcmmabapaa
open Go.RowKit
set_option linter.unusedVariables false
set_option linter.unusedSimpArgs false

/-- The block that a slice or a pointer is at. -/
def blkV : Value → Nat
  | .slice (some a) _ _ => a.block
  | .pointer (some a) => a.block
  | _ => 0
/-- What is told of a value, where others (deps) may be named. -/
structure Sp2 where
  p : Value → (Nat → Value) → World → Prop
  deps : List Nat
  st : ∀ {v : Value} {val val' : Nat → Value} {x x' : World}, p v val x → Q x x' → (∀ j ∈ deps, val' j = val j) → p v val' x'
def sV (u : Value) : Sp2 := ⟨fun v _ _ => v = u, [], fun h _ _ => h⟩
def sE (j : Nat) : Sp2 := ⟨fun v val _ => v = val j, [j], fun h _ e => h.trans (e j (by simp)).symm⟩
def sP (p : Value → World → Prop) (st : ∀ v x x', p v x → Q x x' → p v x') : Sp2 := ⟨fun v _ x => p v x, [], fun h q _ => st _ _ _ h q⟩
/-- Each operation fills a slot, is not guarded, and what is told of it names what it waits for. -/
def newB (l : List Oper) (D : List (List Nat)) (s : List Nat) : Bool := (D.length == l.length) && ((s.length == l.length) && (List.range l.length).all fun k => match l[k]? with
  | some o => o.guard.isNone && ((o.dst == s[k]?) && (D.getD k []).all fun j => decide (j < k) && o.after.toList.any fun e => Region.binds .any e && (e.on == j))
  | none => true)
structure InvN (l : List Oper) (L : List Sp2) (A : List Nat) (w : World) (done : Nat → Bool) (val : Nat → Value) (x : World) : Prop where
  q : Q w x
  f : ∀ i s, L[i]? = some s → done i = true → s.p (val i) val x
  lt : ∀ i, i ∈ A → done i = true → blkV (val i) < x.heap.size
  ap : ∀ i j, i ∈ A → j ∈ A → i ≠ j → done i = true → done j = true → blkV (val i) ≠ blkV (val j)
  cl : ∀ i o, l[i]? = some o → done i = true → ∀ e ∈ o.after, Region.binds .any e = true → done e.on = true
set_option maxHeartbeats 1000000 in
theorem wp_region_new {P : Program} {id : Nat} {R : Exit → Act → World → Prop} {a0 : Act} {w : World} {l : List Oper} (s : List Nat) (L : List Sp2) (D : List (List Nat)) (A : List Nat)
    (hm : P.follows .mixedOrders = true) (hB : regS l = true) (hN : newB l D s = true) (hD : L.map (·.deps) = D) (hmax : ∀ t ∈ s, t < a0.tmps.size)
    (hop : ∀ i t o sp (a : Act) x (val : Nat → Value), s[i]? = some t → l[i]? = some o → L[i]? = some sp → Q w x → (∀ j, j ∉ s → a.tmps[j]? = a0.tmps[j]?) → (∀ e ∈ o.after, Region.binds .any e = true → ∀ s' t', L[e.on]? = some s' → s[e.on]? = some t' → a.tmps[t']? = some (val e.on) ∧ s'.p (val e.on) val x) →
      Yld P R o a x t (fun v x' => sp.p v val x' ∧ (i ∈ A → x.heap.size ≤ blkV v ∧ blkV v < x'.heap.size)))
    (hend : ∀ (a : Act) x (val : Nat → Value), Q w x → a.tmps.size = a0.tmps.size → a.defers = a0.defers → (∀ j, j ∉ s → a.tmps[j]? = a0.tmps[j]?) → (∀ i t sp, s[i]? = some t → L[i]? = some sp → a.tmps[t]? = some (val i) ∧ sp.p (val i) val x) → (∀ i j, i ∈ A → j ∈ A → i < l.length → j < l.length → i ≠ j → blkV (val i) ≠ blkV (val j)) → Shut (R .normal a x)) :
    (Code.region id l.toArray true).wp P R a0 w := by
  unfold newB at hN
  simp only [Bool.and_eq_true, beq_iff_eq] at hN
  obtain ⟨hDl, hsl, hall⟩ := hN
  have hLl : L.length = l.length := by rw [← hDl, ← hD]; simp
  have at_ : ∀ k o, l[k]? = some o → o.guard = none ∧ o.dst = s[k]? ∧ ∀ j ∈ D.getD k [], j < k ∧ ∃ e ∈ o.after, Region.binds .any e = true ∧ e.on = j := fun k o hk => by
    have g := List.all_eq_true.1 hall k (List.mem_range.2 (List.getElem?_eq_some_iff.1 hk).1)
    rw [hk] at g
    simp only [Bool.and_eq_true, beq_iff_eq] at g
    refine ⟨by simpa using g.1, g.2.1, fun j hj => ?_⟩
    have h := List.all_eq_true.1 g.2.2 j hj
    rw [Bool.and_eq_true] at h
    obtain ⟨e, he, hb⟩ := List.any_eq_true.1 h.2
    rw [Bool.and_eq_true] at hb
    exact ⟨by simpa using h.1, e, by simpa using he, hb.1, by simpa using hb.2⟩
  have dst_s : ∀ k t, dstOf l k = some t ↔ s[k]? = some t := fun k t => by
    cases hk : l[k]? with
    | none =>
      have : l.length ≤ k := by
        rcases Nat.lt_or_ge k l.length with c | c
        · rw [List.getElem?_eq_getElem c] at hk; cases hk
        · exact c
      rw [List.getElem?_eq_none (by omega)]
      unfold dstOf
      rw [hk]
      exact Iff.rfl
    | some o => rw [dstOf_at hk, (at_ k o hk).2.1]
  have mem_s : ∀ j, (∀ k, dstOf l k ≠ some j) ↔ j ∉ s := fun j => by
    constructor
    · intro h hm
      obtain ⟨k, hk⟩ := List.getElem?_of_mem hm
      exact h k ((dst_s k j).2 hk)
    · intro h k e
      exact h (List.mem_of_getElem? ((dst_s k j).1 e))
  have depsD : ∀ k sp, L[k]? = some sp → sp.deps = D.getD k [] := fun k sp hk => by
    rw [← hD, List.getD_eq_getElem?_getD, List.getElem?_map, hk]; rfl
  refine wp_region_slots (InvN l L A w) hm hB (fun i t h => hmax t (List.mem_of_getElem? ((dst_s i t).1 h))) ⟨(Q.refl w).drew, fun _ _ _ h => (by cases h), fun _ _ h => (by cases h), fun _ _ _ _ _ h => (by cases h), fun _ _ _ h => (by cases h)⟩ ?_ ?_ ?_
  · intro i o a x done val ho hd hdep I oth vals _
    have hil : i < l.length := (List.getElem?_eq_some_iff.1 ho).1
    obtain ⟨sp, hsp⟩ : ∃ sp, L[i]? = some sp := ⟨_, List.getElem?_eq_getElem (by omega)⟩
    obtain ⟨t, ht⟩ : ∃ t, s[i]? = some t := ⟨_, List.getElem?_eq_getElem (by omega)⟩
    obtain ⟨hg, hdst, hdp⟩ := at_ i o ho
    have hrun := hop i t o sp a x val ht ho hsp I.q (fun j hj => oth j ((mem_s j).2 hj)) (fun e he hb s' t' hs' ht' => ⟨vals e.on t' (hdep e he hb) ((dst_s _ _).2 ht'), I.f e.on s' hs' (hdep e he hb)⟩)
    refine ⟨Oper.wp_mono ?_ hrun.out⟩
    rintro a' x' ⟨v, rfl, q', hf, hfA⟩
    refine ⟨v, by rw [hdst, ht], I.q.trans q', fun j sj hsj hdj => ?_, fun j hj hdj => ?_, fun j k hj hk hjk hdj hdk => ?_, fun j o' ho' hdj e he hb => ?_⟩
    · by_cases e : j = i
      · subst e
        rw [hsp] at hsj
        injection hsj with hsj
        subst hsj
        rw [upd_eq]
        refine sp.st hf (Q.refl x') (fun k hk => upd_ne _ _ ?_)
        rw [depsD j sp hsp] at hk
        have := (hdp k hk).1
        omega
      · rw [upd_ne _ _ e] at hdj ⊢
        refine sj.st (I.f j sj hsj hdj) q' (fun k hk => upd_ne _ _ ?_)
        rw [depsD j sj hsj] at hk
        have hjl : j < l.length := by have := (List.getElem?_eq_some_iff.1 hsj).1; omega
        obtain ⟨_, e2, he2, hb2, hk2⟩ := (at_ j _ (List.getElem?_eq_getElem hjl)).2.2 k hk
        have := I.cl j _ (List.getElem?_eq_getElem hjl) hdj e2 he2 hb2
        intro ek
        rw [hk2, ek, hd] at this
        cases this
    · by_cases e : j = i
      · subst e; rw [upd_eq]; exact (hfA hj).2
      · rw [upd_ne _ _ e] at hdj ⊢
        have := I.lt j hj hdj
        have := q'.1.size
        omega
    · by_cases e : j = i
      · subst e
        have ek : k ≠ j := fun h => hjk h.symm
        rw [upd_eq, upd_ne _ _ ek]
        rw [upd_ne _ _ ek] at hdk
        have := I.lt k hk hdk
        have := (hfA hj).1
        omega
      · rw [upd_ne _ _ e] at hdj ⊢
        by_cases ek : k = i
        · subst ek
          rw [upd_eq]
          have := I.lt j hj hdj
          have := (hfA hk).1
          omega
        · rw [upd_ne _ _ ek] at hdk ⊢
          exact I.ap j k hj hk hjk hdj hdk
    · by_cases ee : e.on = i
      · rw [ee, upd_eq]
      · rw [upd_ne _ _ ee]
        by_cases ej : j = i
        · subst ej
          rw [ho] at ho'
          injection ho' with ho'
          subst ho'
          exact hdep e he hb
        · rw [upd_ne _ _ ej] at hdj
          exact I.cl j o' ho' hdj e he hb
  · intro i o x done val g b ho _ _ _ hg _
    rw [(at_ i o ho).1] at hg
    cases hg
  · intro a x val I size defers other facts
    refine hend a x val I.q size defers (fun j hj => other j ((mem_s j).2 hj)) (fun i t sp ht hsp => ⟨facts i t ((dst_s i t).2 ht), I.f i sp hsp (decide_eq_true (by have := (List.getElem?_eq_some_iff.1 hsp).1; omega))⟩) (fun i j hi hj hil hjl hij => I.ap i j hi hj hij (decide_eq_true hil) (decide_eq_true hjl))
end Go.Proofs.Ytikhmlcmmabapaa
/- A region that draws its order: first operations that come up in whatever order, each with a fact that lasts (RegN's), blocks apart; then others, one behind the other. -/
namespace Go.Proofs.Ytikhmlcmmabapaa
open Go.RowKit
set_option linter.unusedVariables false
set_option linter.unusedSimpArgs false

/-- Each of the first n operations fills a slot, and what is told of it names what it waits for. -/
def newBP (l : List Oper) (n : Nat) (D : List (List Nat)) (s : List Nat) : Bool := (D.length == n) && ((s.length == n) && ((decide (n ≤ l.length)) && (List.range n).all fun k => match l[k]? with
  | some o => (o.dst == s[k]?) && (D.getD k []).all fun j => decide (j < k) && o.after.toList.any fun e => Region.binds .any e && (e.on == j)
  | none => true))
structure FactsV (L : List Sp2) (A : List Nat) (w : World) (a0 : Act) (s : List Nat) (l : List Oper) (n : Nat) (lst : Array Bool) (a : Act) (x : World) (val : Nat → Value) : Prop where
  size : a.tmps.size = a0.tmps.size
  defers : a.defers = a0.defers
  other : ∀ j, j ∉ s → a.tmps[j]? = a0.tmps[j]?
  q : Q w x
  ls : lst.size = l.length
  post : ∀ k, n ≤ k → k < l.length → lst.getD k true = false
  closed : ∀ (j : Nat) (o : Oper), lst.getD j false = true → l[j]? = some o → ∀ e ∈ o.after, Region.binds .any e = true → lst.getD e.on false = true
  facts : ∀ i t sp, s[i]? = some t → L[i]? = some sp → lst.getD i false = true → a.tmps[t]? = some (val i) ∧ sp.p (val i) val x
  lt : ∀ i, i ∈ A → lst.getD i false = true → blkV (val i) < x.heap.size
  apart : ∀ i j, i ∈ A → j ∈ A → i ≠ j → lst.getD i false = true → lst.getD j false = true → blkV (val i) ≠ blkV (val j)
set_option maxHeartbeats 2000000 in
theorem wp_region_newP {P : Program} {id : Nat} {R : Exit → Act → World → Prop} {a0 : Act} {w : World} {l : List Oper} (n : Nat) (s : List Nat) (L : List Sp2) (D : List (List Nat)) (A : List Nat)
    (hm : P.follows .mixedOrders = true) (hB : regB l n = true) (hN : newBP l n D s = true) (hD : L.map (·.deps) = D) (hd : s.Nodup) (hmax : ∀ t ∈ s, t < a0.tmps.size)
    (hop : ∀ i t o sp (a : Act) x (val : Nat → Value), s[i]? = some t → l[i]? = some o → L[i]? = some sp → Q w x → (∀ j, j ∉ s → a.tmps[j]? = a0.tmps[j]?) → (∀ e ∈ o.after, Region.binds .any e = true → ∀ s' t', L[e.on]? = some s' → s[e.on]? = some t' → a.tmps[t']? = some (val e.on) ∧ s'.p (val e.on) val x) →
      Yld P R o a x t (fun v x' => sp.p v val x' ∧ (i ∈ A → x.heap.size ≤ blkV v ∧ blkV v < x'.heap.size)))
    (hAn : ∀ i ∈ A, i < n)
    (hend : ∀ (a : Act) x (val : Nat → Value), Q w x → a.tmps.size = a0.tmps.size → a.defers = a0.defers → (∀ j, j ∉ s → a.tmps[j]? = a0.tmps[j]?) → (∀ i t sp, s[i]? = some t → L[i]? = some sp → a.tmps[t]? = some (val i) ∧ sp.p (val i) val x) → (∀ i j, i ∈ A → j ∈ A → i ≠ j → blkV (val i) ≠ blkV (val j)) → Shut (wpPost P R (l.drop n) a x)) :
    (Code.region id l.toArray true).wp P R a0 w := by
  have get : ∀ k, l.toArray[k]? = l[k]? := fun k => List.getElem?_toArray
  unfold newBP at hN
  simp only [Bool.and_eq_true, beq_iff_eq, decide_eq_true_eq] at hN
  obtain ⟨hDl, hsl, hnl, hall⟩ := hN
  have hLl : L.length = n := by rw [← hDl, ← hD]; simp
  have at_ : ∀ k o, k < n → l[k]? = some o → o.dst = s[k]? ∧ ∀ j ∈ D.getD k [], j < k ∧ ∃ e ∈ o.after, Region.binds .any e = true ∧ e.on = j := fun k o hkn hk => by
    have g := List.all_eq_true.1 hall k (List.mem_range.2 hkn)
    rw [hk] at g
    simp only [Bool.and_eq_true, beq_iff_eq] at g
    refine ⟨g.1, fun j hj => ?_⟩
    have h := List.all_eq_true.1 g.2 j hj
    rw [Bool.and_eq_true] at h
    obtain ⟨e, he, hb⟩ := List.any_eq_true.1 h.2
    rw [Bool.and_eq_true] at hb
    exact ⟨by simpa using h.1, e, by simpa using he, hb.1, by simpa using hb.2⟩
  have depsD : ∀ k sp, L[k]? = some sp → sp.deps = D.getD k [] := fun k sp hk => by
    rw [← hD, List.getD_eq_getElem?_getD, List.getElem?_map, hk]; rfl
  refine wp_region_inv (fun lst a x => (∃ val, FactsV L A w a0 s l n lst a x val) ∨ ∃ k, n < k ∧ k ≤ l.length ∧ lst.size = l.length ∧ (∀ i, i < k → lst.getD i true = true) ∧ (∀ i, k ≤ i → i < l.length → lst.getD i true = false) ∧ (∀ (j : Nat) (o : Oper), lst.getD j false = true → l[j]? = some o → ∀ e ∈ o.after, Region.binds .any e = true → lst.getD e.on false = true) ∧ Shut (wpPost P R (l.drop k) a x)) hm ?_ ?_ ?_
  · have none_ : ∀ j, (Array.replicate l.toArray.size false).getD j false = false := fun j => by
      rw [Array.getD_eq_getD_getElem?, Array.getElem?_replicate]
      split <;> rfl
    refine Or.inl ⟨fun _ => undef, rfl, rfl, fun _ _ => rfl, (Q.refl w).drew, by simp, fun k h1 h2 => ?_, fun j o hj _ => ?_, fun i t sp _ _ hl => ?_, fun i _ hl => ?_, fun i j _ _ _ hl => ?_⟩
    · rw [Array.getD_eq_getD_getElem?, Array.getElem?_replicate, if_pos (by simpa using h2)]; rfl
    · rw [none_] at hj; cases hj
    · rw [none_] at hl; cases hl
    · rw [none_] at hl; cases hl
    · rw [none_] at hl; cases hl
  · intro lst a x i o hI ho hl hdep
    rw [get] at ho
    obtain ⟨hg, hdl, hall'⟩ := regB_at hB ho
    have hil : i < l.length := (List.getElem?_eq_some_iff.1 ho).1
    refine ⟨hg, ?_⟩
    rcases hI with ⟨val, T⟩ | ⟨k, hk1, hk2, hls, hk3, hk4, hkc, hw⟩
    · by_cases hin : i < n
      · obtain ⟨t, ht⟩ : ∃ t, s[i]? = some t := ⟨_, List.getElem?_eq_getElem (by omega)⟩
        obtain ⟨sp, hsp⟩ : ∃ sp, L[i]? = some sp := ⟨_, List.getElem?_eq_getElem (by omega)⟩
        have hts : t ∈ s := List.mem_of_getElem? ht
        have inj : ∀ j t', s[j]? = some t' → j ≠ i → t ≠ t' := fun j t' hj hne e => hne (by
          subst e
          obtain ⟨h1, h2⟩ := List.getElem?_eq_some_iff.1 hj
          obtain ⟨h3, h4⟩ := List.getElem?_eq_some_iff.1 ht
          exact (List.getElem_inj hd).1 (h2.trans h4.symm))
        obtain ⟨hdst, hdp⟩ := at_ i o hin ho
        have hd0 : lst.getD i false = false := not_got hl
        have hrun := hop i t o sp a x val ht ho hsp T.q T.other (fun e he hb s' t' hs' ht' => T.facts e.on t' s' ht' hs' (hdep e he hb))
        refine Oper.wp_mono ?_ hrun.out
        rintro a' x' ⟨v, rfl, q', hf, hfA⟩
        refine Or.inl ⟨upd val i v, ?_, T.defers, fun j hj => ?_, T.q.trans q', by rw [Array.size_setIfInBounds]; exact T.ls, fun k h1 h2 => ?_, closed_set ho T.closed hdep, fun j t' sj ht' hsj hlj => ?_, fun j hj hlj => ?_, fun j k hj hk hjk hlj hlk => ?_⟩
        · exact (Array.size_setIfInBounds).trans T.size
        · exact (Array.getElem?_setIfInBounds_ne (fun e => hj (by rw [← e]; exact hts))).trans (T.other j hj)
        · rw [set_ne (by omega)]; exact T.post k h1 h2
        · by_cases e : j = i
          · subst e
            rw [ht] at ht'
            injection ht' with ht'
            subst ht'
            rw [hsp] at hsj
            injection hsj with hsj
            subst hsj
            refine ⟨?_, ?_⟩
            · rw [upd_eq]; exact Array.getElem?_setIfInBounds_self_of_lt (by rw [T.size]; exact hmax t hts)
            · rw [upd_eq]
              refine sp.st hf (Q.refl x') (fun k hk => upd_ne _ _ ?_)
              rw [depsD j sp hsp] at hk
              have := (hdp k hk).1
              omega
          · rw [set_ne (fun e' => e e'.symm)] at hlj
            obtain ⟨h1, h2⟩ := T.facts j t' sj ht' hsj hlj
            rw [upd_ne _ _ e]
            refine ⟨(Array.getElem?_setIfInBounds_ne (inj j t' ht' e)).trans h1, sj.st h2 q' (fun k hk => upd_ne _ _ ?_)⟩
            rw [depsD j sj hsj] at hk
            have hjn : j < n := by have := (List.getElem?_eq_some_iff.1 hsj).1; omega
            have hjl : l[j]? = some (l[j]'(by omega)) := List.getElem?_eq_getElem (by omega)
            obtain ⟨_, e2, he2, hb2, hk2⟩ := (at_ j _ hjn hjl).2 k hk
            have := T.closed j _ hlj hjl e2 he2 hb2
            intro ek
            rw [hk2, ek, hd0] at this
            cases this
        · by_cases e : j = i
          · subst e; rw [upd_eq]; exact (hfA hj).2
          · rw [set_ne (fun e' => e e'.symm)] at hlj
            rw [upd_ne _ _ e]
            have := T.lt j hj hlj
            have := q'.1.size
            omega
        · by_cases e : j = i
          · subst e
            have ek : k ≠ j := fun h => hjk h.symm
            rw [set_ne (fun e' => ek e'.symm)] at hlk
            rw [upd_eq, upd_ne _ _ ek]
            have := T.lt k hk hlk
            have := (hfA hj).1
            omega
          · rw [set_ne (fun e' => e e'.symm)] at hlj
            rw [upd_ne _ _ e]
            by_cases ek : k = i
            · subst ek
              rw [upd_eq]
              have := T.lt j hj hlj
              have := (hfA hk).1
              omega
            · rw [set_ne (fun e' => ek e'.symm)] at hlk
              rw [upd_ne _ _ ek]
              exact T.apart j k hj hk hjk hlj hlk
      · have hie : i = n := by
          rcases Nat.lt_or_ge n i with h | h
          · have h1 := deps_got T.closed hdep n (hall' (by omega) n h)
            have h2 := not_got (T.post n (Nat.le_refl _) (by omega))
            rw [h1] at h2
            cases h2
          · omega
        subst hie
        have hallg : ∀ j, j < i → lst.getD j false = true := fun j hj => deps_got T.closed hdep j (hall' (Nat.le_refl _) j hj)
        have hE := hend a x val T.q T.size T.defers T.other (fun j t sp ht hsp => T.facts j t sp ht hsp (hallg j (by have := (List.getElem?_eq_some_iff.1 hsp).1; omega))) (fun j k hj hk hjk => T.apart j k hj hk hjk (hallg j (hAn j hj)) (hallg k (hAn k hk)))
        have hdr : l.drop i = o :: l.drop (i + 1) := by
          obtain ⟨h1, h2⟩ := List.getElem?_eq_some_iff.1 ho
          rw [List.drop_eq_getElem_cons h1, h2]
        rw [hdr] at hE
        refine Oper.wp_mono (fun a' x' h => Or.inr ⟨i + 1, by omega, by omega, by rw [Array.size_setIfInBounds]; exact T.ls, fun j hj => ?_, fun j h1 h2 => ?_, closed_set ho T.closed hdep, ⟨h⟩⟩) hE.out
        · by_cases e : i = j
          · subst e; exact set_eq (by rw [T.ls]; omega)
          · rw [set_ne e]
            have := hallg j (by omega)
            rw [Array.getD_eq_getD_getElem?] at this ⊢
            cases g : lst[j]? with
            | none => rfl
            | some b => rw [g] at this; exact this
        · rw [set_ne (by omega)]; exact T.post j (by omega) h2
    · have hie : i = k := by
        rcases Nat.lt_trichotomy i k with h | h | h
        · have := hk3 i h; rw [hl] at this; cases this
        · exact h
        · have h1 := deps_got hkc hdep k (hall' (by omega) k h)
          have h2 := not_got (hk4 k (Nat.le_refl _) (by omega))
          rw [h1] at h2
          cases h2
      subst hie
      have hdr : l.drop i = o :: l.drop (i + 1) := by
        obtain ⟨h1, h2⟩ := List.getElem?_eq_some_iff.1 ho
        rw [List.drop_eq_getElem_cons h1, h2]
      rw [hdr] at hw
      refine Oper.wp_mono (fun a' x' h => Or.inr ⟨i + 1, by omega, by omega, by rw [Array.size_setIfInBounds]; exact hls, fun j hj => ?_, fun j h1 h2 => ?_, closed_set ho hkc hdep, ⟨h⟩⟩) hw.out
      · by_cases e : i = j
        · subst e; exact set_eq (by rw [hls]; omega)
        · rw [set_ne e]; exact hk3 j (by omega)
      · rw [set_ne (by omega)]; exact hk4 j (by omega) h2
  · intro lst a x hI hno
    rcases hI with ⟨val, T⟩ | ⟨k, hk1, hk2, hls, hk3, hk4, hkc, hw⟩
    · have all : ∀ j, j < n → lst.getD j false = true := by
        intro j
        induction j using Nat.strongRecOn with
        | ind j ih =>
          intro hj
          obtain ⟨o, ho⟩ : ∃ o, l[j]? = some o := ⟨_, List.getElem?_eq_getElem (by omega)⟩
          refine got_of (hno j o (by rw [get]; exact ho) (fun e he hb => ?_)) (by rw [T.ls]; omega)
          have := (regB_at hB ho).2.1 e he hb
          exact ih e.on this (by omega)
      by_cases hnl : n < l.length
      · exfalso
        obtain ⟨o, ho⟩ : ∃ o, l[n]? = some o := ⟨_, List.getElem?_eq_getElem hnl⟩
        have := hno n o (by rw [get]; exact ho) (fun e he hb => all e.on ((regB_at hB ho).2.1 e he hb))
        rw [T.post n (Nat.le_refl _) hnl] at this
        cases this
      · have hE := hend a x val T.q T.size T.defers T.other (fun j t sp ht hsp => T.facts j t sp ht hsp (all j (by have := (List.getElem?_eq_some_iff.1 hsp).1; omega))) (fun j k hj hk hjk => T.apart j k hj hk hjk (all j (hAn j hj)) (all k (hAn k hk)))
        rw [List.drop_eq_nil_of_le (by omega)] at hE
        exact hE.out
    · by_cases hkl : k < l.length
      · exfalso
        obtain ⟨o, ho⟩ : ∃ o, l[k]? = some o := ⟨_, List.getElem?_eq_getElem hkl⟩
        have := hno k o (by rw [get]; exact ho) (fun e he hb => got_of (hk3 e.on ((regB_at hB ho).2.1 e he hb)) (by rw [hls]; have := (regB_at hB ho).2.1 e he hb; omega))
        rw [hk4 k (Nat.le_refl _) hkl] at this
        cases this
      · rw [List.drop_eq_nil_of_le (by omega)] at hw
        exact hw.out
section
variable {P : Program} {R : Exit → Act → World → Prop} {a : Act} {x x' : World} {rest : List Oper}
theorem post_skip {o : Oper} (hd : o.dst = none) (hr : (execOp a.eval o).run P x = .ok .skip x') (h : wpPost P R rest a x') : wpPost P R (o :: rest) a x := by
  show o.wp P a x (fun a' w' => wpPost P R rest a' w') R
  unfold Oper.wp
  rw [hr, Oper.upon_skip, hd]
  exact h
theorem post_run {o : Oper} {t : Nat} {v : Value} (hd : o.dst = some t) (hr : (execOp a.eval o).run P x = .ok (.value v) x') (h : wpPost P R rest (a.put (some t) v) x') : wpPost P R (o :: rest) a x := by
  show o.wp P a x (fun a' w' => wpPost P R rest a' w') R
  unfold Oper.wp
  rw [hr, Oper.upon_value, hd]
  exact h
end
end Go.Proofs.Ytikhmlcmmabapaa
/- A region that draws its order: as RegO, but each operation has an interval of blocks of its own (those that it has made), and these lie apart. -/
namespace Go.Proofs.Ytikhmlcmmabapaa
open Go.RowKit
set_option linter.unusedVariables false
set_option linter.unusedSimpArgs false

/-- What is told of a value: others (deps) may be named, and the interval of blocks that were made. -/
structure Sp3 where
  p : Value → (Nat → Value) → Nat → Nat → World → Prop
  deps : List Nat
  st : ∀ {v : Value} {val val' : Nat → Value} {lo hi : Nat} {x x' : World}, p v val lo hi x → Q x x' → (∀ j ∈ deps, val' j = val j) → p v val' lo hi x'
def iV (u : Value) : Sp3 := ⟨fun v _ _ _ _ => v = u, [], fun h _ _ => h⟩
def iP (p : Value → Nat → Nat → World → Prop) (st : ∀ v lo hi x x', p v lo hi x → Q x x' → p v lo hi x') : Sp3 := ⟨fun v _ lo hi x => p v lo hi x, [], fun h q _ => st _ _ _ _ _ h q⟩
/-- Each of the first n operations fills a slot, and what is told of it names what it waits for. -/
def newBI (l : List Oper) (n : Nat) (D : List (List Nat)) (s : List Nat) : Bool := (D.length == n) && ((s.length == n) && ((decide (n ≤ l.length)) && (List.range n).all fun k => match l[k]? with
  | some o => (o.dst == s[k]?) && (D.getD k []).all fun j => decide (j < k) && o.after.toList.any fun e => Region.binds .any e && (e.on == j)
  | none => true))
structure FactsI (L : List Sp3) (w : World) (a0 : Act) (s : List Nat) (l : List Oper) (n : Nat) (lst : Array Bool) (a : Act) (x : World) (val : Nat → Value) (iv : Nat → Nat × Nat) : Prop where
  size : a.tmps.size = a0.tmps.size
  defers : a.defers = a0.defers
  other : ∀ j, j ∉ s → a.tmps[j]? = a0.tmps[j]?
  q : Q w x
  ls : lst.size = l.length
  post : ∀ k, n ≤ k → k < l.length → lst.getD k true = false
  closed : ∀ (j : Nat) (o : Oper), lst.getD j false = true → l[j]? = some o → ∀ e ∈ o.after, Region.binds .any e = true → lst.getD e.on false = true
  facts : ∀ i t sp, s[i]? = some t → L[i]? = some sp → lst.getD i false = true → a.tmps[t]? = some (val i) ∧ sp.p (val i) val (iv i).1 (iv i).2 x
  lt : ∀ i, i < n → lst.getD i false = true → w.heap.size ≤ (iv i).1 ∧ (iv i).2 ≤ x.heap.size
  apart : ∀ i j, i < n → j < n → i ≠ j → lst.getD i false = true → lst.getD j false = true → (iv i).2 ≤ (iv j).1 ∨ (iv j).2 ≤ (iv i).1
set_option maxHeartbeats 2000000 in
theorem wp_region_newI {P : Program} {id : Nat} {R : Exit → Act → World → Prop} {a0 : Act} {w : World} {l : List Oper} (n : Nat) (s : List Nat) (L : List Sp3) (D : List (List Nat))
    (hm : P.follows .mixedOrders = true) (hB : regB l n = true) (hN : newBI l n D s = true) (hD : L.map (·.deps) = D) (hd : s.Nodup) (hmax : ∀ t ∈ s, t < a0.tmps.size)
    (hop : ∀ (i t : Nat) (o : Oper) (sp : Sp3) (a : Act) (x : World) (val : Nat → Value), s[i]? = some t → l[i]? = some o → L[i]? = some sp → Q w x → (∀ j, j ∉ s → a.tmps[j]? = a0.tmps[j]?) → (∀ e ∈ o.after, Region.binds .any e = true → ∀ (s' : Sp3) t', L[e.on]? = some s' → s[e.on]? = some t' → a.tmps[t']? = some (val e.on) ∧ ∃ lo hi, s'.p (val e.on) val lo hi x) →
      Yld P R o a x t (fun v x' => sp.p v val x.heap.size x'.heap.size x'))
    (hend : ∀ (a : Act) x (val : Nat → Value) (iv : Nat → Nat × Nat), Q w x → a.tmps.size = a0.tmps.size → a.defers = a0.defers → (∀ j, j ∉ s → a.tmps[j]? = a0.tmps[j]?) → (∀ i t sp, s[i]? = some t → L[i]? = some sp → a.tmps[t]? = some (val i) ∧ sp.p (val i) val (iv i).1 (iv i).2 x) → (∀ i, i < n → w.heap.size ≤ (iv i).1 ∧ (iv i).2 ≤ x.heap.size) → (∀ i j, i < n → j < n → i ≠ j → (iv i).2 ≤ (iv j).1 ∨ (iv j).2 ≤ (iv i).1) → Shut (wpPost P R (l.drop n) a x)) :
    (Code.region id l.toArray true).wp P R a0 w := by
  have get : ∀ k, l.toArray[k]? = l[k]? := fun k => List.getElem?_toArray
  unfold newBI at hN
  simp only [Bool.and_eq_true, beq_iff_eq, decide_eq_true_eq] at hN
  obtain ⟨hDl, hsl, hnl, hall⟩ := hN
  have hLl : L.length = n := by rw [← hDl, ← hD]; simp
  have at_ : ∀ k o, k < n → l[k]? = some o → o.dst = s[k]? ∧ ∀ j ∈ D.getD k [], j < k ∧ ∃ e ∈ o.after, Region.binds .any e = true ∧ e.on = j := fun k o hkn hk => by
    have g := List.all_eq_true.1 hall k (List.mem_range.2 hkn)
    rw [hk] at g
    simp only [Bool.and_eq_true, beq_iff_eq] at g
    refine ⟨g.1, fun j hj => ?_⟩
    have h := List.all_eq_true.1 g.2 j hj
    rw [Bool.and_eq_true] at h
    obtain ⟨e, he, hb⟩ := List.any_eq_true.1 h.2
    rw [Bool.and_eq_true] at hb
    exact ⟨by simpa using h.1, e, by simpa using he, hb.1, by simpa using hb.2⟩
  have depsD : ∀ k sp, L[k]? = some sp → sp.deps = D.getD k [] := fun k sp hk => by
    rw [← hD, List.getD_eq_getElem?_getD, List.getElem?_map, hk]; rfl
  refine wp_region_inv (fun lst a x => (∃ val iv, FactsI L w a0 s l n lst a x val iv) ∨ ∃ k, n < k ∧ k ≤ l.length ∧ lst.size = l.length ∧ (∀ i, i < k → lst.getD i true = true) ∧ (∀ i, k ≤ i → i < l.length → lst.getD i true = false) ∧ (∀ (j : Nat) (o : Oper), lst.getD j false = true → l[j]? = some o → ∀ e ∈ o.after, Region.binds .any e = true → lst.getD e.on false = true) ∧ Shut (wpPost P R (l.drop k) a x)) hm ?_ ?_ ?_
  · have none_ : ∀ j, (Array.replicate l.toArray.size false).getD j false = false := fun j => by
      rw [Array.getD_eq_getD_getElem?, Array.getElem?_replicate]
      split <;> rfl
    refine Or.inl ⟨fun _ => undef, fun _ => (0, 0), rfl, rfl, fun _ _ => rfl, (Q.refl w).drew, by simp, fun k h1 h2 => ?_, fun j o hj _ => ?_, fun i t sp _ _ hl => ?_, fun i _ hl => ?_, fun i j _ _ _ hl => ?_⟩
    · rw [Array.getD_eq_getD_getElem?, Array.getElem?_replicate, if_pos (by simpa using h2)]; rfl
    · rw [none_] at hj; cases hj
    · rw [none_] at hl; cases hl
    · rw [none_] at hl; cases hl
    · rw [none_] at hl; cases hl
  · intro lst a x i o hI ho hl hdep
    rw [get] at ho
    obtain ⟨hg, hdl, hall'⟩ := regB_at hB ho
    have hil : i < l.length := (List.getElem?_eq_some_iff.1 ho).1
    refine ⟨hg, ?_⟩
    rcases hI with ⟨val, iv, T⟩ | ⟨k, hk1, hk2, hls, hk3, hk4, hkc, hw⟩
    · by_cases hin : i < n
      · obtain ⟨t, ht⟩ : ∃ t, s[i]? = some t := ⟨_, List.getElem?_eq_getElem (by omega)⟩
        obtain ⟨sp, hsp⟩ : ∃ sp, L[i]? = some sp := ⟨_, List.getElem?_eq_getElem (by omega)⟩
        have hts : t ∈ s := List.mem_of_getElem? ht
        have inj : ∀ j t', s[j]? = some t' → j ≠ i → t ≠ t' := fun j t' hj hne e => hne (by
          subst e
          obtain ⟨h1, h2⟩ := List.getElem?_eq_some_iff.1 hj
          obtain ⟨h3, h4⟩ := List.getElem?_eq_some_iff.1 ht
          exact (List.getElem_inj hd).1 (h2.trans h4.symm))
        obtain ⟨hdst, hdp⟩ := at_ i o hin ho
        have hd0 : lst.getD i false = false := not_got hl
        have hrun := hop i t o sp a x val ht ho hsp T.q T.other (fun e he hb s' t' hs' ht' => ⟨(T.facts e.on t' s' ht' hs' (hdep e he hb)).1, _, _, (T.facts e.on t' s' ht' hs' (hdep e he hb)).2⟩)
        refine Oper.wp_mono ?_ hrun.out
        rintro a' x' ⟨v, rfl, q', hf⟩
        refine Or.inl ⟨upd val i v, upd iv i (x.heap.size, x'.heap.size), ?_, T.defers, fun j hj => ?_, T.q.trans q', by rw [Array.size_setIfInBounds]; exact T.ls, fun k h1 h2 => ?_, closed_set ho T.closed hdep, fun j t' sj ht' hsj hlj => ?_, fun j hj hlj => ?_, fun j k hj hk hjk hlj hlk => ?_⟩
        · exact (Array.size_setIfInBounds).trans T.size
        · exact (Array.getElem?_setIfInBounds_ne (fun e => hj (by rw [← e]; exact hts))).trans (T.other j hj)
        · rw [set_ne (by omega)]; exact T.post k h1 h2
        · by_cases e : j = i
          · subst e
            rw [ht] at ht'
            injection ht' with ht'
            subst ht'
            rw [hsp] at hsj
            injection hsj with hsj
            subst hsj
            refine ⟨?_, ?_⟩
            · rw [upd_eq]; exact Array.getElem?_setIfInBounds_self_of_lt (by rw [T.size]; exact hmax t hts)
            · rw [upd_eq, upd_eq]
              refine sp.st hf (Q.refl x') (fun k hk => upd_ne _ _ ?_)
              rw [depsD j sp hsp] at hk
              have := (hdp k hk).1
              omega
          · rw [set_ne (fun e' => e e'.symm)] at hlj
            obtain ⟨h1, h2⟩ := T.facts j t' sj ht' hsj hlj
            rw [upd_ne _ _ e, upd_ne _ _ e]
            refine ⟨(Array.getElem?_setIfInBounds_ne (inj j t' ht' e)).trans h1, sj.st h2 q' (fun k hk => upd_ne _ _ ?_)⟩
            rw [depsD j sj hsj] at hk
            have hjn : j < n := by have := (List.getElem?_eq_some_iff.1 hsj).1; omega
            have hjl : l[j]? = some (l[j]'(by omega)) := List.getElem?_eq_getElem (by omega)
            obtain ⟨_, e2, he2, hb2, hk2⟩ := (at_ j _ hjn hjl).2 k hk
            have := T.closed j _ hlj hjl e2 he2 hb2
            intro ek
            rw [hk2, ek, hd0] at this
            cases this
        · by_cases e : j = i
          · subst e; rw [upd_eq]; exact ⟨T.q.1.size, Nat.le_refl _⟩
          · rw [set_ne (fun e' => e e'.symm)] at hlj
            rw [upd_ne _ _ e]
            have := T.lt j hj hlj
            have := q'.1.size
            omega
        · by_cases e : j = i
          · subst e
            have ek : k ≠ j := fun h => hjk h.symm
            rw [set_ne (fun e' => ek e'.symm)] at hlk
            rw [upd_eq, upd_ne _ _ ek]
            have := T.lt k hk hlk
            exact Or.inr this.2
          · rw [set_ne (fun e' => e e'.symm)] at hlj
            rw [upd_ne _ _ e]
            by_cases ek : k = i
            · subst ek
              rw [upd_eq]
              have := T.lt j hj hlj
              exact Or.inl this.2
            · rw [set_ne (fun e' => ek e'.symm)] at hlk
              rw [upd_ne _ _ ek]
              exact T.apart j k hj hk hjk hlj hlk
      · have hie : i = n := by
          rcases Nat.lt_or_ge n i with h | h
          · have h1 := deps_got T.closed hdep n (hall' (by omega) n h)
            have h2 := not_got (T.post n (Nat.le_refl _) (by omega))
            rw [h1] at h2
            cases h2
          · omega
        subst hie
        have hallg : ∀ j, j < i → lst.getD j false = true := fun j hj => deps_got T.closed hdep j (hall' (Nat.le_refl _) j hj)
        have hE := hend a x val iv T.q T.size T.defers T.other (fun j t sp ht hsp => T.facts j t sp ht hsp (hallg j (by have := (List.getElem?_eq_some_iff.1 hsp).1; omega))) (fun j hj => T.lt j hj (hallg j hj)) (fun j k hj hk hjk => T.apart j k hj hk hjk (hallg j hj) (hallg k hk))
        have hdr : l.drop i = o :: l.drop (i + 1) := by
          obtain ⟨h1, h2⟩ := List.getElem?_eq_some_iff.1 ho
          rw [List.drop_eq_getElem_cons h1, h2]
        rw [hdr] at hE
        refine Oper.wp_mono (fun a' x' h => Or.inr ⟨i + 1, by omega, by omega, by rw [Array.size_setIfInBounds]; exact T.ls, fun j hj => ?_, fun j h1 h2 => ?_, closed_set ho T.closed hdep, ⟨h⟩⟩) hE.out
        · by_cases e : i = j
          · subst e; exact set_eq (by rw [T.ls]; omega)
          · rw [set_ne e]
            have := hallg j (by omega)
            rw [Array.getD_eq_getD_getElem?] at this ⊢
            cases g : lst[j]? with
            | none => rfl
            | some b => rw [g] at this; exact this
        · rw [set_ne (by omega)]; exact T.post j (by omega) h2
    · have hie : i = k := by
        rcases Nat.lt_trichotomy i k with h | h | h
        · have := hk3 i h; rw [hl] at this; cases this
        · exact h
        · have h1 := deps_got hkc hdep k (hall' (by omega) k h)
          have h2 := not_got (hk4 k (Nat.le_refl _) (by omega))
          rw [h1] at h2
          cases h2
      subst hie
      have hdr : l.drop i = o :: l.drop (i + 1) := by
        obtain ⟨h1, h2⟩ := List.getElem?_eq_some_iff.1 ho
        rw [List.drop_eq_getElem_cons h1, h2]
      rw [hdr] at hw
      refine Oper.wp_mono (fun a' x' h => Or.inr ⟨i + 1, by omega, by omega, by rw [Array.size_setIfInBounds]; exact hls, fun j hj => ?_, fun j h1 h2 => ?_, closed_set ho hkc hdep, ⟨h⟩⟩) hw.out
      · by_cases e : i = j
        · subst e; exact set_eq (by rw [hls]; omega)
        · rw [set_ne e]; exact hk3 j (by omega)
      · rw [set_ne (by omega)]; exact hk4 j (by omega) h2
  · intro lst a x hI hno
    rcases hI with ⟨val, iv, T⟩ | ⟨k, hk1, hk2, hls, hk3, hk4, hkc, hw⟩
    · have all : ∀ j, j < n → lst.getD j false = true := by
        intro j
        induction j using Nat.strongRecOn with
        | ind j ih =>
          intro hj
          obtain ⟨o, ho⟩ : ∃ o, l[j]? = some o := ⟨_, List.getElem?_eq_getElem (by omega)⟩
          refine got_of (hno j o (by rw [get]; exact ho) (fun e he hb => ?_)) (by rw [T.ls]; omega)
          have := (regB_at hB ho).2.1 e he hb
          exact ih e.on this (by omega)
      by_cases hnl : n < l.length
      · exfalso
        obtain ⟨o, ho⟩ : ∃ o, l[n]? = some o := ⟨_, List.getElem?_eq_getElem hnl⟩
        have := hno n o (by rw [get]; exact ho) (fun e he hb => all e.on ((regB_at hB ho).2.1 e he hb))
        rw [T.post n (Nat.le_refl _) hnl] at this
        cases this
      · have hE := hend a x val iv T.q T.size T.defers T.other (fun j t sp ht hsp => T.facts j t sp ht hsp (all j (by have := (List.getElem?_eq_some_iff.1 hsp).1; omega))) (fun j hj => T.lt j hj (all j hj)) (fun j k hj hk hjk => T.apart j k hj hk hjk (all j hj) (all k hk))
        rw [List.drop_eq_nil_of_le (by omega)] at hE
        exact hE.out
    · by_cases hkl : k < l.length
      · exfalso
        obtain ⟨o, ho⟩ : ∃ o, l[k]? = some o := ⟨_, List.getElem?_eq_getElem hkl⟩
        have := hno k o (by rw [get]; exact ho) (fun e he hb => got_of (hk3 e.on ((regB_at hB ho).2.1 e he hb)) (by rw [hls]; have := (regB_at hB ho).2.1 e he hb; omega))
        rw [hk4 k (Nat.le_refl _) hkl] at this
        cases this
      · rw [List.drop_eq_nil_of_le (by omega)] at hw
        exact hw.out
end Go.Proofs.Ytikhmlcmmabapaa

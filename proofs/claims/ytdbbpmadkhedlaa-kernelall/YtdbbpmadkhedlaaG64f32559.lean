/- A region that draws its order, by what holds of the operations that have come up, of what they told, and of the world. -/
import Derived.Test.YtdbbpmadkhedlaaG1d93a06b
import Derived.Test.YtdbbpmadkhedlaaG0d76fa66
import Derived.Test.YtdbbpmadkhedlaaGe5cc78ee
namespace Go.Proofs.Ytdbbpmadkhedlaa
open Go.RowKit
set_option linter.unusedVariables false
set_option linter.unusedSimpArgs false

def upd {α : Type} (f : Nat → α) (i : Nat) (v : α) : Nat → α := fun j => if j = i then v else f j
theorem upd_eq {α : Type} (f : Nat → α) (i : Nat) (v : α) : upd f i v i = v := by unfold upd; rw [if_pos rfl]
theorem upd_ne {α : Type} (f : Nat → α) {i j : Nat} (v : α) (h : j ≠ i) : upd f i v j = f j := by unfold upd; rw [if_neg h]
theorem wpAny_invS {P : Program} {ops : Array Oper} {R : Exit → Act → World → Prop} (Inv : Array Bool → Act → World → Prop)
    (hs : ∀ lst a w i o, Inv lst a w → ops[i]? = some o → lst.getD i true = false → (∀ e ∈ o.after, Region.binds .any e = true → lst.getD e.on false = true) → (Region.wanted o (yielded ops a.tmps) = true → o.wp P a w (fun a' w' => Inv (lst.setIfInBounds i true) a' w') R) ∧ (Region.wanted o (yielded ops a.tmps) = false → Inv (lst.setIfInBounds i true) (a.put o.dst undef) w))
    (he : ∀ lst a w, Inv lst a w → (∀ i o, ops[i]? = some o → (∀ e ∈ o.after, Region.binds .any e = true → lst.getD e.on false = true) → lst.getD i true = true) → R .normal a w) :
    ∀ (fuel : Nat) (lst : Array Bool) (a : Act) (w : World), Inv lst a w → lst.toList.countP (· == false) ≤ fuel → wpAny P .any ops R fuel lst a w := by
  have done : ∀ (lst : Array Bool) (a : Act) (w : World), Inv lst a w → Region.ready .any ops lst = [] → R .normal a w := fun lst a w h hr => he lst a w h (fun i o ho hd => by
    cases hc : lst.getD i true with
    | true => rfl
    | false =>
      have : i ∈ Region.ready .any ops lst := mem_ready.2 ⟨hc, o, ho, hd⟩
      rw [hr] at this
      cases this)
  intro fuel
  induction fuel with
  | zero =>
    intro lst a w h hc
    have hr : Region.ready .any ops lst = [] := by
      cases hr : Region.ready .any ops lst with
      | nil => rfl
      | cons j js =>
        have : j ∈ Region.ready .any ops lst := by rw [hr]; exact List.mem_cons_self
        have := ready_pos (mem_ready.1 this).1
        omega
    exact ⟨hr, done lst a w h hr⟩
  | succ fuel ih =>
    intro lst a w h hc
    refine ⟨done lst a w h, fun i hi => ?_⟩
    obtain ⟨h1, o, ho, h2⟩ := mem_ready.1 hi
    obtain ⟨hy, hn⟩ := hs lst a w i o h ho h1 h2
    have hcs := count_set h1
    unfold wpOp
    rw [ho]
    simp only
    cases hw : Region.wanted o (yielded ops a.tmps) with
    | true =>
      rw [if_pos rfl]
      exact Or.inl (Oper.wp_mono (fun a' w' h' => ih _ a' w' h' (by omega)) (hy hw))
    | false =>
      rw [if_neg (by decide)]
      exact ih _ _ _ (hn hw) (by omega)
/-- The slot that an operation fills. -/
def dstOf (l : List Oper) (i : Nat) : Option Nat := (l[i]?).bind (fun o : Oper => o.dst)
theorem dstOf_at {l : List Oper} {i : Nat} {o : Oper} (h : l[i]? = some o) : dstOf l i = o.dst := by unfold dstOf; rw [h]; rfl
/-- Each operation waits for earlier ones alone, and for what guards it; no two fill one slot. -/
def regS (l : List Oper) : Bool := (List.range l.length).all fun k => match l[k]? with
  | some o => (match o.guard with | none => true | some (g, _) => o.after.toList.any (fun e => Region.binds .any e && (e.on == g)) && (dstOf l g).isSome) && ((o.after.toList.all fun e => !(Region.binds .any e) || decide (e.on < k)) && (List.range k).all fun j => match o.dst, dstOf l j with | some t, some u => t != u | _, _ => true)
  | none => true
theorem regS_at {l : List Oper} (h : regS l = true) {k : Nat} {o : Oper} (hk : l[k]? = some o) : (∀ g b, o.guard = some (g, b) → (∃ e ∈ o.after, Region.binds .any e = true ∧ e.on = g) ∧ ∃ t, dstOf l g = some t) ∧ (∀ e ∈ o.after, Region.binds .any e = true → e.on < k) ∧ (∀ j t, j < k → o.dst = some t → dstOf l j ≠ some t) := by
  have hlt : k < l.length := (List.getElem?_eq_some_iff.1 hk).1
  have h1 := List.all_eq_true.1 h k (List.mem_range.2 hlt)
  rw [hk] at h1
  simp only [Bool.and_eq_true] at h1
  refine ⟨fun g b hgd => ?_, fun e he hb => ?_, fun j t hj ht hc => ?_⟩
  · have h2 := h1.1
    rw [hgd] at h2
    simp only [Bool.and_eq_true] at h2
    obtain ⟨e, he, h3⟩ := List.any_eq_true.1 h2.1
    rw [Bool.and_eq_true] at h3
    exact ⟨⟨e, by simpa using he, h3.1, by simpa using h3.2⟩, Option.isSome_iff_exists.1 h2.2⟩
  · have h2 := List.all_eq_true.1 h1.2.1 e (by simpa using he)
    rw [hb] at h2
    simpa using h2
  · have h2 := List.all_eq_true.1 h1.2.2 j (List.mem_range.2 hj)
    rw [ht, hc] at h2
    simp at h2
/-- Does one operation wait for another? -/
def waits (l : List Oper) (k i : Nat) : Bool := match l[k]? with
  | some o => o.after.toList.any fun e => Region.binds .any e && (e.on == i)
  | none => false
structure Slots (I : (Nat → Bool) → (Nat → Value) → World → Prop) (a0 : Act) (l : List Oper) (lst : Array Bool) (a : Act) (x : World) (val : Nat → Value) : Prop where
  size : a.tmps.size = a0.tmps.size
  defers : a.defers = a0.defers
  other : ∀ j, (∀ k, dstOf l k ≠ some j) → a.tmps[j]? = a0.tmps[j]?
  ls : lst.size = l.length
  vals : ∀ j t, lst.getD j false = true → dstOf l j = some t → a.tmps[t]? = some (val j)
  fresh : ∀ j t, lst.getD j false = false → dstOf l j = some t → a.tmps[t]? = a0.tmps[t]?
  closed : ∀ (j : Nat) (o : Oper), lst.getD j false = true → l[j]? = some o → ∀ e ∈ o.after, Region.binds .any e = true → lst.getD e.on false = true
  inv : I (fun i => lst.getD i false) val x
theorem set_upd {lst : Array Bool} {i : Nat} (h : i < lst.size) : (fun j => (lst.setIfInBounds i true).getD j false) = upd (fun j => lst.getD j false) i true := by
  funext j
  by_cases e : j = i
  · subst e; rw [upd_eq]; exact set_eq h
  · rw [upd_ne _ _ e]; exact set_ne (fun e' => e e'.symm)
theorem dst_inj {l : List Oper} (hB : regS l = true) {i j : Nat} {t : Nat} (hi : dstOf l i = some t) (hj : dstOf l j = some t) : i = j := by
  have key : ∀ i j, i < j → dstOf l i = some t → dstOf l j = some t → False := fun i j h hi hj => by
    cases hl : l[j]? with
    | none => unfold dstOf at hj; rw [hl] at hj; cases hj
    | some o =>
      rw [dstOf_at hl] at hj
      exact (regS_at hB hl).2.2 i t h hj hi
  rcases Nat.lt_trichotomy i j with h | h | h
  · exact (key i j h hi hj).elim
  · exact h
  · exact (key j i h hj hi).elim
theorem slots_put {I : (Nat → Bool) → (Nat → Value) → World → Prop} {a0 : Act} {l : List Oper} {lst : Array Bool} {a : Act} {x x' : World} {val : Nat → Value} (T : Slots I a0 l lst a x val) (hB : regS l = true) (hmax : ∀ i t, dstOf l i = some t → t < a0.tmps.size) {i : Nat} {o : Oper} (ho : l[i]? = some o) (v : Value) (hdep : ∀ e ∈ o.after, Region.binds .any e = true → lst.getD e.on false = true) (hI : I (upd (fun j => lst.getD j false) i true) (upd val i v) x') :
    Slots I a0 l (lst.setIfInBounds i true) (a.put o.dst v) x' (upd val i v) := by
  have hil : i < l.length := (List.getElem?_eq_some_iff.1 ho).1
  have hid : dstOf l i = o.dst := dstOf_at ho
  refine ⟨?_, ?_, fun j hj => ?_, by rw [Array.size_setIfInBounds]; exact T.ls, fun j t hlj hjt => ?_, fun j t hlj hjt => ?_, closed_set ho T.closed hdep, by rw [set_upd (by rw [T.ls]; exact hil)]; exact hI⟩
  · cases hd : o.dst with
    | none => exact T.size
    | some t => exact (Array.size_setIfInBounds).trans T.size
  · cases hd : o.dst with
    | none => exact T.defers
    | some t => exact T.defers
  · cases hd : o.dst with
    | none => exact T.other j hj
    | some t =>
      refine (Array.getElem?_setIfInBounds_ne (fun e => hj i ?_)).trans (T.other j hj)
      rw [hid, hd, e]
  · by_cases e : j = i
    · subst e
      rw [hid] at hjt
      rw [hjt, upd_eq]
      exact Array.getElem?_setIfInBounds_self_of_lt (by rw [T.size]; exact hmax j t (by rw [hid]; exact hjt))
    · rw [set_ne (fun e' => e e'.symm)] at hlj
      rw [upd_ne _ _ e]
      cases hd : o.dst with
      | none => exact T.vals j t hlj hjt
      | some t' =>
        refine (Array.getElem?_setIfInBounds_ne (fun e' => e ?_)).trans (T.vals j t hlj hjt)
        subst e'
        exact dst_inj hB hjt (by rw [hid]; exact hd)
  · by_cases e : j = i
    · subst e
      rw [set_eq (by rw [T.ls]; exact hil)] at hlj
      cases hlj
    · rw [set_ne (fun e' => e e'.symm)] at hlj
      cases hd : o.dst with
      | none => exact T.fresh j t hlj hjt
      | some t' =>
        refine (Array.getElem?_setIfInBounds_ne (fun e' => e ?_)).trans (T.fresh j t hlj hjt)
        subst e'
        exact dst_inj hB hjt (by rw [hid]; exact hd)
set_option maxHeartbeats 1000000 in
theorem wp_region_slotsF {P : Program} {id : Nat} {R : Exit → Act → World → Prop} {a0 : Act} {w : World} {l : List Oper} (I : (Nat → Bool) → (Nat → Value) → World → Prop)
    (hm : P.follows .mixedOrders = true) (hB : regS l = true) (hmax : ∀ i t, dstOf l i = some t → t < a0.tmps.size)
    (h0 : I (fun _ => false) (fun _ => undef) w.drew)
    (hop : ∀ i o (a : Act) x (done : Nat → Bool) (val : Nat → Value), l[i]? = some o → done i = false → (∀ e ∈ o.after, Region.binds .any e = true → done e.on = true) → I done val x → (∀ j, (∀ k, dstOf l k ≠ some j) → a.tmps[j]? = a0.tmps[j]?) → (∀ j t, done j = true → dstOf l j = some t → a.tmps[t]? = some (val j)) → (∀ g b, o.guard = some (g, b) → val g = .bool b) → (∀ j t, waits l j i = true → dstOf l j = some t → a.tmps[t]? = a0.tmps[t]?) →
      Shut (o.wp P a x (fun a' x' => ∃ v, a' = a.put o.dst v ∧ I (upd done i true) (upd val i v) x') R))
    (hskip : ∀ i o x (done : Nat → Bool) (val : Nat → Value) g b, l[i]? = some o → done i = false → (∀ e ∈ o.after, Region.binds .any e = true → done e.on = true) → I done val x → o.guard = some (g, b) → val g ≠ .bool b → I (upd done i true) (upd val i undef) x)
    (hend : ∀ (a : Act) x (val : Nat → Value), I (fun i => decide (i < l.length)) val x → a.tmps.size = a0.tmps.size → a.defers = a0.defers → (∀ j, (∀ k, dstOf l k ≠ some j) → a.tmps[j]? = a0.tmps[j]?) → (∀ j t, dstOf l j = some t → a.tmps[t]? = some (val j)) → Shut (R .normal a x)) :
    (Code.region id l.toArray true).wp P R a0 w := by
  have get : ∀ k, l.toArray[k]? = l[k]? := fun k => List.getElem?_toArray
  have hc := List.countP_le_length (l := (Array.replicate l.toArray.size false).toList) (p := (· == false))
  refine wp_region_any hm (wpAny_invS (fun lst a x => ∃ val, Slots I a0 l lst a x val) ?_ ?_ _ _ _ _ ?_ (by simpa using hc))
  · rintro lst a x i o ⟨val, T⟩ ho hl hdep
    rw [get] at ho
    obtain ⟨hg, hdl, hds⟩ := regS_at hB ho
    have hil : i < l.length := (List.getElem?_eq_some_iff.1 ho).1
    have hlf : (fun j => lst.getD j false) i = false := not_got hl
    have gval : ∀ g b, o.guard = some (g, b) → ∃ t, dstOf l g = some t ∧ a.tmps[t]? = some (val g) := fun g b hgd => by
      obtain ⟨⟨e, he, hb, hon⟩, t, ht⟩ := hg g b hgd
      have := hdep e he hb
      rw [hon] at this
      exact ⟨t, ht, T.vals g t this ht⟩
    have hyl : ∀ g b, o.guard = some (g, b) → (Region.wanted o (yielded l.toArray a.tmps) = true ↔ val g = .bool b) := fun g b hgd => by
      obtain ⟨t, ht, hv⟩ := gval g b hgd
      unfold Region.wanted
      rw [hgd]
      simp only [yielded]
      rw [get]
      unfold dstOf at ht
      rw [ht]
      simp only [Option.bind_some]
      rw [hv]
      cases hval : val g <;> simp
    have hfr : ∀ j t, waits l j i = true → dstOf l j = some t → a.tmps[t]? = a0.tmps[t]? := fun j t hwt hjt => by
      refine T.fresh j t ?_ hjt
      cases hdj : lst.getD j false with
      | false => rfl
      | true =>
        exfalso
        unfold waits at hwt
        cases hl' : l[j]? with
        | none => rw [hl'] at hwt; cases hwt
        | some oj =>
          rw [hl'] at hwt
          obtain ⟨e, he, h1⟩ := List.any_eq_true.1 hwt
          rw [Bool.and_eq_true] at h1
          have h2 := T.closed j oj hdj hl' e (by simpa using he) h1.1
          have h3 : e.on = i := by simpa using h1.2
          rw [h3] at h2
          have h4 : lst.getD i false = false := hlf
          rw [h4] at h2
          cases h2
    refine ⟨fun hw => ?_, fun hw => ?_⟩
    · have := (hop i o a x (fun j => lst.getD j false) val ho hlf hdep T.inv T.other T.vals (fun g b hgd => (hyl g b hgd).1 hw) hfr).out
      refine Oper.wp_mono ?_ this
      rintro a' x' ⟨v, rfl, hI⟩
      exact ⟨_, slots_put T hB hmax ho v hdep hI⟩
    · cases hgd : o.guard with
      | none => unfold Region.wanted at hw; rw [hgd] at hw; cases hw
      | some gb =>
        obtain ⟨g, b⟩ := gb
        refine ⟨_, slots_put T hB hmax ho undef hdep (hskip i o x _ val g b ho hlf hdep T.inv hgd (fun e => ?_))⟩
        rw [(hyl g b hgd).2 e] at hw
        cases hw
  · rintro lst a x ⟨val, T⟩ hno
    have all : ∀ j, j < l.length → lst.getD j false = true := by
      intro j
      induction j using Nat.strongRecOn with
      | ind j ih =>
        intro hj
        obtain ⟨o, ho⟩ : ∃ o, l[j]? = some o := ⟨_, List.getElem?_eq_getElem hj⟩
        refine got_of (hno j o (by rw [get]; exact ho) (fun e he hb => ?_)) (by rw [T.ls]; exact hj)
        have := (regS_at hB ho).2.1 e he hb
        exact ih e.on this (by omega)
    have hall : (fun i => lst.getD i false) = (fun i => decide (i < l.length)) := by
      funext j
      by_cases hj : j < l.length
      · rw [all j hj, decide_eq_true hj]
      · rw [decide_eq_false hj, Array.getD_eq_getD_getElem?, Array.getElem?_eq_none (by rw [T.ls]; omega)]; rfl
    refine (hend a x val (by rw [← hall]; exact T.inv) T.size T.defers T.other (fun j t hjt => T.vals j t (all j ?_) hjt)).out
    cases hl : l[j]? with
    | none => unfold dstOf at hjt; rw [hl] at hjt; cases hjt
    | some o => exact (List.getElem?_eq_some_iff.1 hl).1
  · refine ⟨fun _ => undef, rfl, rfl, fun _ _ => rfl, by simp, fun j t hj => ?_, fun _ _ _ _ => rfl, fun j o hj => ?_, ?_⟩
    · rw [Array.getD_eq_getD_getElem?, Array.getElem?_replicate] at hj
      split at hj <;> cases hj
    · rw [Array.getD_eq_getD_getElem?, Array.getElem?_replicate] at hj
      split at hj <;> cases hj
    · have : (fun i => (Array.replicate l.toArray.size false).getD i false) = fun _ => false := by
        funext j
        rw [Array.getD_eq_getD_getElem?, Array.getElem?_replicate]
        split <;> rfl
      rw [this]
      exact h0
theorem wp_region_slots {P : Program} {id : Nat} {R : Exit → Act → World → Prop} {a0 : Act} {w : World} {l : List Oper} (I : (Nat → Bool) → (Nat → Value) → World → Prop)
    (hm : P.follows .mixedOrders = true) (hB : regS l = true) (hmax : ∀ i t, dstOf l i = some t → t < a0.tmps.size)
    (h0 : I (fun _ => false) (fun _ => undef) w.drew)
    (hop : ∀ i o (a : Act) x (done : Nat → Bool) (val : Nat → Value), l[i]? = some o → done i = false → (∀ e ∈ o.after, Region.binds .any e = true → done e.on = true) → I done val x → (∀ j, (∀ k, dstOf l k ≠ some j) → a.tmps[j]? = a0.tmps[j]?) → (∀ j t, done j = true → dstOf l j = some t → a.tmps[t]? = some (val j)) → (∀ g b, o.guard = some (g, b) → val g = .bool b) →
      Shut (o.wp P a x (fun a' x' => ∃ v, a' = a.put o.dst v ∧ I (upd done i true) (upd val i v) x') R))
    (hskip : ∀ i o x (done : Nat → Bool) (val : Nat → Value) g b, l[i]? = some o → done i = false → (∀ e ∈ o.after, Region.binds .any e = true → done e.on = true) → I done val x → o.guard = some (g, b) → val g ≠ .bool b → I (upd done i true) (upd val i undef) x)
    (hend : ∀ (a : Act) x (val : Nat → Value), I (fun i => decide (i < l.length)) val x → a.tmps.size = a0.tmps.size → a.defers = a0.defers → (∀ j, (∀ k, dstOf l k ≠ some j) → a.tmps[j]? = a0.tmps[j]?) → (∀ j t, dstOf l j = some t → a.tmps[t]? = some (val j)) → Shut (R .normal a x)) :
    (Code.region id l.toArray true).wp P R a0 w :=
  wp_region_slotsF I hm hB hmax h0 (fun i o a x done val h1 h2 h3 h4 h5 h6 h7 _ => hop i o a x done val h1 h2 h3 h4 h5 h6 h7) hskip hend
end Go.Proofs.Ytdbbpmadkhedlaa
/- Rows of whole numbers that the call makes; three of them, and a box, in whatever order. -/
namespace Go.Proofs.Ytdbbpmadkhedlaa
open Go.RowKit
set_option linter.unusedVariables false
set_option linter.unusedSimpArgs false

/-- Whole numbers that lie at the head of a block, and may be written over. -/
structure IRow (x : World) (g : Nat) (zs : List Int) : Prop where
  cell : ∀ i z, zs[i]? = some z → x.cell? ⟨g, i, none⟩ = some (.int .i64 z)
  free : ∀ j, x.frozen? ⟨g, j, none⟩ = false
theorem IRow.next {x x' : World} {g : Nat} {zs : List Int} (h : IRow x g zs) (q : Q x x') : IRow x' g zs := ⟨fun i z hi => q.cell (h.cell i z hi), fun j => by rw [q.2]; exact h.free j⟩
theorem IRow.other {x : World} {g : Nat} {zs : List Int} (h : IRow x g zs) {p : Addr} (hp : p.block ≠ g) (v : Value) : IRow (x.setCell p v) g zs :=
  ⟨fun i z hi => (World.cell?_setCell_other _ _ _ _ (fun e => hp (by rw [e]))).trans (h.cell i z hi), fun j => by rw [World.frozen?_setCell]; exact h.free j⟩
theorem IRow.set {x : World} {g : Nat} {zs : List Int} (h : IRow x g zs) {i : Nat} (hi : i < zs.length) (z : Int) : IRow (x.setCell ⟨g, i, none⟩ (.int .i64 z)) g (zs.set i z) := by
  refine ⟨fun k u hk => ?_, fun j => by rw [World.frozen?_setCell]; exact h.free j⟩
  by_cases e : i = k
  · subst e
    rw [List.getElem?_set_self hi] at hk
    cases hk
    exact World.cell?_setCell_same _ _ _ (h.cell i _ (List.getElem?_eq_getElem hi))
  · rw [List.getElem?_set_ne e] at hk
    rw [World.cell?_setCell_other _ _ _ _ (fun e' => e (by injection e'))]
    exact h.cell k u hk
theorem IRow.drew {x : World} {g : Nat} {zs : List Int} (h : IRow x g zs) : IRow x.drew g zs := h.next ((Q.refl x).drew)
theorem IRow.isl {x : World} {g : Nat} {zs : List Int} (h : IRow x g zs) (c : Nat) : ISl x (.slice (some ⟨g, 0, none⟩) zs.length c) zs :=
  Or.inl ⟨g, 0, c, rfl, fun i hi => by
    rw [Nat.zero_add, List.getD_eq_getElem?_getD, List.getElem?_eq_getElem hi]
    exact h.cell i _ (List.getElem?_eq_getElem hi)⟩
theorem kinfo_of {i : Option TypeInfo} {sz by_ : Nat} {z : Option Value} (h : i.map (fun j => (j.size, j.bytes, j.zero)) = some (sz, by_, z)) : ∃ j, i = some j ∧ j.size = sz ∧ j.bytes = by_ ∧ j.zero = z := by
  cases i with
  | none => cases h
  | some j => simp at h; exact ⟨j, rfl, h.1, h.2.1, h.2.2⟩
theorem iInfo : ∃ i, Try.prog.info? 3 = some i ∧ i.size = 1 ∧ i.bytes = 8 ∧ i.zero = some (.int .i64 0) := kinfo_of (by kernel_rfl)
theorem make_i (n : Nat) (hn : n ≤ 1048576) : ∃ M : Array Value, (∀ w : World, (Instr.makeSlice 51 (.int .i64 (n : Int)) (.int .i64 (n : Int))).run Try.prog w = .ok (.slice (some ⟨w.heap.size, 0, none⟩) n n) (w.alloc (.cells M 3))) ∧
    ∀ w : World, IRow (w.alloc (.cells M 3)) w.heap.size (List.replicate n 0) := by
  obtain ⟨i, i1, i2, i3, i4⟩ := iInfo
  refine ⟨madeCells (Value.int .i64 0).cells (n * 1), fun w => ?_, fun w => ?_⟩
  · have := run_make (P := Try.prog) w 51 3 i _ Try.underlying51 i1 i4 .i64 .i64 n n (by omega) (by omega) (by rw [i3]; omega) (by omega)
    rw [i2] at this
    simp only [Int.toNat_natCast] at this
    exact this
  · have hb : (w.alloc (.cells (madeCells (Value.int .i64 0).cells (n * 1)) 3)).heap[w.heap.size]? = some (.cells (madeCells (Value.int .i64 0).cells (n * 1)) 3 (0, 0)) := by
      show (w.heap.push _)[w.heap.size]? = _; simp
    have cr : ∀ j, (w.alloc (.cells (madeCells (Value.int .i64 0).cells (n * 1)) 3)).cell? ⟨w.heap.size, j, none⟩ = (madeCells (Value.int .i64 0).cells (n * 1))[j]? := fun j => by unfold World.cell?; rw [hb]; rfl
    refine ⟨fun j z hj => ?_, fun j => ?_⟩
    · rw [cr]
      rw [List.getElem?_replicate] at hj
      split at hj
      · rename_i hlt
        cases hj
        unfold madeCells
        simp [Value.cells, hlt, Nat.mod_one]
      · cases hj
    · unfold World.frozen?; rw [hb]; simp
def blkOf : Value → Nat
  | .slice (some a) _ _ => a.block
  | .pointer (some a) => a.block
  | _ => 0
structure InvM (n : Nat) (v : Value) (w : World) (done : Nat → Bool) (val : Nat → Value) (x : World) : Prop where
  q : Q w x
  v0 : ∀ k, k = 0 ∨ k = 3 ∨ k = 6 → done k = true → val k = v
  v1 : ∀ k, k = 1 ∨ k = 4 ∨ k = 7 → done k = true → val k = .int .i64 (n : Int)
  mks : ∀ k, k = 2 ∨ k = 5 ∨ k = 8 → done k = true → ∃ g, val k = .slice (some ⟨g, 0, none⟩) n n ∧ w.heap.size ≤ g ∧ g < x.heap.size ∧ IRow x g (List.replicate n 0)
  bx : done 9 = true → ∃ g, val 9 = .pointer (some ⟨g, 0, none⟩) ∧ w.heap.size ≤ g ∧ g < x.heap.size ∧ x.cell? ⟨g, 0, none⟩ = some (if done 11 = true then val 5 else .slice none 0 0) ∧ x.frozen? ⟨g, 0, none⟩ = false
  ap : ∀ i j, (i = 2 ∨ i = 5 ∨ i = 8 ∨ i = 9) → (j = 2 ∨ j = 5 ∨ j = 8 ∨ j = 9) → i ≠ j → done i = true → done j = true → blkOf (val i) ≠ blkOf (val j)
  d10 : done 10 = true → val 10 = val 2 ∧ done 2 = true
  d11 : done 11 = true → done 5 = true ∧ done 9 = true
  d12 : done 12 = true → val 12 = val 8 ∧ done 8 = true
theorem InvM.lt {n : Nat} {v : Value} {w : World} {done : Nat → Bool} {val : Nat → Value} {x : World} (I : InvM n v w done val x) {j : Nat} (hj : j = 2 ∨ j = 5 ∨ j = 8 ∨ j = 9) (hd : done j = true) : blkOf (val j) < x.heap.size := by
  rcases hj with rfl | rfl | rfl | rfl
  · obtain ⟨g, e, _, h, _⟩ := I.mks 2 (by simp) hd; rw [e]; exact h
  · obtain ⟨g, e, _, h, _⟩ := I.mks 5 (by simp) hd; rw [e]; exact h
  · obtain ⟨g, e, _, h, _⟩ := I.mks 8 (by simp) hd; rw [e]; exact h
  · obtain ⟨g, e, _, h, _⟩ := I.bx hd; rw [e]; exact h
theorem upd_true' {f : Nat → Bool} {i j : Nat} (h : f j = true) : upd f i true j = true := by unfold upd; split <;> first | rfl | exact h
theorem InvM.keep {n : Nat} {v : Value} {w : World} {done : Nat → Bool} {val : Nat → Value} {x x' : World} (I : InvM n v w done val x) {k : Nat} (hk : done k = false) (q : Q x x') {u : Value}
    (h0 : k = 0 ∨ k = 3 ∨ k = 6 → u = v) (h1 : k = 1 ∨ k = 4 ∨ k = 7 → u = .int .i64 (n : Int)) (h2 : k = 2 ∨ k = 5 ∨ k = 8 → ∃ g, u = .slice (some ⟨g, 0, none⟩) n n ∧ x.heap.size ≤ g ∧ g < x'.heap.size ∧ IRow x' g (List.replicate n 0))
    (h9 : k = 9 → done 11 = false ∧ ∃ g, u = .pointer (some ⟨g, 0, none⟩) ∧ x.heap.size ≤ g ∧ g < x'.heap.size ∧ x'.cell? ⟨g, 0, none⟩ = some (.slice none 0 0) ∧ x'.frozen? ⟨g, 0, none⟩ = false)
    (h10 : k = 10 → u = val 2 ∧ done 2 = true) (h11 : k ≠ 11) (h12 : k = 12 → u = val 8 ∧ done 8 = true) : InvM n v w (upd done k true) (upd val k u) x' := by
  have old : ∀ j, j ≠ k → upd done k true j = done j := fun j e => upd_ne _ _ e
  have oldv : ∀ j, j ≠ k → upd val k u j = val j := fun j e => upd_ne _ _ e
  have new : ∀ j, (j = 2 ∨ j = 5 ∨ j = 8 ∨ j = 9) → j = k → x.heap.size ≤ blkOf u := fun j hj e => by
    subst e
    rcases hj with rfl | rfl | rfl | rfl
    · obtain ⟨g, e, h, _⟩ := h2 (by simp); rw [e]; exact h
    · obtain ⟨g, e, h, _⟩ := h2 (by simp); rw [e]; exact h
    · obtain ⟨g, e, h, _⟩ := h2 (by simp); rw [e]; exact h
    · obtain ⟨_, g, e, h, _⟩ := h9 rfl; rw [e]; exact h
  have hsz := q.1.size
  have hws := I.q.1.size
  refine ⟨I.q.trans q, fun j hj hd => ?_, fun j hj hd => ?_, fun j hj hd => ?_, fun hd => ?_, fun i j hi hj hij hdi hdj => ?_, fun hd => ?_, fun hd => ?_, fun hd => ?_⟩
  · by_cases e : j = k
    · subst e; rw [upd_eq]; exact h0 hj
    · rw [old j e] at hd; rw [oldv j e]; exact I.v0 j hj hd
  · by_cases e : j = k
    · subst e; rw [upd_eq]; exact h1 hj
    · rw [old j e] at hd; rw [oldv j e]; exact I.v1 j hj hd
  · by_cases e : j = k
    · subst e; rw [upd_eq]
      obtain ⟨g, a1, a2, a3, a4⟩ := h2 hj
      exact ⟨g, a1, by omega, a3, a4⟩
    · rw [old j e] at hd; rw [oldv j e]
      obtain ⟨g, a1, a2, a3, a4⟩ := I.mks j hj hd
      exact ⟨g, a1, a2, by omega, a4.next q⟩
  · by_cases e : 9 = k
    · subst e
      rw [upd_eq, old 11 (by decide)]
      obtain ⟨a0, g, a1, a2, a3, a4, a5⟩ := h9 rfl
      refine ⟨g, a1, by omega, a3, ?_, a5⟩
      rw [a0]; exact a4
    · rw [old 9 e] at hd
      obtain ⟨g, a1, a2, a3, a4, a5⟩ := I.bx hd
      refine ⟨g, by rw [oldv 9 e]; exact a1, a2, by omega, ?_, by rw [q.2]; exact a5⟩
      rw [old 11 (Ne.symm h11)]
      by_cases c : done 11 = true
      · rw [if_pos c] at a4 ⊢
        have h5 : (5 : Nat) ≠ k := fun e => by subst e; rw [(I.d11 c).1] at hk; cases hk
        rw [oldv 5 h5]; exact q.cell a4
      · rw [if_neg c] at a4 ⊢; exact q.cell a4
  · by_cases e : i = k
    · have ej : j ≠ k := fun h => hij (e.trans h.symm)
      rw [old j ej] at hdj
      have := new i hi e
      have := I.lt hj hdj
      rw [oldv j ej, e, upd_eq]; omega
    · rw [old i e] at hdi
      have hi' := I.lt hi hdi
      by_cases ej : j = k
      · have := new j hj ej
        rw [oldv i e, ej, upd_eq]; omega
      · rw [old j ej] at hdj
        rw [oldv i e, oldv j ej]; exact I.ap i j hi hj hij hdi hdj
  · by_cases e : 10 = k
    · subst e; rw [upd_eq, oldv 2 (by decide), old 2 (by decide)]; exact h10 rfl
    · rw [old 10 e] at hd
      obtain ⟨a1, a2⟩ := I.d10 hd
      have h5 : (2 : Nat) ≠ k := fun e => by subst e; rw [a2] at hk; cases hk
      rw [oldv 10 e, oldv 2 h5, old 2 h5]; exact ⟨a1, a2⟩
  · rw [old 11 (Ne.symm h11)] at hd
    obtain ⟨a1, a2⟩ := I.d11 hd
    exact ⟨upd_true' a1, upd_true' a2⟩
  · by_cases e : 12 = k
    · subst e; rw [upd_eq, oldv 8 (by decide), old 8 (by decide)]; exact h12 rfl
    · rw [old 12 e] at hd
      obtain ⟨a1, a2⟩ := I.d12 hd
      have h5 : (8 : Nat) ≠ k := fun e => by subst e; rw [a2] at hk; cases hk
      rw [oldv 12 e, oldv 8 h5, old 8 h5]; exact ⟨a1, a2⟩
theorem InvM.store {n : Nat} {v : Value} {w : World} {done : Nat → Bool} {val : Nat → Value} {x : World} (I : InvM n v w done val x) (hk : done 11 = false) (h5 : done 5 = true) (h9 : done 9 = true) {g : Nat} (hg : val 9 = .pointer (some ⟨g, 0, none⟩)) (u : Value) :
    InvM n v w (upd done 11 true) (upd val 11 u) (x.setCell ⟨g, 0, none⟩ (val 5)) := by
  have old : ∀ j, j ≠ 11 → upd done 11 true j = done j := fun j e => upd_ne _ _ e
  have oldv : ∀ j, j ≠ 11 → upd val 11 u j = val j := fun j e => upd_ne _ _ e
  obtain ⟨g', a1, a2, a3, a4, a5⟩ := I.bx h9
  rw [hg] at a1
  cases a1
  refine ⟨I.q.set a2 _, fun j hj hd => ?_, fun j hj hd => ?_, fun j hj hd => ?_, fun hd => ?_, fun i j hi hj hij hdi hdj => ?_, fun hd => ?_, fun hd => ?_, fun hd => ?_⟩
  · have e : j ≠ 11 := by omega
    rw [old j e] at hd; rw [oldv j e]; exact I.v0 j hj hd
  · have e : j ≠ 11 := by omega
    rw [old j e] at hd; rw [oldv j e]; exact I.v1 j hj hd
  · have e : j ≠ 11 := by omega
    rw [old j e] at hd; rw [oldv j e]
    obtain ⟨g', b1, b2, b3, b4⟩ := I.mks j hj hd
    refine ⟨g', b1, b2, by simpa using b3, b4.other ?_ _⟩
    have := I.ap 9 j (by simp) (by omega) (by omega) h9 hd
    rw [hg, b1] at this
    exact this
  · refine ⟨g, by rw [oldv 9 (by decide)]; exact hg, a2, by simpa using a3, ?_, by rw [World.frozen?_setCell]; exact a5⟩
    rw [upd_eq, if_pos rfl, oldv 5 (by decide)]
    exact World.cell?_setCell_same _ _ _ a4
  · rw [old i (by omega)] at hdi
    rw [old j (by omega)] at hdj
    rw [oldv i (by omega), oldv j (by omega)]
    exact I.ap i j hi hj hij hdi hdj
  · rw [old 10 (by decide)] at hd
    rw [oldv 10 (by decide), oldv 2 (by decide), old 2 (by decide)]; exact I.d10 hd
  · rw [old 5 (by decide), old 9 (by decide)]; exact ⟨h5, h9⟩
  · rw [old 12 (by decide)] at hd
    rw [oldv 12 (by decide), oldv 8 (by decide), old 8 (by decide)]; exact I.d12 hd
def oMk_0 : Oper := { dst := some 11, op := .move (.tmp 0), type := 51, pos := "share.go:37", after := #[], guard := none }
def oMk_1 : Oper := { dst := some 12, op := .call { callee := .builtin .len, args := #[.tmp 11], argTypes := #[51] }, type := 3, pos := "share.go:37", after := #[⟨0, .data⟩], guard := none }
def oMk_2 : Oper := { dst := some 13, op := .makeSlice 51 (.tmp 12) (.tmp 12), type := 51, pos := "share.go:37", after := #[⟨1, .data⟩, ⟨1, .data⟩], guard := none }
def oMk_3 : Oper := { dst := some 14, op := .move (.tmp 0), type := 51, pos := "share.go:37", after := #[], guard := none }
def oMk_4 : Oper := { dst := some 15, op := .call { callee := .builtin .len, args := #[.tmp 14], argTypes := #[51] }, type := 3, pos := "share.go:37", after := #[⟨3, .data⟩], guard := none }
def oMk_5 : Oper := { dst := some 16, op := .makeSlice 51 (.tmp 15) (.tmp 15), type := 51, pos := "share.go:37", after := #[⟨4, .data⟩, ⟨4, .data⟩], guard := none }
def oMk_6 : Oper := { dst := some 17, op := .move (.tmp 0), type := 51, pos := "share.go:37", after := #[], guard := none }
def oMk_7 : Oper := { dst := some 18, op := .call { callee := .builtin .len, args := #[.tmp 17], argTypes := #[51] }, type := 3, pos := "share.go:37", after := #[⟨6, .data⟩], guard := none }
def oMk_8 : Oper := { dst := some 19, op := .makeSlice 51 (.tmp 18) (.tmp 18), type := 51, pos := "share.go:37", after := #[⟨7, .data⟩, ⟨7, .data⟩], guard := none }
def oMk_9 : Oper := { dst := some 5, op := .alloc 51, type := 0, pos := "share.go:37", after := #[], guard := none }
def oMk_10 : Oper := { dst := some 4, op := .assign (.tmp 13), type := 51, pos := "share.go:37", after := #[⟨2, .data⟩, ⟨0, .phase⟩, ⟨1, .phase⟩, ⟨2, .phase⟩, ⟨3, .textOnly .lateStores⟩, ⟨4, .textOnly .lateStoresUnsure⟩, ⟨5, .textOnly .lateStoresUnsure⟩, ⟨6, .textOnly .lateStores⟩, ⟨7, .textOnly .lateStoresUnsure⟩, ⟨8, .textOnly .lateStoresUnsure⟩, ⟨9, .phase⟩], guard := none }
def oMk_11 : Oper := { dst := none, op := .store 51 (.tmp 5) (.tmp 16), type := 0, pos := "share.go:37", after := #[⟨9, .data⟩, ⟨5, .data⟩, ⟨10, .chain⟩, ⟨0, .phase⟩, ⟨1, .phase⟩, ⟨2, .phase⟩, ⟨3, .phase⟩, ⟨4, .phase⟩, ⟨5, .phase⟩, ⟨6, .textOnly .lateStores⟩, ⟨7, .textOnly .lateStoresUnsure⟩, ⟨8, .textOnly .lateStoresUnsure⟩, ⟨9, .phase⟩, ⟨10, .phase⟩], guard := none }
def oMk_12 : Oper := { dst := some 6, op := .assign (.tmp 19), type := 51, pos := "share.go:37", after := #[⟨8, .data⟩, ⟨11, .chain⟩, ⟨0, .phase⟩, ⟨1, .phase⟩, ⟨2, .phase⟩, ⟨3, .phase⟩, ⟨4, .phase⟩, ⟨5, .phase⟩, ⟨6, .phase⟩, ⟨7, .phase⟩, ⟨8, .phase⟩, ⟨9, .phase⟩, ⟨10, .phase⟩, ⟨11, .phase⟩], guard := none }
def opsMk : List Oper := [oMk_0, oMk_1, oMk_2, oMk_3, oMk_4, oMk_5, oMk_6, oMk_7, oMk_8, oMk_9, oMk_10, oMk_11, oMk_12]
theorem dstMk : ∀ k, ∀ u ∈ dstOf opsMk k, u ∈ ([4, 5, 6, 11, 12, 13, 14, 15, 16, 17, 18, 19] : List Nat) := by
  intro k u hu
  by_cases h : k < 13
  · have : ∀ k : Nat, k < 13 → ∀ u ∈ dstOf opsMk k, u ∈ ([4, 5, 6, 11, 12, 13, 14, 15, 16, 17, 18, 19] : List Nat) := by decide +kernel
    exact this k h u hu
  · have : opsMk[k]? = none := List.getElem?_eq_none (by show 13 ≤ k; omega)
    unfold dstOf at hu
    rw [this] at hu
    cases hu
set_option maxHeartbeats 1000000 in
theorem hopMk {a0 : Act} {w : World} {n c : Nat} {ad : Option Addr} {R : Exit → Act → World → Prop} (h0 : a0.tmps[0]? = some (.slice ad n c)) (hn : n ≤ 1048576) :
    ∀ k o' (a : Act) x (done : Nat → Bool) (val : Nat → Value), opsMk[k]? = some o' → done k = false → (∀ e ∈ o'.after, Region.binds .any e = true → done e.on = true) → InvM n (.slice ad n c) w done val x → (∀ j, (∀ k, dstOf opsMk k ≠ some j) → a.tmps[j]? = a0.tmps[j]?) → (∀ j t, done j = true → dstOf opsMk j = some t → a.tmps[t]? = some (val j)) → (∀ g b, o'.guard = some (g, b) → val g = .bool b) →
      Shut (o'.wp Try.prog a x (fun a' x' => ∃ v, a' = a.put o'.dst v ∧ InvM n (.slice ad n c) w (upd done k true) (upd val k v) x') R) := by
  intro k o' a x done val ho hd dep I oth vals _
  have far : ∀ u, u ∉ ([4, 5, 6, 11, 12, 13, 14, 15, 16, 17, 18, 19] : List Nat) → a.tmps[u]? = a0.tmps[u]? := fun u hu => oth u (fun k e => hu (dstMk k u e))
  have i0 := (far 0 (by decide)).trans h0
  obtain ⟨M, hM, hF⟩ := make_i n hn
  rcases k with _ | _ | _ | _ | _ | _ | _ | _ | _ | _ | _ | _ | _ | k
  · have e1 : oMk_0 = o' := Option.some.inj ho
    subst e1
    have hrun : (execOp a.eval oMk_0).run Try.prog x = .ok (.value (.slice ad n c)) x := by rw [← tmp_eval i0]; rfl
    refine ⟨?_⟩
    unfold Oper.wp
    rw [hrun]
    exact ⟨_, rfl, I.keep hd (Q.refl x) (fun _ => rfl) (fun h => by omega) (fun h => by omega) (fun h => by omega) (fun h => by omega) (by decide) (fun h => by omega)⟩
  · have e1 : oMk_1 = o' := Option.some.inj ho
    subst e1
    have d0 : done 0 = true := dep ⟨0, .data⟩ (by simp [oMk_1]) rfl
    have t0 := vals 0 11 d0 rfl
    rw [I.v0 0 (by simp) d0] at t0
    have hrun : (execOp a.eval oMk_1).run Try.prog x = .ok (.value (.int .i64 (n : Int))) x := by
      simp [oMk_1, execOp, resolve, invoke, builtin, t0, go_sem]
    refine ⟨?_⟩
    unfold Oper.wp
    rw [hrun]
    exact ⟨_, rfl, I.keep hd (Q.refl x) (fun h => by omega) (fun _ => rfl) (fun h => by omega) (fun h => by omega) (fun h => by omega) (by decide) (fun h => by omega)⟩
  · have e1 : oMk_2 = o' := Option.some.inj ho
    subst e1
    have d1 : done 1 = true := dep ⟨1, .data⟩ (by simp [oMk_2]) rfl
    have t1 := vals 1 12 d1 rfl
    rw [I.v1 1 (by simp) d1] at t1
    have hrun : (execOp a.eval oMk_2).run Try.prog x = .ok (.value (.slice (some ⟨x.heap.size, 0, none⟩) n n)) (x.alloc (.cells M 3)) := by
      have := tmp_eval t1
      simp [oMk_2, execOp, this, hM]
    refine ⟨?_⟩
    unfold Oper.wp
    rw [hrun]
    exact ⟨_, rfl, I.keep hd ((Q.refl x).cells _ _) (fun h => by omega) (fun h => by omega) (fun _ => ⟨_, rfl, Nat.le_refl _, by simp, hF x⟩) (fun h => by omega) (fun h => by omega) (by decide) (fun h => by omega)⟩
  · have e1 : oMk_3 = o' := Option.some.inj ho
    subst e1
    have hrun : (execOp a.eval oMk_3).run Try.prog x = .ok (.value (.slice ad n c)) x := by rw [← tmp_eval i0]; rfl
    refine ⟨?_⟩
    unfold Oper.wp
    rw [hrun]
    exact ⟨_, rfl, I.keep hd (Q.refl x) (fun _ => rfl) (fun h => by omega) (fun h => by omega) (fun h => by omega) (fun h => by omega) (by decide) (fun h => by omega)⟩
  · have e1 : oMk_4 = o' := Option.some.inj ho
    subst e1
    have d3 : done 3 = true := dep ⟨3, .data⟩ (by simp [oMk_4]) rfl
    have t3 := vals 3 14 d3 rfl
    rw [I.v0 3 (by simp) d3] at t3
    have hrun : (execOp a.eval oMk_4).run Try.prog x = .ok (.value (.int .i64 (n : Int))) x := by
      simp [oMk_4, execOp, resolve, invoke, builtin, t3, go_sem]
    refine ⟨?_⟩
    unfold Oper.wp
    rw [hrun]
    exact ⟨_, rfl, I.keep hd (Q.refl x) (fun h => by omega) (fun _ => rfl) (fun h => by omega) (fun h => by omega) (fun h => by omega) (by decide) (fun h => by omega)⟩
  · have e1 : oMk_5 = o' := Option.some.inj ho
    subst e1
    have d4 : done 4 = true := dep ⟨4, .data⟩ (by simp [oMk_5]) rfl
    have t4 := vals 4 15 d4 rfl
    rw [I.v1 4 (by simp) d4] at t4
    have hrun : (execOp a.eval oMk_5).run Try.prog x = .ok (.value (.slice (some ⟨x.heap.size, 0, none⟩) n n)) (x.alloc (.cells M 3)) := by
      have := tmp_eval t4
      simp [oMk_5, execOp, this, hM]
    refine ⟨?_⟩
    unfold Oper.wp
    rw [hrun]
    exact ⟨_, rfl, I.keep hd ((Q.refl x).cells _ _) (fun h => by omega) (fun h => by omega) (fun _ => ⟨_, rfl, Nat.le_refl _, by simp, hF x⟩) (fun h => by omega) (fun h => by omega) (by decide) (fun h => by omega)⟩
  · have e1 : oMk_6 = o' := Option.some.inj ho
    subst e1
    have hrun : (execOp a.eval oMk_6).run Try.prog x = .ok (.value (.slice ad n c)) x := by rw [← tmp_eval i0]; rfl
    refine ⟨?_⟩
    unfold Oper.wp
    rw [hrun]
    exact ⟨_, rfl, I.keep hd (Q.refl x) (fun _ => rfl) (fun h => by omega) (fun h => by omega) (fun h => by omega) (fun h => by omega) (by decide) (fun h => by omega)⟩
  · have e1 : oMk_7 = o' := Option.some.inj ho
    subst e1
    have d6 : done 6 = true := dep ⟨6, .data⟩ (by simp [oMk_7]) rfl
    have t6 := vals 6 17 d6 rfl
    rw [I.v0 6 (by simp) d6] at t6
    have hrun : (execOp a.eval oMk_7).run Try.prog x = .ok (.value (.int .i64 (n : Int))) x := by
      simp [oMk_7, execOp, resolve, invoke, builtin, t6, go_sem]
    refine ⟨?_⟩
    unfold Oper.wp
    rw [hrun]
    exact ⟨_, rfl, I.keep hd (Q.refl x) (fun h => by omega) (fun _ => rfl) (fun h => by omega) (fun h => by omega) (fun h => by omega) (by decide) (fun h => by omega)⟩
  · have e1 : oMk_8 = o' := Option.some.inj ho
    subst e1
    have d7 : done 7 = true := dep ⟨7, .data⟩ (by simp [oMk_8]) rfl
    have t7 := vals 7 18 d7 rfl
    rw [I.v1 7 (by simp) d7] at t7
    have hrun : (execOp a.eval oMk_8).run Try.prog x = .ok (.value (.slice (some ⟨x.heap.size, 0, none⟩) n n)) (x.alloc (.cells M 3)) := by
      have := tmp_eval t7
      simp [oMk_8, execOp, this, hM]
    refine ⟨?_⟩
    unfold Oper.wp
    rw [hrun]
    exact ⟨_, rfl, I.keep hd ((Q.refl x).cells _ _) (fun h => by omega) (fun h => by omega) (fun _ => ⟨_, rfl, Nat.le_refl _, by simp, hF x⟩) (fun h => by omega) (fun h => by omega) (by decide) (fun h => by omega)⟩
  · have e1 : oMk_9 = o' := Option.some.inj ho
    subst e1
    have hrun : (execOp a.eval oMk_9).run Try.prog x = .ok (.value (.pointer (some ⟨x.heap.size, 0, none⟩))) (x.alloc (.cells #[.slice none 0 0] 51)) := by
      simp [oMk_9, execOp, go_sem]
    have h11 : done 11 = false := by
      cases e : done 11
      · rfl
      · rw [(I.d11 e).2] at hd; cases hd
    refine ⟨?_⟩
    unfold Oper.wp
    rw [hrun]
    exact ⟨_, rfl, I.keep hd ((Q.refl x).cells _ _) (fun h => by omega) (fun h => by omega) (fun h => by omega) (fun _ => ⟨h11, _, rfl, Nat.le_refl _, by simp, by simp [go_sem], by simp [go_sem]⟩) (fun h => by omega) (by decide) (fun h => by omega)⟩
  · have e1 : oMk_10 = o' := Option.some.inj ho
    subst e1
    have d2 : done 2 = true := dep ⟨2, .data⟩ (by simp [oMk_10]) rfl
    have t2 := vals 2 13 d2 rfl
    have hrun : (execOp a.eval oMk_10).run Try.prog x = .ok (.value (val 2)) x := by rw [← tmp_eval t2]; rfl
    refine ⟨?_⟩
    unfold Oper.wp
    rw [hrun]
    exact ⟨_, rfl, I.keep hd (Q.refl x) (fun h => by omega) (fun h => by omega) (fun h => by omega) (fun h => by omega) (fun _ => ⟨rfl, d2⟩) (by decide) (fun h => by omega)⟩
  · have e1 : oMk_11 = o' := Option.some.inj ho
    subst e1
    have d9 : done 9 = true := dep ⟨9, .data⟩ (by simp [oMk_11]) rfl
    have t9 := vals 9 5 d9 rfl
    have d5 : done 5 = true := dep ⟨5, .data⟩ (by simp [oMk_11]) rfl
    have t5 := vals 5 16 d5 rfl
    obtain ⟨g, b1, b2, b3, b4, b5⟩ := I.bx d9
    obtain ⟨g5, c1, c2, c3, c4⟩ := I.mks 5 (by simp) d5
    have hrun : (execOp a.eval oMk_11).run Try.prog x = .ok .skip (x.setCell ⟨g, 0, none⟩ (val 5)) := by
      rw [b1] at t9
      rw [c1] at t5 ⊢
      simp [oMk_11, execOp, t9, t5, go_sem, b4, b5]
    refine ⟨?_⟩
    unfold Oper.wp
    rw [hrun]
    exact ⟨_, rfl, I.store hd d5 d9 b1 _⟩
  · have e1 : oMk_12 = o' := Option.some.inj ho
    subst e1
    have d8 : done 8 = true := dep ⟨8, .data⟩ (by simp [oMk_12]) rfl
    have t8 := vals 8 19 d8 rfl
    have hrun : (execOp a.eval oMk_12).run Try.prog x = .ok (.value (val 8)) x := by rw [← tmp_eval t8]; rfl
    refine ⟨?_⟩
    unfold Oper.wp
    rw [hrun]
    exact ⟨_, rfl, I.keep hd (Q.refl x) (fun h => by omega) (fun h => by omega) (fun h => by omega) (fun h => by omega) (fun h => by omega) (by decide) (fun _ => ⟨rfl, d8⟩)⟩
  · have : opsMk[k + 13]? = none := List.getElem?_eq_none (by show 13 ≤ k + 13; omega)
    rw [this] at ho
    cases ho
/-- Three rows and a box. -/
structure Made3 (w x : World) (n g gr go gb : Nat) : Prop where
  q : Q w x
  l1 : w.heap.size ≤ g
  l2 : w.heap.size ≤ gr
  l3 : w.heap.size ≤ go
  l4 : w.heap.size ≤ gb
  r1 : IRow x g (List.replicate n 0)
  r2 : IRow x gr (List.replicate n 0)
  r3 : IRow x go (List.replicate n 0)
  box : x.cell? ⟨gb, 0, none⟩ = some (.slice (some ⟨gr, 0, none⟩) n n)
  n12 : g ≠ gr
  n13 : g ≠ go
  n14 : g ≠ gb
  n23 : gr ≠ go
  n24 : gr ≠ gb
  n34 : go ≠ gb
  b1 : g < x.heap.size
  b2 : gr < x.heap.size
  b3 : go < x.heap.size
set_option maxHeartbeats 1000000 in
theorem regionMk {id : Nat} {l : List Oper} {R : Exit → Act → World → Prop} {a0 : Act} {w : World} {n c : Nat} {ad : Option Addr} (hl : l = opsMk) (hsz : a0.tmps.size = 66) (h0 : a0.tmps[0]? = some (.slice ad n c)) (hn : n ≤ 1048576)
    (hR : ∀ x g gr go gb, Made3 w x n g gr go gb → R .normal (putAll a0 [(11, .slice ad n c), (12, .int .i64 (n : Int)), (13, .slice (some ⟨g, 0, none⟩) n n), (14, .slice ad n c), (15, .int .i64 (n : Int)), (16, .slice (some ⟨gr, 0, none⟩) n n), (17, .slice ad n c), (18, .int .i64 (n : Int)), (19, .slice (some ⟨go, 0, none⟩) n n), (5, .pointer (some ⟨gb, 0, none⟩)), (4, .slice (some ⟨g, 0, none⟩) n n), (6, .slice (some ⟨go, 0, none⟩) n n)]) x) :
    (Code.region id l.toArray true).wp Try.prog R a0 w := by
  subst hl
  refine wp_region_slots (InvM n (.slice ad n c) w) (by kernel_rfl) (by decide +kernel) ?_ ⟨(Q.refl w).drew, (fun _ _ h => (by cases h)), (fun _ _ h => (by cases h)), (fun _ _ h => (by cases h)), (fun h => (by cases h)), (fun _ _ _ _ _ h => (by cases h)), (fun h => (by cases h)), (fun h => (by cases h)), (fun h => (by cases h))⟩ (hopMk h0 hn) ?_ ?_
  · intro k u hk
    rw [hsz]
    have := dstMk k u hk
    clear hk
    revert u
    decide
  · intro k o' x done val g' b ho _ _ _ hg _
    have key : ∀ k : Nat, k < 13 → ((opsMk[k]?).bind fun o : Oper => o.guard) = none := by decide +kernel
    have := key k (List.getElem?_eq_some_iff.1 ho).1
    rw [ho] at this
    have : o'.guard = none := this
    rw [this] at hg
    cases hg
  · intro a x val I size defers other facts
    have dn : ∀ k, k < 13 → (decide (k < opsMk.length)) = true := fun k hk => decide_eq_true hk
    obtain ⟨g, a1, a2, a3, a4⟩ := I.mks 2 (by simp) (dn 2 (by decide))
    obtain ⟨gr, b1, b2, b3, b4⟩ := I.mks 5 (by simp) (dn 5 (by decide))
    obtain ⟨go, c1, c2, c3, c4⟩ := I.mks 8 (by simp) (dn 8 (by decide))
    obtain ⟨gb, d1, d2, d3, d4, d5⟩ := I.bx (dn 9 (by decide))
    rw [if_pos (dn 11 (by decide)), b1] at d4
    have ap : ∀ i j, (i = 2 ∨ i = 5 ∨ i = 8 ∨ i = 9) → (j = 2 ∨ j = 5 ∨ j = 8 ∨ j = 9) → i ≠ j → blkOf (val i) ≠ blkOf (val j) := fun i j hi hj hij => I.ap i j hi hj hij (dn i (by omega)) (dn j (by omega))
    have hA := act_puts (a := a) (a0 := a0) [(11, .slice ad n c), (12, .int .i64 (n : Int)), (13, .slice (some ⟨g, 0, none⟩) n n), (14, .slice ad n c), (15, .int .i64 (n : Int)), (16, .slice (some ⟨gr, 0, none⟩) n n), (17, .slice ad n c), (18, .int .i64 (n : Int)), (19, .slice (some ⟨go, 0, none⟩) n n), (5, .pointer (some ⟨gb, 0, none⟩)), (4, .slice (some ⟨g, 0, none⟩) n n), (6, .slice (some ⟨go, 0, none⟩) n n)] (by show ([11, 12, 13, 14, 15, 16, 17, 18, 19, 5, 4, 6] : List Nat).Nodup; decide) size defers (fun j hj => other j (fun k e => hj (by have := dstMk k j e; revert this; simp only [List.map_cons, List.map_nil, List.mem_cons, List.not_mem_nil, or_false]; omega))) (fun r hr => ?_)
    · refine ⟨?_⟩
      rw [hA]
      have p25 := ap 2 5 (by simp) (by simp) (by decide)
      have p28 := ap 2 8 (by simp) (by simp) (by decide)
      have p29 := ap 2 9 (by simp) (by simp) (by decide)
      have p58 := ap 5 8 (by simp) (by simp) (by decide)
      have p59 := ap 5 9 (by simp) (by simp) (by decide)
      have p89 := ap 8 9 (by simp) (by simp) (by decide)
      rw [a1, b1] at p25
      rw [a1, c1] at p28
      rw [a1, d1] at p29
      rw [b1, c1] at p58
      rw [b1, d1] at p59
      rw [c1, d1] at p89
      exact hR x g gr go gb ⟨I.q, a2, b2, c2, d2, a4, b4, c4, d4, p25, p28, p29, p58, p59, p89, a3, b3, c3⟩
    · simp only [List.mem_cons, List.not_mem_nil, or_false] at hr
      rcases hr with rfl | rfl | rfl | rfl | rfl | rfl | rfl | rfl | rfl | rfl | rfl | rfl
      · exact (facts 0 11 rfl).trans (congrArg some (I.v0 0 (by simp) (dn 0 (by decide))))
      · exact (facts 1 12 rfl).trans (congrArg some (I.v1 1 (by simp) (dn 1 (by decide))))
      · exact (facts 2 13 rfl).trans (congrArg some a1)
      · exact (facts 3 14 rfl).trans (congrArg some (I.v0 3 (by simp) (dn 3 (by decide))))
      · exact (facts 4 15 rfl).trans (congrArg some (I.v1 4 (by simp) (dn 4 (by decide))))
      · exact (facts 5 16 rfl).trans (congrArg some b1)
      · exact (facts 6 17 rfl).trans (congrArg some (I.v0 6 (by simp) (dn 6 (by decide))))
      · exact (facts 7 18 rfl).trans (congrArg some (I.v1 7 (by simp) (dn 7 (by decide))))
      · exact (facts 8 19 rfl).trans (congrArg some c1)
      · exact (facts 9 5 rfl).trans (congrArg some d1)
      · exact (facts 10 4 rfl).trans (congrArg some ((I.d10 (dn 10 (by decide))).1.trans a1))
      · exact (facts 12 6 rfl).trans (congrArg some ((I.d12 (dn 12 (by decide))).1.trans c1))
set_option maxRecDepth 100000 in
theorem normMk {t0 t1 t2 t3 t4 t5 t6 t7 t8 t9 t10 t11 t12 t13 t14 t15 t16 t17 t18 t19 t20 t21 t22 t23 t24 t25 t26 t27 t28 t29 t30 t31 t32 t33 t34 t35 t36 t37 t38 t39 t40 t41 t42 t43 t44 t45 t46 t47 t48 t49 t50 t51 t52 t53 t54 t55 t56 t57 t58 t59 t60 t61 t62 t63 t64 t65 v11 v12 v13 v14 v15 v16 v17 v18 v19 v5 v4 v6 : Value} {d : List Deferred} : putAll ⟨#[t0, t1, t2, t3, t4, t5, t6, t7, t8, t9, t10, t11, t12, t13, t14, t15, t16, t17, t18, t19, t20, t21, t22, t23, t24, t25, t26, t27, t28, t29, t30, t31, t32, t33, t34, t35, t36, t37, t38, t39, t40, t41, t42, t43, t44, t45, t46, t47, t48, t49, t50, t51, t52, t53, t54, t55, t56, t57, t58, t59, t60, t61, t62, t63, t64, t65], d⟩ [(11, v11), (12, v12), (13, v13), (14, v14), (15, v15), (16, v16), (17, v17), (18, v18), (19, v19), (5, v5), (4, v4), (6, v6)] = ⟨#[t0, t1, t2, t3, v4, v5, v6, t7, t8, t9, t10, v11, v12, v13, v14, v15, v16, v17, v18, v19, t20, t21, t22, t23, t24, t25, t26, t27, t28, t29, t30, t31, t32, t33, t34, t35, t36, t37, t38, t39, t40, t41, t42, t43, t44, t45, t46, t47, t48, t49, t50, t51, t52, t53, t54, t55, t56, t57, t58, t59, t60, t61, t62, t63, t64, t65], d⟩ := by
  kernel_rfl
end Go.Proofs.Ytdbbpmadkhedlaa
/- Shares of 65536, plain: rounded down, and one more of those whose rests are the greatest. -/
namespace Go.Proofs.Ytdbbpmadkhedlaa
open Go.Sort
set_option linter.unusedVariables false
set_option linter.unusedSimpArgs false

def sumF (f : Nat → Int) : Nat → Int
  | 0 => 0
  | k + 1 => sumF f k + f k
theorem sumF_congr {f g : Nat → Int} : ∀ n, (∀ i, i < n → f i = g i) → sumF f n = sumF g n
  | 0, _ => rfl
  | n + 1, h => by unfold sumF; rw [sumF_congr n (fun i hi => h i (by omega)), h n (by omega)]
theorem sumF_add (f g : Nat → Int) : ∀ n, sumF (fun i => f i + g i) n = sumF f n + sumF g n
  | 0 => rfl
  | n + 1 => by unfold sumF; rw [sumF_add f g n]; omega
theorem sumF_mul (c : Int) (f : Nat → Int) : ∀ n, sumF (fun i => c * f i) n = c * sumF f n
  | 0 => by simp [sumF]
  | n + 1 => by unfold sumF; rw [sumF_mul c f n, Int.mul_add]
theorem sumF_mono {f g : Nat → Int} : ∀ n, (∀ i, i < n → f i ≤ g i) → sumF f n ≤ sumF g n
  | 0, _ => Int.le_refl _
  | n + 1, h => by unfold sumF; have := sumF_mono n (fun i hi => h i (by omega)); have := h n (by omega); omega
theorem sumF_const (c : Int) : ∀ n : Nat, sumF (fun _ => c) n = (n : Int) * c
  | 0 => by simp [sumF]
  | n + 1 => by unfold sumF; rw [sumF_const c n, show ((n + 1 : Nat) : Int) = (n : Int) + 1 by omega, Int.add_mul]; omega
theorem sumF_nonneg {f : Nat → Int} (n : Nat) (h : ∀ i, i < n → 0 ≤ f i) : 0 ≤ sumF f n := by
  have := sumF_mono (f := fun _ => 0) n h
  rw [sumF_const] at this
  omega
/-- Rounded down, and what is left. -/
def flo (z : Nat → Int) (S : Int) (i : Nat) : Int := 65536 * z i / S
def rsV (z : Nat → Int) (S : Int) (i : Int) : Int := 65536 * z i.toNat % S
def missV (z : Nat → Int) (S : Int) (n : Nat) : Int := 65536 - sumF (flo z S) n
theorem flo_rs (z : Nat → Int) (S : Int) (i : Nat) : S * flo z S i + rsV z S i = 65536 * z i := by
  unfold flo rsV
  rw [Int.toNat_natCast]
  exact Int.mul_ediv_add_emod _ _
theorem rs_nonneg (z : Nat → Int) {S : Int} (hS : 0 < S) (i : Int) : 0 ≤ rsV z S i := Int.emod_nonneg _ (by omega)
theorem rs_lt (z : Nat → Int) {S : Int} (hS : 0 < S) (i : Int) : rsV z S i < S := Int.emod_lt_of_pos _ hS
theorem miss_eq (z : Nat → Int) {S : Int} {n : Nat} (hS : S = sumF z n) : S * missV z S n = sumF (fun i => rsV z S i) n := by
  have h1 : sumF (fun i => 65536 * z i) n = sumF (fun i => S * flo z S i + rsV z S i) n := sumF_congr n (fun i _ => (flo_rs z S i).symm)
  rw [sumF_mul, sumF_add, sumF_mul, ← hS] at h1
  unfold missV
  rw [Int.mul_sub, Int.mul_comm S 65536]
  omega
theorem miss_ge (z : Nat → Int) {S : Int} {n : Nat} (hS : S = sumF z n) (h0 : 0 < S) : 0 ≤ missV z S n := by
  have h1 := miss_eq z hS
  have h2 := sumF_nonneg (f := fun i => rsV z S i) n (fun i _ => rs_nonneg z h0 i)
  rw [← h1] at h2
  rcases Int.lt_or_le (missV z S n) 0 with h | h
  · have := Int.mul_neg_of_pos_of_neg h0 h; omega
  · exact h
theorem miss_le (z : Nat → Int) {S : Int} {n : Nat} (hS : S = sumF z n) (h0 : 0 < S) (hn : 0 < n) : missV z S n < (n : Int) := by
  have h1 := miss_eq z hS
  have h2 := sumF_mono (f := fun i => rsV z S i) (g := fun _ => S - 1) n (fun i _ => by have := rs_lt z h0 i; omega)
  rw [sumF_const, ← h1] at h2
  rcases Int.lt_or_le (missV z S n) (n : Int) with h | h
  · exact h
  · have h3 : S * (n : Int) ≤ S * missV z S n := Int.mul_le_mul_of_nonneg_left h (by omega)
    rw [Int.mul_sub, Int.mul_one, Int.mul_comm (n : Int) S] at h2
    omega
/-- The places 0, 1, .. -/
def placesL (n : Nat) : List Int := (List.range n).map fun i : Nat => (i : Int)
theorem placesL_len (n : Nat) : (placesL n).length = n := by simp [placesL]
theorem placesL_at {n i : Nat} (h : i < n) : (placesL n)[i]? = some (i : Int) := by
  unfold placesL; rw [List.getElem?_map, List.getElem?_range h]; rfl
theorem placesL_mem {n : Nat} {x : Int} : x ∈ placesL n ↔ 0 ≤ x ∧ x < (n : Int) := by
  unfold placesL
  rw [List.mem_map]
  constructor
  · rintro ⟨i, hi, rfl⟩; have := List.mem_range.1 hi; omega
  · rintro ⟨h1, h2⟩; exact ⟨x.toNat, List.mem_range.2 (by omega), by omega⟩
/-- The places by their rests, the greatest first. -/
def ordL (r : Int → Int) (n : Nat) : List Int := (placesL n).mergeSort fun x y => !tltB r y x
theorem ordL_perm (r : Int → Int) (n : Nat) : (ordL r n).Perm (placesL n) := List.mergeSort_perm _ _
theorem ordL_len (r : Int → Int) (n : Nat) : (ordL r n).length = n := by rw [(ordL_perm r n).length_eq, placesL_len]
theorem ordL_mem {r : Int → Int} {n : Nat} {x : Int} : x ∈ ordL r n ↔ 0 ≤ x ∧ x < (n : Int) := by rw [(ordL_perm r n).mem_iff, placesL_mem]
theorem ordL_nodup (r : Int → Int) (n : Nat) : (ordL r n).Nodup := by
  refine (ordL_perm r n).nodup_iff.2 ?_
  unfold placesL
  refine List.Pairwise.map _ ?_ (List.nodup_range (n := n))
  intro a b h e
  exact h (by omega)
theorem ordL_sorted (r : Int → Int) (n : Nat) : (ordL r n).Pairwise fun x y => tltB r y x = false := by
  have h := List.pairwise_mergeSort (le := fun x y => !tltB r y x) (fun a b c h1 h2 => by
    simp only [Bool.not_eq_true'] at h1 h2 ⊢
    exact (swo_tltB r).ntrans c b a h2 h1) (fun a b => by
    cases h1 : tltB r b a
    · rfl
    · have := tltB_iff.1 h1
      cases h2 : tltB r a b
      · rfl
      · have := tltB_iff.1 h2
        exact absurd (tlt_trans (tltB_iff.1 h1) (tltB_iff.1 h2)) tlt_irr) (placesL n)
  exact h.imp (fun h => by simpa using h)
theorem ordL_lt {r : Int → Int} {n : Nat} {i j : Nat} {x y : Int} (hi : (ordL r n)[i]? = some x) (hj : (ordL r n)[j]? = some y) (h : i < j) : tlt r x y := by
  obtain ⟨h1, e1⟩ := List.getElem?_eq_some_iff.1 hi
  obtain ⟨h2, e2⟩ := List.getElem?_eq_some_iff.1 hj
  have hs := List.pairwise_iff_getElem.1 (ordL_sorted r n) i j h1 h2 h
  have hn := List.pairwise_iff_getElem.1 (ordL_nodup r n) i j h1 h2 h
  rw [e1, e2] at hs hn
  exact tlt_tot (fun e => hn e.symm) (fun h => by rw [tltB_iff.2 h] at hs; cases hs)
/-- What a stable sort of the places tells is that list. -/
theorem ordL_of {r : Int → Int} {n : Nat} {d d' : Array Int} (hn : n = d.size) (hd : ∀ i, i < n → d[i]! = (i : Int)) (hP : PermIn 0 n d d') (hT : TS r 0 n d') : d'.toList = ordL r n := by
  have e : d.toList = placesL n := by
    apply List.ext_getElem?
    intro i
    by_cases h : i < n
    · rw [placesL_at h, Array.getElem?_toList, Array.getElem?_eq_getElem (by omega)]
      have := hd i h
      rw [getElem!_pos d i (by omega)] at this
      rw [this]
    · rw [List.getElem?_eq_none (by simp; omega), List.getElem?_eq_none (by rw [placesL_len]; omega)]
  have h := sorted_unique_holds (swo_tltB r) (fun x y h1 h2 => by
    have a1 : ¬ tlt r x y := fun h => by rw [tltB_iff.2 h] at h1; cases h1
    have a2 : ¬ tlt r y x := fun h => by rw [tltB_iff.2 h] at h2; cases h2
    rcases Classical.em (x = y) with e | e
    · exact e
    · exact absurd (tlt_tot e a1) a2) d d' (by rw [← hn]; exact hP) (fun i j h1 h2 h3 => by
    cases h : tltB r d'[j]! d'[i]!
    · rfl
    · exact absurd (tlt_trans (hT i j h1 h2 (by omega)) (tltB_iff.1 h)) tlt_irr)
  rw [h, e]
  rfl
/-- Shares: k of the places have one more. -/
def shrK (z : Nat → Int) (S : Int) (n k i : Nat) : Int := flo z S i + if (i : Int) ∈ (ordL (rsV z S) n).take k then 1 else 0
def shrV (z : Nat → Int) (n : Nat) (i : Nat) : Int := shrK z (sumF z n) n (missV z (sumF z n) n).toNat i
theorem shrK_zero (z : Nat → Int) (S : Int) (n i : Nat) : shrK z S n 0 i = flo z S i := by unfold shrK; rw [List.take_zero, if_neg (by simp)]; omega
theorem shrK_hit {z : Nat → Int} {S : Int} {n k o : Nat} (h : (ordL (rsV z S) n)[k]? = some (o : Int)) : shrK z S n (k + 1) o = shrK z S n k o + 1 ∧ ∀ i, i ≠ o → shrK z S n (k + 1) i = shrK z S n k i := by
  unfold shrK
  have e : (ordL (rsV z S) n).take (k + 1) = (ordL (rsV z S) n).take k ++ [(o : Int)] := by rw [List.take_add_one, h]; rfl
  have hnot : (o : Int) ∉ (ordL (rsV z S) n).take k := fun hm => by
    obtain ⟨i, hi⟩ := List.getElem?_of_mem hm
    have hik : i < k := by have := (List.getElem?_eq_some_iff.1 hi).1; rw [List.length_take] at this; omega
    rw [List.getElem?_take_of_lt hik] at hi
    exact tlt_irr (ordL_lt hi h hik)
  refine ⟨?_, fun i hi => ?_⟩
  · rw [e, if_pos (by simp), if_neg hnot]; omega
  · rw [e]
    congr 1
    by_cases c : (i : Int) ∈ (ordL (rsV z S) n).take k
    · rw [if_pos (List.mem_append_left _ c), if_pos c]
    · rw [if_neg (fun hm => by
        rcases List.mem_append.1 hm with h1 | h1
        · exact c h1
        · rw [List.mem_singleton] at h1; omega), if_neg c]
end Go.Proofs.Ytdbbpmadkhedlaa

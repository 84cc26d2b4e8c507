/- A region that draws its order, by what holds of the operations that have come up, of what they told, and of the world. -/
import Derived.Test.YtieojgblamkgoaaGreatDoorG18e919c4
import Derived.Test.YtieojgblamkgoaaGreatDoorG90fa32cd
namespace Go.Proofs.YtieojgblamkgoaaGreatDoor
open Go.RowKit
set_option linter.unusedVariables false
set_option linter.unusedSimpArgs false

def upd {α : Type} (f : Nat → α) (i : Nat) (v : α) : Nat → α := fun j => if j = i then v else f j
theorem upd_eq {α : Type} (f : Nat → α) (i : Nat) (v : α) : upd f i v i = v := by unfold upd; rw [if_pos rfl]
theorem upd_ne {α : Type} (f : Nat → α) {i j : Nat} (v : α) (h : j ≠ i) : upd f i v j = f j := by unfold upd; rw [if_neg h]
theorem wpAny_invS {P : Program} {ops : Array Oper} {R : Exit → Act → World → Prop} (Inv : Array Bool → Act → World → Prop)
    (hs : ∀ lst a w i o, Inv lst a w → ops[i]? = some o → lst.getD i true = false → (∀ e ∈ o.after, Region.binds .any e = true → lst.getD e.on false = true) → (Region.wanted o (yielded ops a.tmps) = true → o.wp P a w (fun a' w' => Inv (lst.setIfInBounds i true) a' w') R) ∧ (Region.wanted o (yielded ops a.tmps) = false → Inv (lst.setIfInBounds i true) (a.put o.dst undef) w))
    (he : ∀ lst a w, Inv lst a w → (∀ i o, ops[i]? = some o → (∀ e ∈ o.after, Region.binds .any e = true → lst.getD e.on false = true) → lst.getD i true = true) → R .normal a w) :
    ∀ (fuel : Nat) (lst : Array Bool) (a : Act) (w : World), Inv lst a w → lst.toList.countP (· == false) ≤ fuel → wpAny P .any ops R fuel lst a w := by
  have done : ∀ (lst : Array Bool) (a : Act) (w : World), Inv lst a w → Region.ready .any ops lst = [] → R .normal a w := fun lst a w h hr => he lst a w h (fun i o ho hd => by
    cases hc : lst.getD i true with
    | true => rfl
    | false =>
      have : i ∈ Region.ready .any ops lst := mem_ready.2 ⟨hc, o, ho, hd⟩
      rw [hr] at this
      cases this)
  intro fuel
  induction fuel with
  | zero =>
    intro lst a w h hc
    have hr : Region.ready .any ops lst = [] := by
      cases hr : Region.ready .any ops lst with
      | nil => rfl
      | cons j js =>
        have : j ∈ Region.ready .any ops lst := by rw [hr]; exact List.mem_cons_self
        have := ready_pos (mem_ready.1 this).1
        omega
    exact ⟨hr, done lst a w h hr⟩
  | succ fuel ih =>
    intro lst a w h hc
    refine ⟨done lst a w h, fun i hi => ?_⟩
    obtain ⟨h1, o, ho, h2⟩ := mem_ready.1 hi
    obtain ⟨hy, hn⟩ := hs lst a w i o h ho h1 h2
    have hcs := count_set h1
    unfold wpOp
    rw [ho]
    simp only
    cases hw : Region.wanted o (yielded ops a.tmps) with
    | true =>
      rw [if_pos rfl]
      exact Or.inl (Oper.wp_mono (fun a' w' h' => ih _ a' w' h' (by omega)) (hy hw))
    | false =>
      rw [if_neg (by decide)]
      exact ih _ _ _ (hn hw) (by omega)
/-- The slot that an operation fills. -/
def dstOf (l : List Oper) (i : Nat) : Option Nat := (l[i]?).bind (fun o : Oper => o.dst)
theorem dstOf_at {l : List Oper} {i : Nat} {o : Oper} (h : l[i]? = some o) : dstOf l i = o.dst := by unfold dstOf; rw [h]; rfl
/-- Each operation waits for earlier ones alone, and for what guards it; no two fill one slot. -/
def regS (l : List Oper) : Bool := (List.range l.length).all fun k => match l[k]? with
  | some o => (match o.guard with | none => true | some (g, _) => o.after.toList.any (fun e => Region.binds .any e && (e.on == g)) && (dstOf l g).isSome) && ((o.after.toList.all fun e => !(Region.binds .any e) || decide (e.on < k)) && (List.range k).all fun j => match o.dst, dstOf l j with | some t, some u => t != u | _, _ => true)
  | none => true
theorem regS_at {l : List Oper} (h : regS l = true) {k : Nat} {o : Oper} (hk : l[k]? = some o) : (∀ g b, o.guard = some (g, b) → (∃ e ∈ o.after, Region.binds .any e = true ∧ e.on = g) ∧ ∃ t, dstOf l g = some t) ∧ (∀ e ∈ o.after, Region.binds .any e = true → e.on < k) ∧ (∀ j t, j < k → o.dst = some t → dstOf l j ≠ some t) := by
  have hlt : k < l.length := (List.getElem?_eq_some_iff.1 hk).1
  have h1 := List.all_eq_true.1 h k (List.mem_range.2 hlt)
  rw [hk] at h1
  simp only [Bool.and_eq_true] at h1
  refine ⟨fun g b hgd => ?_, fun e he hb => ?_, fun j t hj ht hc => ?_⟩
  · have h2 := h1.1
    rw [hgd] at h2
    simp only [Bool.and_eq_true] at h2
    obtain ⟨e, he, h3⟩ := List.any_eq_true.1 h2.1
    rw [Bool.and_eq_true] at h3
    exact ⟨⟨e, by simpa using he, h3.1, by simpa using h3.2⟩, Option.isSome_iff_exists.1 h2.2⟩
  · have h2 := List.all_eq_true.1 h1.2.1 e (by simpa using he)
    rw [hb] at h2
    simpa using h2
  · have h2 := List.all_eq_true.1 h1.2.2 j (List.mem_range.2 hj)
    rw [ht, hc] at h2
    simp at h2
/-- Does one operation wait for another? -/
def waits (l : List Oper) (k i : Nat) : Bool := match l[k]? with
  | some o => o.after.toList.any fun e => Region.binds .any e && (e.on == i)
  | none => false
structure Slots (I : (Nat → Bool) → (Nat → Value) → World → Prop) (a0 : Act) (l : List Oper) (lst : Array Bool) (a : Act) (x : World) (val : Nat → Value) : Prop where
  size : a.tmps.size = a0.tmps.size
  defers : a.defers = a0.defers
  other : ∀ j, (∀ k, dstOf l k ≠ some j) → a.tmps[j]? = a0.tmps[j]?
  ls : lst.size = l.length
  vals : ∀ j t, lst.getD j false = true → dstOf l j = some t → a.tmps[t]? = some (val j)
  fresh : ∀ j t, lst.getD j false = false → dstOf l j = some t → a.tmps[t]? = a0.tmps[t]?
  closed : ∀ (j : Nat) (o : Oper), lst.getD j false = true → l[j]? = some o → ∀ e ∈ o.after, Region.binds .any e = true → lst.getD e.on false = true
  inv : I (fun i => lst.getD i false) val x
theorem set_upd {lst : Array Bool} {i : Nat} (h : i < lst.size) : (fun j => (lst.setIfInBounds i true).getD j false) = upd (fun j => lst.getD j false) i true := by
  funext j
  by_cases e : j = i
  · subst e; rw [upd_eq]; exact set_eq h
  · rw [upd_ne _ _ e]; exact set_ne (fun e' => e e'.symm)
theorem dst_inj {l : List Oper} (hB : regS l = true) {i j : Nat} {t : Nat} (hi : dstOf l i = some t) (hj : dstOf l j = some t) : i = j := by
  have key : ∀ i j, i < j → dstOf l i = some t → dstOf l j = some t → False := fun i j h hi hj => by
    cases hl : l[j]? with
    | none => unfold dstOf at hj; rw [hl] at hj; cases hj
    | some o =>
      rw [dstOf_at hl] at hj
      exact (regS_at hB hl).2.2 i t h hj hi
  rcases Nat.lt_trichotomy i j with h | h | h
  · exact (key i j h hi hj).elim
  · exact h
  · exact (key j i h hj hi).elim
theorem slots_put {I : (Nat → Bool) → (Nat → Value) → World → Prop} {a0 : Act} {l : List Oper} {lst : Array Bool} {a : Act} {x x' : World} {val : Nat → Value} (T : Slots I a0 l lst a x val) (hB : regS l = true) (hmax : ∀ i t, dstOf l i = some t → t < a0.tmps.size) {i : Nat} {o : Oper} (ho : l[i]? = some o) (v : Value) (hdep : ∀ e ∈ o.after, Region.binds .any e = true → lst.getD e.on false = true) (hI : I (upd (fun j => lst.getD j false) i true) (upd val i v) x') :
    Slots I a0 l (lst.setIfInBounds i true) (a.put o.dst v) x' (upd val i v) := by
  have hil : i < l.length := (List.getElem?_eq_some_iff.1 ho).1
  have hid : dstOf l i = o.dst := dstOf_at ho
  refine ⟨?_, ?_, fun j hj => ?_, by rw [Array.size_setIfInBounds]; exact T.ls, fun j t hlj hjt => ?_, fun j t hlj hjt => ?_, closed_set ho T.closed hdep, by rw [set_upd (by rw [T.ls]; exact hil)]; exact hI⟩
  · cases hd : o.dst with
    | none => exact T.size
    | some t => exact (Array.size_setIfInBounds).trans T.size
  · cases hd : o.dst with
    | none => exact T.defers
    | some t => exact T.defers
  · cases hd : o.dst with
    | none => exact T.other j hj
    | some t =>
      refine (Array.getElem?_setIfInBounds_ne (fun e => hj i ?_)).trans (T.other j hj)
      rw [hid, hd, e]
  · by_cases e : j = i
    · subst e
      rw [hid] at hjt
      rw [hjt, upd_eq]
      exact Array.getElem?_setIfInBounds_self_of_lt (by rw [T.size]; exact hmax j t (by rw [hid]; exact hjt))
    · rw [set_ne (fun e' => e e'.symm)] at hlj
      rw [upd_ne _ _ e]
      cases hd : o.dst with
      | none => exact T.vals j t hlj hjt
      | some t' =>
        refine (Array.getElem?_setIfInBounds_ne (fun e' => e ?_)).trans (T.vals j t hlj hjt)
        subst e'
        exact dst_inj hB hjt (by rw [hid]; exact hd)
  · by_cases e : j = i
    · subst e
      rw [set_eq (by rw [T.ls]; exact hil)] at hlj
      cases hlj
    · rw [set_ne (fun e' => e e'.symm)] at hlj
      cases hd : o.dst with
      | none => exact T.fresh j t hlj hjt
      | some t' =>
        refine (Array.getElem?_setIfInBounds_ne (fun e' => e ?_)).trans (T.fresh j t hlj hjt)
        subst e'
        exact dst_inj hB hjt (by rw [hid]; exact hd)
set_option maxHeartbeats 1000000 in
theorem wp_region_slotsF {P : Program} {id : Nat} {R : Exit → Act → World → Prop} {a0 : Act} {w : World} {l : List Oper} (I : (Nat → Bool) → (Nat → Value) → World → Prop)
    (hm : P.follows .mixedOrders = true) (hB : regS l = true) (hmax : ∀ i t, dstOf l i = some t → t < a0.tmps.size)
    (h0 : I (fun _ => false) (fun _ => undef) w.drew)
    (hop : ∀ i o (a : Act) x (done : Nat → Bool) (val : Nat → Value), l[i]? = some o → done i = false → (∀ e ∈ o.after, Region.binds .any e = true → done e.on = true) → I done val x → (∀ j, (∀ k, dstOf l k ≠ some j) → a.tmps[j]? = a0.tmps[j]?) → (∀ j t, done j = true → dstOf l j = some t → a.tmps[t]? = some (val j)) → (∀ g b, o.guard = some (g, b) → val g = .bool b) → (∀ j t, waits l j i = true → dstOf l j = some t → a.tmps[t]? = a0.tmps[t]?) →
      Shut (o.wp P a x (fun a' x' => ∃ v, a' = a.put o.dst v ∧ I (upd done i true) (upd val i v) x') R))
    (hskip : ∀ i o x (done : Nat → Bool) (val : Nat → Value) g b, l[i]? = some o → done i = false → (∀ e ∈ o.after, Region.binds .any e = true → done e.on = true) → I done val x → o.guard = some (g, b) → val g ≠ .bool b → I (upd done i true) (upd val i undef) x)
    (hend : ∀ (a : Act) x (val : Nat → Value), I (fun i => decide (i < l.length)) val x → a.tmps.size = a0.tmps.size → a.defers = a0.defers → (∀ j, (∀ k, dstOf l k ≠ some j) → a.tmps[j]? = a0.tmps[j]?) → (∀ j t, dstOf l j = some t → a.tmps[t]? = some (val j)) → Shut (R .normal a x)) :
    (Code.region id l.toArray true).wp P R a0 w := by
  have get : ∀ k, l.toArray[k]? = l[k]? := fun k => List.getElem?_toArray
  have hc := List.countP_le_length (l := (Array.replicate l.toArray.size false).toList) (p := (· == false))
  refine wp_region_any hm (wpAny_invS (fun lst a x => ∃ val, Slots I a0 l lst a x val) ?_ ?_ _ _ _ _ ?_ (by simpa using hc))
  · rintro lst a x i o ⟨val, T⟩ ho hl hdep
    rw [get] at ho
    obtain ⟨hg, hdl, hds⟩ := regS_at hB ho
    have hil : i < l.length := (List.getElem?_eq_some_iff.1 ho).1
    have hlf : (fun j => lst.getD j false) i = false := not_got hl
    have gval : ∀ g b, o.guard = some (g, b) → ∃ t, dstOf l g = some t ∧ a.tmps[t]? = some (val g) := fun g b hgd => by
      obtain ⟨⟨e, he, hb, hon⟩, t, ht⟩ := hg g b hgd
      have := hdep e he hb
      rw [hon] at this
      exact ⟨t, ht, T.vals g t this ht⟩
    have hyl : ∀ g b, o.guard = some (g, b) → (Region.wanted o (yielded l.toArray a.tmps) = true ↔ val g = .bool b) := fun g b hgd => by
      obtain ⟨t, ht, hv⟩ := gval g b hgd
      unfold Region.wanted
      rw [hgd]
      simp only [yielded]
      rw [get]
      unfold dstOf at ht
      rw [ht]
      simp only [Option.bind_some]
      rw [hv]
      cases hval : val g <;> simp
    have hfr : ∀ j t, waits l j i = true → dstOf l j = some t → a.tmps[t]? = a0.tmps[t]? := fun j t hwt hjt => by
      refine T.fresh j t ?_ hjt
      cases hdj : lst.getD j false with
      | false => rfl
      | true =>
        exfalso
        unfold waits at hwt
        cases hl' : l[j]? with
        | none => rw [hl'] at hwt; cases hwt
        | some oj =>
          rw [hl'] at hwt
          obtain ⟨e, he, h1⟩ := List.any_eq_true.1 hwt
          rw [Bool.and_eq_true] at h1
          have h2 := T.closed j oj hdj hl' e (by simpa using he) h1.1
          have h3 : e.on = i := by simpa using h1.2
          rw [h3] at h2
          have h4 : lst.getD i false = false := hlf
          rw [h4] at h2
          cases h2
    refine ⟨fun hw => ?_, fun hw => ?_⟩
    · have := (hop i o a x (fun j => lst.getD j false) val ho hlf hdep T.inv T.other T.vals (fun g b hgd => (hyl g b hgd).1 hw) hfr).out
      refine Oper.wp_mono ?_ this
      rintro a' x' ⟨v, rfl, hI⟩
      exact ⟨_, slots_put T hB hmax ho v hdep hI⟩
    · cases hgd : o.guard with
      | none => unfold Region.wanted at hw; rw [hgd] at hw; cases hw
      | some gb =>
        obtain ⟨g, b⟩ := gb
        refine ⟨_, slots_put T hB hmax ho undef hdep (hskip i o x _ val g b ho hlf hdep T.inv hgd (fun e => ?_))⟩
        rw [(hyl g b hgd).2 e] at hw
        cases hw
  · rintro lst a x ⟨val, T⟩ hno
    have all : ∀ j, j < l.length → lst.getD j false = true := by
      intro j
      induction j using Nat.strongRecOn with
      | ind j ih =>
        intro hj
        obtain ⟨o, ho⟩ : ∃ o, l[j]? = some o := ⟨_, List.getElem?_eq_getElem hj⟩
        refine got_of (hno j o (by rw [get]; exact ho) (fun e he hb => ?_)) (by rw [T.ls]; exact hj)
        have := (regS_at hB ho).2.1 e he hb
        exact ih e.on this (by omega)
    have hall : (fun i => lst.getD i false) = (fun i => decide (i < l.length)) := by
      funext j
      by_cases hj : j < l.length
      · rw [all j hj, decide_eq_true hj]
      · rw [decide_eq_false hj, Array.getD_eq_getD_getElem?, Array.getElem?_eq_none (by rw [T.ls]; omega)]; rfl
    refine (hend a x val (by rw [← hall]; exact T.inv) T.size T.defers T.other (fun j t hjt => T.vals j t (all j ?_) hjt)).out
    cases hl : l[j]? with
    | none => unfold dstOf at hjt; rw [hl] at hjt; cases hjt
    | some o => exact (List.getElem?_eq_some_iff.1 hl).1
  · refine ⟨fun _ => undef, rfl, rfl, fun _ _ => rfl, by simp, fun j t hj => ?_, fun _ _ _ _ => rfl, fun j o hj => ?_, ?_⟩
    · rw [Array.getD_eq_getD_getElem?, Array.getElem?_replicate] at hj
      split at hj <;> cases hj
    · rw [Array.getD_eq_getD_getElem?, Array.getElem?_replicate] at hj
      split at hj <;> cases hj
    · have : (fun i => (Array.replicate l.toArray.size false).getD i false) = fun _ => false := by
        funext j
        rw [Array.getD_eq_getD_getElem?, Array.getElem?_replicate]
        split <;> rfl
      rw [this]
      exact h0
theorem wp_region_slots {P : Program} {id : Nat} {R : Exit → Act → World → Prop} {a0 : Act} {w : World} {l : List Oper} (I : (Nat → Bool) → (Nat → Value) → World → Prop)
    (hm : P.follows .mixedOrders = true) (hB : regS l = true) (hmax : ∀ i t, dstOf l i = some t → t < a0.tmps.size)
    (h0 : I (fun _ => false) (fun _ => undef) w.drew)
    (hop : ∀ i o (a : Act) x (done : Nat → Bool) (val : Nat → Value), l[i]? = some o → done i = false → (∀ e ∈ o.after, Region.binds .any e = true → done e.on = true) → I done val x → (∀ j, (∀ k, dstOf l k ≠ some j) → a.tmps[j]? = a0.tmps[j]?) → (∀ j t, done j = true → dstOf l j = some t → a.tmps[t]? = some (val j)) → (∀ g b, o.guard = some (g, b) → val g = .bool b) →
      Shut (o.wp P a x (fun a' x' => ∃ v, a' = a.put o.dst v ∧ I (upd done i true) (upd val i v) x') R))
    (hskip : ∀ i o x (done : Nat → Bool) (val : Nat → Value) g b, l[i]? = some o → done i = false → (∀ e ∈ o.after, Region.binds .any e = true → done e.on = true) → I done val x → o.guard = some (g, b) → val g ≠ .bool b → I (upd done i true) (upd val i undef) x)
    (hend : ∀ (a : Act) x (val : Nat → Value), I (fun i => decide (i < l.length)) val x → a.tmps.size = a0.tmps.size → a.defers = a0.defers → (∀ j, (∀ k, dstOf l k ≠ some j) → a.tmps[j]? = a0.tmps[j]?) → (∀ j t, dstOf l j = some t → a.tmps[t]? = some (val j)) → Shut (R .normal a x)) :
    (Code.region id l.toArray true).wp P R a0 w :=
  wp_region_slotsF I hm hB hmax h0 (fun i o a x done val h1 h2 h3 h4 h5 h6 h7 _ => hop i o a x done val h1 h2 h3 h4 h5 h6 h7) hskip hend
end Go.Proofs.YtieojgblamkgoaaGreatDoor
/- Numbers that lie in boxes: what loads and stores of them do. -/
namespace Go.Proofs.YtieojgblamkgoaaGreatDoor
open Go.RowKit
set_option linter.unusedVariables false
set_option linter.unusedSimpArgs false

/-- The form of binary64. -/
def formV : Value := .agg #[.int .i64 52, .int .i64 11]
/-- Where that form lies. -/
structure FBox (w : World) (V : Nat) : Prop where
  c0 : w.cell? ⟨V, 0, none⟩ = some (.int .i64 52)
  c1 : w.cell? ⟨V, 1, none⟩ = some (.int .i64 11)
theorem FBox.next {w w' : World} {V : Nat} (h : FBox w V) (q : Q w w') : FBox w' V := ⟨q.cell h.c0, q.cell h.c1⟩
/-- A box of five cells. -/
structure Box5 (w : World) (V : Nat) (k : Int) (s : Bool) (p : Option Addr) (L C : Nat) (e : Int) (m : Bool) : Prop where
  c0 : w.cell? ⟨V, 0, none⟩ = some (.int .i64 k)
  c1 : w.cell? ⟨V, 1, none⟩ = some (.bool s)
  c2 : w.cell? ⟨V, 2, none⟩ = some (.slice p L C)
  c3 : w.cell? ⟨V, 3, none⟩ = some (.int .i64 e)
  c4 : w.cell? ⟨V, 4, none⟩ = some (.bool m)
theorem Box5.next {w w' : World} {V : Nat} {k : Int} {s : Bool} {p : Option Addr} {L C : Nat} {e : Int} {m : Bool} (h : Box5 w V k s p L C e m) (q : Q w w') : Box5 w' V k s p L C e m := ⟨q.cell h.c0, q.cell h.c1, q.cell h.c2, q.cell h.c3, q.cell h.c4⟩
def num5 (k : Int) (s : Bool) (p : Option Addr) (L C : Nat) (e : Int) (m : Bool) : Value := .agg #[.int .i64 k, .bool s, .slice p L C, .int .i64 e, .bool m]
/-- A number that lies in a box. -/
def NBox (w : World) (V : Nat) (X : RNum) : Prop := ∃ k s p L C e m, Box5 w V k s p L C e m ∧ NumAt w (num5 k s p L C e m) X
theorem NBox.next {w w' : World} {V : Nat} {X : RNum} (h : NBox w V X) (q : Q w w') : NBox w' V X := by
  obtain ⟨k, s, p, L, C, e, m, h1, h2⟩ := h
  exact ⟨k, s, p, L, C, e, m, h1.next q, q.num h2⟩
theorem run_form {ρ : Operand → Value} {x : World} {d : Option Tmp} {ty : TypeId} {ps : String} {af : Array Edge} {g : Option (Nat × Bool)} {j V : Nat} (h : ρ (.tmp j) = ptrV V) (b : FBox x V) : (execOp ρ { dst := d, op := .load 145 (.tmp j), type := ty, pos := ps, after := af, guard := g }).run Tryz.prog x = .ok (.value formV) x := by
  have c0 := b.c0
  have c1 := b.c1
  simp [execOp, h, go_sem, c0, c1, ptrV, formV]
theorem run_num {ρ : Operand → Value} {x : World} {d : Option Tmp} {ty : TypeId} {ps : String} {af : Array Edge} {g : Option (Nat × Bool)} {j V : Nat} {k : Int} {s : Bool} {p : Option Addr} {L C : Nat} {e : Int} {m : Bool} (h : ρ (.tmp j) = ptrV V) (b : Box5 x V k s p L C e m) : (execOp ρ { dst := d, op := .load 138 (.tmp j), type := ty, pos := ps, after := af, guard := g }).run Tryz.prog x = .ok (.value (num5 k s p L C e m)) x := by
  obtain ⟨c0, c1, c2, c3, c4⟩ := b
  simp [execOp, h, go_sem, c0, c1, c2, c3, c4, ptrV, num5]
theorem run_eql {ρ : Operand → Value} {x : World} {d : Option Tmp} {ty : TypeId} {ps : String} {af : Array Edge} {g : Option (Nat × Bool)} {j k : Nat} {n : Int} (h : ρ (.tmp j) = .int .u32 n) (h' : ρ (.tmp k) = .int .u32 n) : (execOp ρ { dst := d, op := .binOp .eql 43 (.tmp j) (.tmp k) 43, type := ty, pos := ps, after := af, guard := g }).run Tryz.prog x = .ok (.value (.bool true)) x := by
  simp [execOp, h, h', go_sem]
def zeroNum : Obj := .cells #[.int .i64 0, .bool false, .slice none 0 0, .int .i64 0, .bool false] 138
theorem run_newnum {ρ : Operand → Value} {x : World} {d : Option Tmp} {ty : TypeId} {ps : String} {af : Array Edge} {g : Option (Nat × Bool)} : (execOp ρ { dst := d, op := .alloc 138, type := ty, pos := ps, after := af, guard := g }).run Tryz.prog x = .ok (.value (ptrV x.heap.size)) (x.alloc zeroNum) := by
  simp [execOp, go_sem, zeroNum, ptrV]
/-- Laying a number into a box. -/
theorem store_num {a : Act} {x : World} {V b c : Nat} {k : Int} {s : Bool} {p : Option Addr} {L C : Nat} {e : Int} {m : Bool} {k0 : Int} {s0 : Bool} {p0 : Option Addr} {L0 C0 : Nat} {e0 : Int} {m0 : Bool} (hb : a.tmps[b]? = some (ptrV V)) (hc : a.tmps[c]? = some (num5 k s p L C e m)) (bx : Box5 x V k0 s0 p0 L0 C0 e0 m0) (hf : ∀ j, x.frozen? ⟨V, j, none⟩ = false)
    {ps : String} {af : Array Edge} {K : Act → World → Prop} {R : Exit → Act → World → Prop} (h : ∀ x', Q x x' ∨ True → x' = (((((x.setCell ⟨V, 0, none⟩ (.int .i64 k)).setCell ⟨V, 1, none⟩ (.bool s)).setCell ⟨V, 2, none⟩ (.slice p L C)).setCell ⟨V, 3, none⟩ (.int .i64 e)).setCell ⟨V, 4, none⟩ (.bool m)) → K a x') :
    Oper.wp Tryz.prog { dst := none, op := .store 138 (.tmp b) (.tmp c), type := 0, pos := ps, after := af, guard := none } a x K R := by
  obtain ⟨c0, c1, c2, c3, c4⟩ := bx
  unfold ptrV at hb
  unfold num5 at hc
  have hrun : (execOp a.eval { dst := none, op := .store 138 (.tmp b) (.tmp c), type := 0, pos := ps, after := af, guard := none }).run Tryz.prog x = .ok .skip (((((x.setCell ⟨V, 0, none⟩ (.int .i64 k)).setCell ⟨V, 1, none⟩ (.bool s)).setCell ⟨V, 2, none⟩ (.slice p L C)).setCell ⟨V, 3, none⟩ (.int .i64 e)).setCell ⟨V, 4, none⟩ (.bool m)) := by
    simp [execOp, hb, hc, go_sem, c0, c1, c2, c3, c4, hf]
  unfold Oper.wp
  rw [hrun, Oper.upon_skip]
  exact h _ (Or.inr trivial) rfl
theorem box_other {x : World} {V b : Nat} (h : b ≠ V) {j j' : Nat} {v : Value} : (x.setCell ⟨V, j, none⟩ v).cell? ⟨b, j', none⟩ = x.cell? ⟨b, j', none⟩ := World.cell?_setCell_other _ _ _ _ (by simp [h])
end Go.Proofs.YtieojgblamkgoaaGreatDoor

/- A region that draws its order, by what holds of the operations that have come up, of what they told, and of the world. -/
import Derived.Test.YtgaolakfgjmeiabGb9bbfaf8
import Derived.Test.YtgaolakfgjmeiabGec6c67fb
import Derived.Test.YtgaolakfgjmeiabG0b21eafc
import Derived.Test.YtgaolakfgjmeiabG92d6b107
namespace Go.Proofs.Ytgaolakfgjmeiab
open Go.RowKit
set_option linter.unusedVariables false
set_option linter.unusedSimpArgs false

def upd {α : Type} (f : Nat → α) (i : Nat) (v : α) : Nat → α := fun j => if j = i then v else f j
theorem upd_eq {α : Type} (f : Nat → α) (i : Nat) (v : α) : upd f i v i = v := by unfold upd; rw [if_pos rfl]
theorem upd_ne {α : Type} (f : Nat → α) {i j : Nat} (v : α) (h : j ≠ i) : upd f i v j = f j := by unfold upd; rw [if_neg h]
theorem wpAny_invS {P : Program} {ops : Array Oper} {R : Exit → Act → World → Prop} (Inv : Array Bool → Act → World → Prop)
    (hs : ∀ lst a w i o, Inv lst a w → ops[i]? = some o → lst.getD i true = false → (∀ e ∈ o.after, Region.binds .any e = true → lst.getD e.on false = true) → (Region.wanted o (yielded ops a.tmps) = true → o.wp P a w (fun a' w' => Inv (lst.setIfInBounds i true) a' w') R) ∧ (Region.wanted o (yielded ops a.tmps) = false → Inv (lst.setIfInBounds i true) (a.put o.dst undef) w))
    (he : ∀ lst a w, Inv lst a w → (∀ i o, ops[i]? = some o → (∀ e ∈ o.after, Region.binds .any e = true → lst.getD e.on false = true) → lst.getD i true = true) → R .normal a w) :
    ∀ (fuel : Nat) (lst : Array Bool) (a : Act) (w : World), Inv lst a w → lst.toList.countP (· == false) ≤ fuel → wpAny P .any ops R fuel lst a w := by
  have done : ∀ (lst : Array Bool) (a : Act) (w : World), Inv lst a w → Region.ready .any ops lst = [] → R .normal a w := fun lst a w h hr => he lst a w h (fun i o ho hd => by
    cases hc : lst.getD i true with
    | true => rfl
    | false =>
      have : i ∈ Region.ready .any ops lst := mem_ready.2 ⟨hc, o, ho, hd⟩
      rw [hr] at this
      cases this)
  intro fuel
  induction fuel with
  | zero =>
    intro lst a w h hc
    have hr : Region.ready .any ops lst = [] := by
      cases hr : Region.ready .any ops lst with
      | nil => rfl
      | cons j js =>
        have : j ∈ Region.ready .any ops lst := by rw [hr]; exact List.mem_cons_self
        have := ready_pos (mem_ready.1 this).1
        omega
    exact ⟨hr, done lst a w h hr⟩
  | succ fuel ih =>
    intro lst a w h hc
    refine ⟨done lst a w h, fun i hi => ?_⟩
    obtain ⟨h1, o, ho, h2⟩ := mem_ready.1 hi
    obtain ⟨hy, hn⟩ := hs lst a w i o h ho h1 h2
    have hcs := count_set h1
    unfold wpOp
    rw [ho]
    simp only
    cases hw : Region.wanted o (yielded ops a.tmps) with
    | true =>
      rw [if_pos rfl]
      exact Or.inl (Oper.wp_mono (fun a' w' h' => ih _ a' w' h' (by omega)) (hy hw))
    | false =>
      rw [if_neg (by decide)]
      exact ih _ _ _ (hn hw) (by omega)
/-- The slot that an operation fills. -/
def dstOf (l : List Oper) (i : Nat) : Option Nat := (l[i]?).bind (fun o : Oper => o.dst)
theorem dstOf_at {l : List Oper} {i : Nat} {o : Oper} (h : l[i]? = some o) : dstOf l i = o.dst := by unfold dstOf; rw [h]; rfl
/-- Each operation waits for earlier ones alone, and for what guards it; no two fill one slot. -/
def regS (l : List Oper) : Bool := (List.range l.length).all fun k => match l[k]? with
  | some o => (match o.guard with | none => true | some (g, _) => o.after.toList.any (fun e => Region.binds .any e && (e.on == g)) && (dstOf l g).isSome) && ((o.after.toList.all fun e => !(Region.binds .any e) || decide (e.on < k)) && (List.range k).all fun j => match o.dst, dstOf l j with | some t, some u => t != u | _, _ => true)
  | none => true
theorem regS_at {l : List Oper} (h : regS l = true) {k : Nat} {o : Oper} (hk : l[k]? = some o) : (∀ g b, o.guard = some (g, b) → (∃ e ∈ o.after, Region.binds .any e = true ∧ e.on = g) ∧ ∃ t, dstOf l g = some t) ∧ (∀ e ∈ o.after, Region.binds .any e = true → e.on < k) ∧ (∀ j t, j < k → o.dst = some t → dstOf l j ≠ some t) := by
  have hlt : k < l.length := (List.getElem?_eq_some_iff.1 hk).1
  have h1 := List.all_eq_true.1 h k (List.mem_range.2 hlt)
  rw [hk] at h1
  simp only [Bool.and_eq_true] at h1
  refine ⟨fun g b hgd => ?_, fun e he hb => ?_, fun j t hj ht hc => ?_⟩
  · have h2 := h1.1
    rw [hgd] at h2
    simp only [Bool.and_eq_true] at h2
    obtain ⟨e, he, h3⟩ := List.any_eq_true.1 h2.1
    rw [Bool.and_eq_true] at h3
    exact ⟨⟨e, by simpa using he, h3.1, by simpa using h3.2⟩, Option.isSome_iff_exists.1 h2.2⟩
  · have h2 := List.all_eq_true.1 h1.2.1 e (by simpa using he)
    rw [hb] at h2
    simpa using h2
  · have h2 := List.all_eq_true.1 h1.2.2 j (List.mem_range.2 hj)
    rw [ht, hc] at h2
    simp at h2
/-- Does one operation wait for another? -/
def waits (l : List Oper) (k i : Nat) : Bool := match l[k]? with
  | some o => o.after.toList.any fun e => Region.binds .any e && (e.on == i)
  | none => false
structure Slots (I : (Nat → Bool) → (Nat → Value) → World → Prop) (a0 : Act) (l : List Oper) (lst : Array Bool) (a : Act) (x : World) (val : Nat → Value) : Prop where
  size : a.tmps.size = a0.tmps.size
  defers : a.defers = a0.defers
  other : ∀ j, (∀ k, dstOf l k ≠ some j) → a.tmps[j]? = a0.tmps[j]?
  ls : lst.size = l.length
  vals : ∀ j t, lst.getD j false = true → dstOf l j = some t → a.tmps[t]? = some (val j)
  fresh : ∀ j t, lst.getD j false = false → dstOf l j = some t → a.tmps[t]? = a0.tmps[t]?
  closed : ∀ (j : Nat) (o : Oper), lst.getD j false = true → l[j]? = some o → ∀ e ∈ o.after, Region.binds .any e = true → lst.getD e.on false = true
  inv : I (fun i => lst.getD i false) val x
theorem set_upd {lst : Array Bool} {i : Nat} (h : i < lst.size) : (fun j => (lst.setIfInBounds i true).getD j false) = upd (fun j => lst.getD j false) i true := by
  funext j
  by_cases e : j = i
  · subst e; rw [upd_eq]; exact set_eq h
  · rw [upd_ne _ _ e]; exact set_ne (fun e' => e e'.symm)
theorem dst_inj {l : List Oper} (hB : regS l = true) {i j : Nat} {t : Nat} (hi : dstOf l i = some t) (hj : dstOf l j = some t) : i = j := by
  have key : ∀ i j, i < j → dstOf l i = some t → dstOf l j = some t → False := fun i j h hi hj => by
    cases hl : l[j]? with
    | none => unfold dstOf at hj; rw [hl] at hj; cases hj
    | some o =>
      rw [dstOf_at hl] at hj
      exact (regS_at hB hl).2.2 i t h hj hi
  rcases Nat.lt_trichotomy i j with h | h | h
  · exact (key i j h hi hj).elim
  · exact h
  · exact (key j i h hj hi).elim
theorem slots_put {I : (Nat → Bool) → (Nat → Value) → World → Prop} {a0 : Act} {l : List Oper} {lst : Array Bool} {a : Act} {x x' : World} {val : Nat → Value} (T : Slots I a0 l lst a x val) (hB : regS l = true) (hmax : ∀ i t, dstOf l i = some t → t < a0.tmps.size) {i : Nat} {o : Oper} (ho : l[i]? = some o) (v : Value) (hdep : ∀ e ∈ o.after, Region.binds .any e = true → lst.getD e.on false = true) (hI : I (upd (fun j => lst.getD j false) i true) (upd val i v) x') :
    Slots I a0 l (lst.setIfInBounds i true) (a.put o.dst v) x' (upd val i v) := by
  have hil : i < l.length := (List.getElem?_eq_some_iff.1 ho).1
  have hid : dstOf l i = o.dst := dstOf_at ho
  refine ⟨?_, ?_, fun j hj => ?_, by rw [Array.size_setIfInBounds]; exact T.ls, fun j t hlj hjt => ?_, fun j t hlj hjt => ?_, closed_set ho T.closed hdep, by rw [set_upd (by rw [T.ls]; exact hil)]; exact hI⟩
  · cases hd : o.dst with
    | none => exact T.size
    | some t => exact (Array.size_setIfInBounds).trans T.size
  · cases hd : o.dst with
    | none => exact T.defers
    | some t => exact T.defers
  · cases hd : o.dst with
    | none => exact T.other j hj
    | some t =>
      refine (Array.getElem?_setIfInBounds_ne (fun e => hj i ?_)).trans (T.other j hj)
      rw [hid, hd, e]
  · by_cases e : j = i
    · subst e
      rw [hid] at hjt
      rw [hjt, upd_eq]
      exact Array.getElem?_setIfInBounds_self_of_lt (by rw [T.size]; exact hmax j t (by rw [hid]; exact hjt))
    · rw [set_ne (fun e' => e e'.symm)] at hlj
      rw [upd_ne _ _ e]
      cases hd : o.dst with
      | none => exact T.vals j t hlj hjt
      | some t' =>
        refine (Array.getElem?_setIfInBounds_ne (fun e' => e ?_)).trans (T.vals j t hlj hjt)
        subst e'
        exact dst_inj hB hjt (by rw [hid]; exact hd)
  · by_cases e : j = i
    · subst e
      rw [set_eq (by rw [T.ls]; exact hil)] at hlj
      cases hlj
    · rw [set_ne (fun e' => e e'.symm)] at hlj
      cases hd : o.dst with
      | none => exact T.fresh j t hlj hjt
      | some t' =>
        refine (Array.getElem?_setIfInBounds_ne (fun e' => e ?_)).trans (T.fresh j t hlj hjt)
        subst e'
        exact dst_inj hB hjt (by rw [hid]; exact hd)
set_option maxHeartbeats 1000000 in
theorem wp_region_slotsF {P : Program} {id : Nat} {R : Exit → Act → World → Prop} {a0 : Act} {w : World} {l : List Oper} (I : (Nat → Bool) → (Nat → Value) → World → Prop)
    (hm : P.follows .mixedOrders = true) (hB : regS l = true) (hmax : ∀ i t, dstOf l i = some t → t < a0.tmps.size)
    (h0 : I (fun _ => false) (fun _ => undef) w.drew)
    (hop : ∀ i o (a : Act) x (done : Nat → Bool) (val : Nat → Value), l[i]? = some o → done i = false → (∀ e ∈ o.after, Region.binds .any e = true → done e.on = true) → I done val x → (∀ j, (∀ k, dstOf l k ≠ some j) → a.tmps[j]? = a0.tmps[j]?) → (∀ j t, done j = true → dstOf l j = some t → a.tmps[t]? = some (val j)) → (∀ g b, o.guard = some (g, b) → val g = .bool b) → (∀ j t, waits l j i = true → dstOf l j = some t → a.tmps[t]? = a0.tmps[t]?) →
      Shut (o.wp P a x (fun a' x' => ∃ v, a' = a.put o.dst v ∧ I (upd done i true) (upd val i v) x') R))
    (hskip : ∀ i o x (done : Nat → Bool) (val : Nat → Value) g b, l[i]? = some o → done i = false → (∀ e ∈ o.after, Region.binds .any e = true → done e.on = true) → I done val x → o.guard = some (g, b) → val g ≠ .bool b → I (upd done i true) (upd val i undef) x)
    (hend : ∀ (a : Act) x (val : Nat → Value), I (fun i => decide (i < l.length)) val x → a.tmps.size = a0.tmps.size → a.defers = a0.defers → (∀ j, (∀ k, dstOf l k ≠ some j) → a.tmps[j]? = a0.tmps[j]?) → (∀ j t, dstOf l j = some t → a.tmps[t]? = some (val j)) → Shut (R .normal a x)) :
    (Code.region id l.toArray true).wp P R a0 w := by
  have get : ∀ k, l.toArray[k]? = l[k]? := fun k => List.getElem?_toArray
  have hc := List.countP_le_length (l := (Array.replicate l.toArray.size false).toList) (p := (· == false))
  refine wp_region_any hm (wpAny_invS (fun lst a x => ∃ val, Slots I a0 l lst a x val) ?_ ?_ _ _ _ _ ?_ (by simpa using hc))
  · rintro lst a x i o ⟨val, T⟩ ho hl hdep
    rw [get] at ho
    obtain ⟨hg, hdl, hds⟩ := regS_at hB ho
    have hil : i < l.length := (List.getElem?_eq_some_iff.1 ho).1
    have hlf : (fun j => lst.getD j false) i = false := not_got hl
    have gval : ∀ g b, o.guard = some (g, b) → ∃ t, dstOf l g = some t ∧ a.tmps[t]? = some (val g) := fun g b hgd => by
      obtain ⟨⟨e, he, hb, hon⟩, t, ht⟩ := hg g b hgd
      have := hdep e he hb
      rw [hon] at this
      exact ⟨t, ht, T.vals g t this ht⟩
    have hyl : ∀ g b, o.guard = some (g, b) → (Region.wanted o (yielded l.toArray a.tmps) = true ↔ val g = .bool b) := fun g b hgd => by
      obtain ⟨t, ht, hv⟩ := gval g b hgd
      unfold Region.wanted
      rw [hgd]
      simp only [yielded]
      rw [get]
      unfold dstOf at ht
      rw [ht]
      simp only [Option.bind_some]
      rw [hv]
      cases hval : val g <;> simp
    have hfr : ∀ j t, waits l j i = true → dstOf l j = some t → a.tmps[t]? = a0.tmps[t]? := fun j t hwt hjt => by
      refine T.fresh j t ?_ hjt
      cases hdj : lst.getD j false with
      | false => rfl
      | true =>
        exfalso
        unfold waits at hwt
        cases hl' : l[j]? with
        | none => rw [hl'] at hwt; cases hwt
        | some oj =>
          rw [hl'] at hwt
          obtain ⟨e, he, h1⟩ := List.any_eq_true.1 hwt
          rw [Bool.and_eq_true] at h1
          have h2 := T.closed j oj hdj hl' e (by simpa using he) h1.1
          have h3 : e.on = i := by simpa using h1.2
          rw [h3] at h2
          have h4 : lst.getD i false = false := hlf
          rw [h4] at h2
          cases h2
    refine ⟨fun hw => ?_, fun hw => ?_⟩
    · have := (hop i o a x (fun j => lst.getD j false) val ho hlf hdep T.inv T.other T.vals (fun g b hgd => (hyl g b hgd).1 hw) hfr).out
      refine Oper.wp_mono ?_ this
      rintro a' x' ⟨v, rfl, hI⟩
      exact ⟨_, slots_put T hB hmax ho v hdep hI⟩
    · cases hgd : o.guard with
      | none => unfold Region.wanted at hw; rw [hgd] at hw; cases hw
      | some gb =>
        obtain ⟨g, b⟩ := gb
        refine ⟨_, slots_put T hB hmax ho undef hdep (hskip i o x _ val g b ho hlf hdep T.inv hgd (fun e => ?_))⟩
        rw [(hyl g b hgd).2 e] at hw
        cases hw
  · rintro lst a x ⟨val, T⟩ hno
    have all : ∀ j, j < l.length → lst.getD j false = true := by
      intro j
      induction j using Nat.strongRecOn with
      | ind j ih =>
        intro hj
        obtain ⟨o, ho⟩ : ∃ o, l[j]? = some o := ⟨_, List.getElem?_eq_getElem hj⟩
        refine got_of (hno j o (by rw [get]; exact ho) (fun e he hb => ?_)) (by rw [T.ls]; exact hj)
        have := (regS_at hB ho).2.1 e he hb
        exact ih e.on this (by omega)
    have hall : (fun i => lst.getD i false) = (fun i => decide (i < l.length)) := by
      funext j
      by_cases hj : j < l.length
      · rw [all j hj, decide_eq_true hj]
      · rw [decide_eq_false hj, Array.getD_eq_getD_getElem?, Array.getElem?_eq_none (by rw [T.ls]; omega)]; rfl
    refine (hend a x val (by rw [← hall]; exact T.inv) T.size T.defers T.other (fun j t hjt => T.vals j t (all j ?_) hjt)).out
    cases hl : l[j]? with
    | none => unfold dstOf at hjt; rw [hl] at hjt; cases hjt
    | some o => exact (List.getElem?_eq_some_iff.1 hl).1
  · refine ⟨fun _ => undef, rfl, rfl, fun _ _ => rfl, by simp, fun j t hj => ?_, fun _ _ _ _ => rfl, fun j o hj => ?_, ?_⟩
    · rw [Array.getD_eq_getD_getElem?, Array.getElem?_replicate] at hj
      split at hj <;> cases hj
    · rw [Array.getD_eq_getD_getElem?, Array.getElem?_replicate] at hj
      split at hj <;> cases hj
    · have : (fun i => (Array.replicate l.toArray.size false).getD i false) = fun _ => false := by
        funext j
        rw [Array.getD_eq_getD_getElem?, Array.getElem?_replicate]
        split <;> rfl
      rw [this]
      exact h0
theorem wp_region_slots {P : Program} {id : Nat} {R : Exit → Act → World → Prop} {a0 : Act} {w : World} {l : List Oper} (I : (Nat → Bool) → (Nat → Value) → World → Prop)
    (hm : P.follows .mixedOrders = true) (hB : regS l = true) (hmax : ∀ i t, dstOf l i = some t → t < a0.tmps.size)
    (h0 : I (fun _ => false) (fun _ => undef) w.drew)
    (hop : ∀ i o (a : Act) x (done : Nat → Bool) (val : Nat → Value), l[i]? = some o → done i = false → (∀ e ∈ o.after, Region.binds .any e = true → done e.on = true) → I done val x → (∀ j, (∀ k, dstOf l k ≠ some j) → a.tmps[j]? = a0.tmps[j]?) → (∀ j t, done j = true → dstOf l j = some t → a.tmps[t]? = some (val j)) → (∀ g b, o.guard = some (g, b) → val g = .bool b) →
      Shut (o.wp P a x (fun a' x' => ∃ v, a' = a.put o.dst v ∧ I (upd done i true) (upd val i v) x') R))
    (hskip : ∀ i o x (done : Nat → Bool) (val : Nat → Value) g b, l[i]? = some o → done i = false → (∀ e ∈ o.after, Region.binds .any e = true → done e.on = true) → I done val x → o.guard = some (g, b) → val g ≠ .bool b → I (upd done i true) (upd val i undef) x)
    (hend : ∀ (a : Act) x (val : Nat → Value), I (fun i => decide (i < l.length)) val x → a.tmps.size = a0.tmps.size → a.defers = a0.defers → (∀ j, (∀ k, dstOf l k ≠ some j) → a.tmps[j]? = a0.tmps[j]?) → (∀ j t, dstOf l j = some t → a.tmps[t]? = some (val j)) → Shut (R .normal a x)) :
    (Code.region id l.toArray true).wp P R a0 w :=
  wp_region_slotsF I hm hB hmax h0 (fun i o a x done val h1 h2 h3 h4 h5 h6 h7 _ => hop i o a x done val h1 h2 h3 h4 h5 h6 h7) hskip hend
end Go.Proofs.Ytgaolakfgjmeiab
/- What operations tell, as a list of properties that last. -/
namespace Go.Proofs.Ytgaolakfgjmeiab
open Go.RowKit
set_option linter.unusedVariables false
set_option linter.unusedSimpArgs false

structure Spec where
  p : Value → World → Prop
  st : ∀ {v : Value} {x x' : World}, p v x → Q x x' → p v x'
def spV (u : Value) : Spec := ⟨fun v _ => v = u, fun h _ => h⟩
def specAt (l : List Spec) (i : Nat) (v : Value) (x : World) : Prop := match l[i]? with
  | some s => s.p v x
  | none => False
theorem specAt.next {l : List Spec} (i : Nat) (v : Value) (x x' : World) (h : specAt l i v x) (q : Q x x') : specAt l i v x' := by
  unfold specAt at h ⊢
  cases g : l[i]? with
  | none => rw [g] at h; exact h
  | some s => rw [g] at h; exact s.st h q
section
variable {P : Program} {ρ : Operand → Value} {x : World} {d : Option Tmp} {ty : TypeId} {ps : String} {af : Array Edge} {g : Option (Nat × Bool)}
theorem run_sub64 {j k : Nat} {m n r : Int} (h : ρ (.tmp j) = .int .i64 m) (h' : ρ (.tmp k) = .int .i64 n) (hr : IntKind.i64.wrap (m - n) = r) : (execOp ρ { dst := d, op := .binOp .sub 3 (.tmp j) (.tmp k) 3, type := ty, pos := ps, after := af, guard := g }).run Try.prog x = .ok (.value (.int .i64 r)) x := by
  simp [execOp, h, h', go_sem, hr]
theorem run_leq64 {j : Nat} {m n : Int} (h : ρ (.tmp j) = .int .i64 m) (hk : ρ (.const (.int .i64 n)) = .int .i64 n) : (execOp ρ { dst := d, op := .binOp .leq 3 (.tmp j) (.const (.int .i64 n)) 3, type := ty, pos := ps, after := af, guard := g }).run Try.prog x = .ok (.value (.bool (decide (m ≤ n)))) x := by
  simp [execOp, h, hk, go_sem]
end
end Go.Proofs.Ytgaolakfgjmeiab
/- A region that draws its order and stores nothing: each operation with a fact that lasts; those that are guarded are known to be let through, or known to be left out. -/
namespace Go.Proofs.Ytgaolakfgjmeiab
open Go.RowKit
set_option linter.unusedVariables false
set_option linter.unusedSimpArgs false

theorem dst_mem {l : List Oper} {s : List Nat} (hs : l.map (fun o : Oper => o.dst) = s.map some) {k j : Nat} (h : dstOf l k = some j) : s[k]? = some j := by
  unfold dstOf at h
  have h1 : (l.map (fun o : Oper => o.dst))[k]? = (s.map some)[k]? := by rw [hs]
  rw [List.getElem?_map, List.getElem?_map] at h1
  cases hl : l[k]? with
  | none => rw [hl] at h; cases h
  | some o =>
    rw [hl] at h h1
    cases hk : s[k]? with
    | none => rw [hk] at h1; cases h1
    | some t =>
      rw [hk] at h1
      have h2 : some o.dst = some (some t) := h1
      injection h2 with h2
      have h3 : o.dst = some j := h
      rw [h2] at h3
      injection h3 with h3
      rw [h3]
theorem dst_of {l : List Oper} {s : List Nat} (hs : l.map (fun o : Oper => o.dst) = s.map some) {k j : Nat} (h : s[k]? = some j) : dstOf l k = some j := by
  have h1 : (l.map (fun o : Oper => o.dst))[k]? = (s.map some)[k]? := by rw [hs]
  rw [List.getElem?_map, List.getElem?_map, h] at h1
  unfold dstOf
  cases hl : l[k]? with
  | none => rw [hl] at h1; cases h1
  | some o =>
    rw [hl] at h1
    have h2 : some o.dst = some (some j) := h1
    injection h2
set_option maxHeartbeats 1000000 in
theorem wp_region_factsS {P : Program} {id : Nat} {R : Exit → Act → World → Prop} {a0 : Act} {w : World} {l : List Oper} (s : List Nat) (F : Nat → Value → World → Prop) (skip : Nat → Bool)
    (hm : P.follows .mixedOrders = true) (hB : regS l = true) (hs : l.map (fun o : Oper => o.dst) = s.map some) (hmax : ∀ t ∈ s, t < a0.tmps.size)
    (hst : ∀ i v x x', F i v x → Q x x' → F i v x')
    (hgu : ∀ (i : Nat) (o : Oper) (g : Nat) (b : Bool), l[i]? = some o → o.guard = some (g, b) → ∀ v x, F g v x → (v = .bool b ↔ skip i = false))
    (hgn : ∀ (i : Nat) (o : Oper), l[i]? = some o → o.guard = none → skip i = false)
    (hsk : ∀ i x, skip i = true → F i undef x)
    (hop : ∀ i t o (a : Act) x, skip i = false → s[i]? = some t → l[i]? = some o → Q w x → (∀ j, j ∉ s → a.tmps[j]? = a0.tmps[j]?) → (∀ ed ∈ o.after, Region.binds .any ed = true → ∀ t', s[ed.on]? = some t' → ∃ v, a.tmps[t']? = some v ∧ F ed.on v x) → Yld P R o a x t (F i))
    (hend : ∀ (a : Act) x, Q w x → a.tmps.size = a0.tmps.size → a.defers = a0.defers → (∀ j, j ∉ s → a.tmps[j]? = a0.tmps[j]?) → (∀ i t, s[i]? = some t → ∃ v, a.tmps[t]? = some v ∧ F i v x) → Shut (R .normal a x)) :
    (Code.region id l.toArray true).wp P R a0 w := by
  have oth : ∀ {a : Act}, (∀ j, (∀ k, dstOf l k ≠ some j) → a.tmps[j]? = a0.tmps[j]?) → ∀ j, j ∉ s → a.tmps[j]? = a0.tmps[j]? := fun h j hj => h j (fun k hk => hj (List.mem_of_getElem? (dst_mem hs hk)))
  refine wp_region_slots (fun done val x => Q w x ∧ ∀ i, done i = true → F i (val i) x) hm hB (fun i t h => hmax t (List.mem_of_getElem? (dst_mem hs h))) ⟨(Q.refl w).drew, fun i h => by cases h⟩ ?_ ?_ ?_
  · intro i o a x done val ho hd hdep I hoth hvals hg
    have hil : i < l.length := (List.getElem?_eq_some_iff.1 ho).1
    have hlen : l.length = s.length := by have := congrArg List.length hs; simpa using this
    obtain ⟨t, ht⟩ : ∃ t, s[i]? = some t := ⟨_, List.getElem?_eq_getElem (by omega)⟩
    have hdst : o.dst = some t := by rw [← dstOf_at ho]; exact dst_of hs ht
    have hski : skip i = false := by
      cases hgd : o.guard with
      | none => exact hgn i o ho hgd
      | some gb =>
        obtain ⟨g, b⟩ := gb
        obtain ⟨⟨ed, he, hb, hon⟩, _⟩ := (regS_at hB ho).1 g b hgd
        have hdone := hdep ed he hb
        rw [hon] at hdone
        exact (hgu i o g b ho hgd (val g) x (I.2 g hdone)).1 (hg g b hgd)
    have hrun := hop i t o a x hski ht ho I.1 (oth hoth) (fun ed he hb t' ht' => ⟨val ed.on, hvals ed.on t' (hdep ed he hb) (dst_of hs ht'), I.2 ed.on (hdep ed he hb)⟩)
    refine ⟨Oper.wp_mono ?_ hrun.out⟩
    rintro a' x' ⟨v, rfl, q', hf⟩
    refine ⟨v, by rw [hdst], I.1.trans q', fun j hj => ?_⟩
    by_cases e : j = i
    · subst e; rw [upd_eq]; exact hf
    · rw [upd_ne _ _ e] at hj ⊢
      exact hst _ _ _ _ (I.2 j hj) q'
  · intro i o x done val g b ho hd hdep I hgd hne
    have hsk' : skip i = true := by
      cases h : skip i with
      | true => rfl
      | false =>
        obtain ⟨⟨ed, he, hb, hon⟩, _⟩ := (regS_at hB ho).1 g b hgd
        have hdone := hdep ed he hb
        rw [hon] at hdone
        exact absurd ((hgu i o g b ho hgd (val g) x (I.2 g hdone)).2 h) hne
    refine ⟨I.1, fun j hj => ?_⟩
    by_cases e : j = i
    · subst e; rw [upd_eq]; exact hsk _ _ hsk'
    · rw [upd_ne _ _ e] at hj ⊢
      exact I.2 j hj
  · intro a x val I size defers other vals
    refine hend a x I.1 size defers (oth other) (fun i t ht => ⟨val i, vals i t (dst_of hs ht), I.2 i ?_⟩)
    have hlen : l.length = s.length := by have := congrArg List.length hs; simpa using this
    have := (List.getElem?_eq_some_iff.1 ht).1
    exact decide_eq_true (by omega)
end Go.Proofs.Ytgaolakfgjmeiab
/- Sums: one behind the other, by halves, with what was lost carried along: what the program tells. -/
namespace Go.Proofs.Ytgaolakfgjmeiab
open Go.RowKit
set_option linter.unusedVariables false
set_option linter.unusedSimpArgs false

/-- A sum, rounded to binary32. -/
def addV (a b : Nat) : Nat := toldD ((Ieee.single.read a).sum (Ieee.single.read b))
def subV (a b : Nat) : Nat := toldD ((Ieee.single.read a).sum (Ieee.single.read b).opposite)
def leftV (l : List Nat) : Nat := if l = [] then 0 else l.foldl addV 2147483648
theorem take_succ_foldl {α β : Type} (f : β → α → β) (z : β) (l : List α) (d : α) {i : Nat} (h : i < l.length) : (l.take (i + 1)).foldl f z = f ((l.take i).foldl f z) (l.getD i d) := by
  rw [List.take_succ_eq_append_getElem h, List.foldl_append, List.getD_eq_getElem?_getD, List.getElem?_eq_getElem h]; rfl
/-- By halves, so many times at most. -/
def pairsF : Nat → List Nat → Nat
  | 0, l => if l.length = 0 then 0 else addV 2147483648 (l.getD 0 0)
  | f + 1, l => if l.length = 0 then 0 else if l.length = 1 then addV 2147483648 (l.getD 0 0) else addV (pairsF f (l.take (l.length / 2))) (pairsF f (l.drop (l.length / 2)))
theorem pairsF_more : ∀ (f : Nat) (l : List Nat), l.length ≤ f + 1 → pairsF (f + 1) l = pairsF f l := by
  intro f
  induction f with
  | zero =>
    intro l h
    unfold pairsF
    by_cases h0 : l.length = 0
    · rw [if_pos h0, if_pos h0]
    · rw [if_neg h0, if_neg h0, if_pos (by omega)]
  | succ f ih =>
    intro l h
    show (if l.length = 0 then 0 else if l.length = 1 then addV 2147483648 (l.getD 0 0) else addV (pairsF (f + 1) (l.take (l.length / 2))) (pairsF (f + 1) (l.drop (l.length / 2)))) = (if l.length = 0 then 0 else if l.length = 1 then addV 2147483648 (l.getD 0 0) else addV (pairsF f (l.take (l.length / 2))) (pairsF f (l.drop (l.length / 2))))
    by_cases h0 : l.length = 0
    · rw [if_pos h0, if_pos h0]
    · by_cases h1 : l.length = 1
      · rw [if_neg h0, if_neg h0, if_pos h1, if_pos h1]
      · rw [if_neg h0, if_neg h0, if_neg h1, if_neg h1, ih _ (by rw [List.length_take]; omega), ih _ (by rw [List.length_drop]; omega)]
theorem pairsF_any (l : List Nat) : ∀ (k f : Nat), l.length ≤ f + 1 → pairsF (f + k) l = pairsF f l := by
  intro k
  induction k with
  | zero => exact fun f _ => rfl
  | succ k ih =>
    intro f h
    rw [show f + (k + 1) = (f + k) + 1 by omega, pairsF_more (f + k) l (by omega), ih f h]
def pairsV (l : List Nat) : Nat := pairsF l.length l
theorem pairsV_none {l : List Nat} (h : l.length = 0) : pairsV l = 0 := by
  unfold pairsV
  rw [h]
  show (if l.length = 0 then 0 else _) = 0
  rw [if_pos h]
theorem pairsV_one {l : List Nat} (h : l.length = 1) : pairsV l = addV 2147483648 (l.getD 0 0) := by
  unfold pairsV
  rw [h]
  show (if l.length = 0 then 0 else if l.length = 1 then addV 2147483648 (l.getD 0 0) else _) = _
  rw [if_neg (by omega), if_pos h]
theorem pairsV_many {l : List Nat} (h : 2 ≤ l.length) : pairsV l = addV (pairsV (l.take (l.length / 2))) (pairsV (l.drop (l.length / 2))) := by
  have fit : ∀ m : List Nat, m.length ≤ l.length - 1 → pairsF (l.length - 1) m = pairsV m := fun m hm => by
    unfold pairsV
    have := pairsF_any m (l.length - 1 - m.length) m.length (by omega)
    rw [← this]
    congr 1
    omega
  have e : pairsV l = pairsF (l.length - 1 + 1) l := by unfold pairsV; congr 1; omega
  rw [e]
  show (if l.length = 0 then 0 else if l.length = 1 then addV 2147483648 (l.getD 0 0) else addV (pairsF (l.length - 1) (l.take (l.length / 2))) (pairsF (l.length - 1) (l.drop (l.length / 2)))) = _
  rw [if_neg (by omega), if_neg (by omega), fit _ (by rw [List.length_take]; omega), fit _ (by rw [List.length_drop]; omega)]
theorem UIs.take {w : World} {g o : Nat} {l : List Nat} (h : UIs w g o l) (k : Nat) : UIs w g o (l.take k) := fun i hi => by
  rw [List.length_take] at hi
  have := h i (by omega)
  rw [this]
  congr 3
  rw [List.getD_eq_getElem?_getD, List.getD_eq_getElem?_getD, List.getElem?_take, if_pos (by omega)]
theorem UIs.drop {w : World} {g o : Nat} {l : List Nat} (h : UIs w g o l) (k : Nat) : UIs w g (o + k) (l.drop k) := fun i hi => by
  rw [List.length_drop] at hi
  have := h (k + i) (by omega)
  rw [show o + k + i = o + (k + i) by omega, this]
  congr 3
  rw [List.getD_eq_getElem?_getD, List.getD_eq_getElem?_getD, List.getElem?_drop]
theorem run_slice_to {ρ : Operand → Value} {x : World} {d : Option Tmp} {ty : TypeId} {ps : String} {af : Array Edge} {g : Option (Nat × Bool)} {j k gb ob nn cc kk : Nat} (h : ρ (.tmp j) = .slice (some ⟨gb, ob, none⟩) nn cc) (h' : ρ (.tmp k) = .int .i64 (kk : Nat)) (l1 : kk < nn) (l2 : nn ≤ cc) : (execOp ρ { dst := d, op := .slice 22 (.tmp j) none (some (.tmp k)) none, type := ty, pos := ps, after := af, guard := g }).run Try.prog x = .ok (.value (.slice (some ⟨gb, ob, none⟩) kk cc)) x := by
  simp [execOp, h, h', go_sem]
  intro h4
  omega
theorem run_slice_from {ρ : Operand → Value} {x : World} {d : Option Tmp} {ty : TypeId} {ps : String} {af : Array Edge} {g : Option (Nat × Bool)} {j k gb ob nn cc kk : Nat} (h : ρ (.tmp j) = .slice (some ⟨gb, ob, none⟩) nn cc) (h' : ρ (.tmp k) = .int .i64 (kk : Nat)) (l1 : kk < nn) (l2 : nn ≤ cc) : (execOp ρ { dst := d, op := .slice 22 (.tmp j) (some (.tmp k)) none none, type := ty, pos := ps, after := af, guard := g }).run Try.prog x = .ok (.value (.slice (some ⟨gb, ob + kk, none⟩) (nn - kk) (cc - kk))) x := by
  simp [execOp, h, h', go_sem]
  rw [if_pos (Nat.le_of_lt l1), if_neg (by omega)]
def oPa_0 : Oper := { dst := some 17, op := .move (.tmp 0), type := 22, pos := "sums.go:62", after := #[], guard := none }
def oPa_1 : Oper := { dst := some 18, op := .move (.tmp 3), type := 3, pos := "sums.go:62", after := #[], guard := none }
def oPa_2 : Oper := { dst := some 19, op := .slice 22 (.tmp 17) none (some (.tmp 18)) none, type := 22, pos := "sums.go:62", after := #[⟨0, .data⟩, ⟨1, .data⟩], guard := none }
def oPa_4 : Oper := { dst := some 21, op := .move (.tmp 0), type := 22, pos := "sums.go:62", after := #[], guard := none }
def oPa_5 : Oper := { dst := some 22, op := .move (.tmp 3), type := 3, pos := "sums.go:62", after := #[], guard := none }
def oPa_6 : Oper := { dst := some 23, op := .slice 22 (.tmp 21) (some (.tmp 22)) none none, type := 22, pos := "sums.go:62", after := #[⟨4, .data⟩, ⟨5, .data⟩], guard := none }
def oPa_9 : Oper := { dst := some 2, op := .assign (.tmp 25), type := 30, pos := "sums.go:62", after := #[⟨8, .data⟩, ⟨8, .chain⟩, ⟨0, .phase⟩, ⟨1, .phase⟩, ⟨2, .phase⟩, ⟨3, .phase⟩, ⟨4, .phase⟩, ⟨5, .phase⟩, ⟨6, .phase⟩, ⟨7, .phase⟩, ⟨8, .phase⟩], guard := none }
def sPa : List Nat := [17, 18, 19, 20, 21, 22, 23, 24, 25, 2]
def spPa (gb ob nn cc kk A B : Nat) : List Spec := [spV (.slice (some ⟨gb, ob, none⟩) nn cc), spV (.int .i64 (kk : Nat)), spV (.slice (some ⟨gb, ob, none⟩) kk cc), spV (.int .u32 (A : Nat)), spV (.slice (some ⟨gb, ob, none⟩) nn cc), spV (.int .i64 (kk : Nat)), spV (.slice (some ⟨gb, ob + kk, none⟩) (nn - kk) (cc - kk)), spV (.int .u32 (B : Nat)), spV (.int .u32 (addV A B : Nat)), spV (.int .u32 (addV A B : Nat))]
def skPa (i : Nat) : Bool := [].contains i
theorem hskPa {gb ob nn cc kk A B : Nat} : ∀ (i : Nat) (x : World), skPa i = true → specAt (spPa gb ob nn cc kk A B) i undef x := by
  intro i x h
  cases h
/-- With what was lost carried along. -/
def kahS (p : Nat × Nat) (s : Nat) : Nat × Nat := (addV p.1 (subV s p.2), subV (subV (addV p.1 (subV s p.2)) p.1) (subV s p.2))
def kahV (l : List Nat) : Nat := if l = [] then 0 else ((l.drop 1).foldl kahS (addV 2147483648 (l.getD 0 0), 0)).1
end Go.Proofs.Ytgaolakfgjmeiab
/- Plain facts: binary64 words of normal numbers: how they are read, rounded, ordered and multiplied by one; samples made wide. -/
namespace Go.Proofs.Ytgaolakfgjmeiab
open Go.RowKit

/-- The binary64 word of a sign, a full significand m (from 2^52, below 2^53) and its place p. -/
def wd (neg : Bool) (m : Nat) (p : Int) : Nat := (if neg = true then 9223372036854775808 else 0) + ((p + 1074).toNat * 4503599627370496 + m)

theorem read_wd {neg : Bool} {m : Nat} {p : Int} (h0 : 4503599627370496 ≤ m) (h1 : m < 9007199254740992) (p0 : -1074 ≤ p) (p1 : p ≤ 971) : Ieee.double.read (wd neg m p) = .number neg m p := by
  unfold Ieee.Format.read
  rw [sign64, binade64, inf64, least64]
  obtain ⟨q, hq⟩ : ∃ q : Nat, q = (p + 1074).toNat := ⟨_, rfl⟩
  have e1 : (wd neg m p / 9223372036854775808 % 2 == 1) = neg := by
    unfold wd; rw [← hq]; cases neg
    · rw [beq_eq_false_iff_ne]; simp; omega
    · rw [beq_iff_eq]; simp; omega
  have e2 : wd neg m p % 9223372036854775808 = q * 4503599627370496 + m := by
    unfold wd; rw [← hq]; cases neg <;> simp <;> omega
  simp only [e1, e2]
  rw [if_neg (by omega), if_pos (by omega)]
  have e3 : (q * 4503599627370496 + m) % 4503599627370496 = m - 4503599627370496 := by omega
  have e4 : (q * 4503599627370496 + m) / 4503599627370496 - 1 = q := by omega
  have e5 : 4503599627370496 + (m - 4503599627370496) = m := by omega
  have e6 : (-1074 : Int) + (q : Int) = p := by omega
  rw [e3, e4, e5, e6]

theorem cut_exact (neg : Bool) (q d : Nat) (h : 0 < q) : Ieee.Toward.even.cut neg (q * 2 ^ d) d = q := by
  unfold Ieee.Toward.cut
  have hl : d ≤ (q * 2 ^ d).log2 + 2 := by
    have h1 : 2 ^ d ≤ q * 2 ^ d := Nat.le_mul_of_pos_left _ h
    have h2 : q * 2 ^ d ≠ 0 := by have := Nat.two_pow_pos d; omega
    have := (Nat.le_log2 h2).2 h1
    omega
  have e1 : min d ((q * 2 ^ d).log2 + 2) = d := Nat.min_eq_left hl
  rw [e1]
  have e2 : (1 <<< d : Nat) = 2 ^ d := by rw [Nat.shiftLeft_eq, Nat.one_mul]
  rw [e2]
  have hp := Nat.two_pow_pos d
  have e3 : q * 2 ^ d / 2 ^ d = q := Nat.mul_div_cancel _ hp
  have e4 : q * 2 ^ d % 2 ^ d = 0 := Nat.mul_mod_left _ _
  simp only [e3, e4]
  have : ((decide (2 ^ d < 2 * 0)) || (2 ^ d == 2 * 0 && q % 2 == 1)) = false := by
    have hne : ¬ (2 ^ d = 0) := by omega
    simp
  rw [this]; rfl

theorem log2_shift {o L k : Nat} (h0 : 2 ^ L ≤ o) (h1 : o < 2 ^ (L + 1)) : (o * 2 ^ k).log2 = L + k := by
  have hp := Nat.two_pow_pos k
  have ho : o ≠ 0 := by have := Nat.two_pow_pos L; omega
  have hne : o * 2 ^ k ≠ 0 := Nat.mul_ne_zero ho (by omega)
  refine (Nat.log2_eq_iff hne).2 ⟨?_, ?_⟩
  · rw [Nat.pow_add]; exact Nat.mul_le_mul_right _ h0
  · rw [show L + k + 1 = (L + 1) + k by omega, Nat.pow_add]; exact Nat.mul_lt_mul_of_pos_right h1 hp

theorem frac64 : Ieee.double.fractionBits = 52 := rfl
/-- A number of at most 53 binary digits is written just as it is. -/
theorem nearest_exact {neg : Bool} {o L k : Nat} {p : Int} (h0 : 2 ^ L ≤ o) (h1 : o < 2 ^ (L + 1)) (hL : L ≤ 52) (q0 : -1074 ≤ p + k + L - 52) (q1 : p + k + L - 52 ≤ 971) :
    Ieee.double.nearest neg (o * 2 ^ k) p = wd neg (o * 2 ^ (52 - L)) (p + k + L - 52) := by
  have ho : 0 < o := by have := Nat.two_pow_pos L; omega
  have hne : o * 2 ^ k ≠ 0 := Nat.mul_ne_zero (by omega) (by have := Nat.two_pow_pos k; omega)
  unfold Ieee.Format.nearest
  rw [if_neg hne, log2_shift h0 h1, frac64, least64, binade64, inf64]
  have elast : max (p + ((L + k : Nat) : Int) - ((52 : Nat) : Int)) (-1074) = p + k + L - 52 := by omega
  have b1 : o * 2 ^ (52 - L) < 9007199254740992 := by
    have : o * 2 ^ (52 - L) < 2 ^ (L + 1) * 2 ^ (52 - L) := Nat.mul_lt_mul_of_pos_right h1 (Nat.two_pow_pos _)
    rw [← Nat.pow_add, show L + 1 + (52 - L) = 53 by omega] at this
    exact this
  have b0 : 0 < o * 2 ^ (52 - L) := Nat.mul_pos ho (Nat.two_pow_pos _)
  have ekept : Ieee.Toward.even.cut neg ((o * 2 ^ k) <<< (p - (p + k + L - 52)).toNat) ((p + k + L - 52) - p).toNat = o * 2 ^ (52 - L) := by
    rw [Nat.shiftLeft_eq]
    by_cases c : k + L ≤ 52
    · have e1 : (p - (p + k + L - 52)).toNat = 52 - L - k := by omega
      have e2 : ((p + k + L - 52) - p).toNat = 0 := by omega
      rw [e1, e2, Nat.mul_assoc, ← Nat.pow_add, show k + (52 - L - k) = 52 - L by omega]
      have := cut_exact neg (o * 2 ^ (52 - L)) 0 b0
      simpa using this
    · have e1 : (p - (p + k + L - 52)).toNat = 0 := by omega
      have e2 : ((p + k + L - 52) - p).toNat = k + L - 52 := by omega
      rw [e1, e2]
      have e3 : o * 2 ^ k * 2 ^ 0 = o * 2 ^ (52 - L) * 2 ^ (k + L - 52) := by
        rw [Nat.pow_zero, Nat.mul_one, Nat.mul_assoc, ← Nat.pow_add, show 52 - L + (k + L - 52) = k by omega]
      rw [e3]
      exact cut_exact neg _ _ b0
  simp only [elast, ekept]
  unfold Ieee.Format.word wd
  rw [sign64]
  have e5 : (p + k + L - 52 - -1074).toNat = (p + k + L - 52 + 1074).toNat := by congr 1
  rw [e5, Nat.min_eq_left (by omega)]
  cases neg <;> simp

theorem nearest_zero (neg : Bool) (p : Int) : Ieee.double.nearest neg 0 p = if neg = true then 9223372036854775808 else 0 := by
  unfold Ieee.Format.nearest Ieee.Format.word
  rw [if_pos rfl, sign64]

/-- The word of a number: its value decides. -/
theorem nearest_shift {neg : Bool} {o L k j : Nat} {p r : Int} (h0 : 2 ^ L ≤ o) (h1 : o < 2 ^ (L + 1)) (hL : L ≤ 52) (hk : p + k = r + j) (q0 : -1074 ≤ p + k + L - 52) (q1 : p + k + L - 52 ≤ 971) :
    Ieee.double.nearest neg (o * 2 ^ k) p = Ieee.double.nearest neg (o * 2 ^ j) r := by
  rw [nearest_exact h0 h1 hL q0 q1, nearest_exact h0 h1 hL (by omega) (by omega)]
  congr 1; omega

theorem order_wd_self {neg : Bool} {m : Nat} {p : Int} (h0 : 4503599627370496 ≤ m) (h1 : m < 9007199254740992) (p0 : -1074 ≤ p) (p1 : p ≤ 971) : Ieee.double.order (wd neg m p) (wd neg m p) = some .eq := by
  unfold Ieee.Format.order
  rw [read_wd h0 h1 p0 p1]
  show some (compare _ _) = _
  rw [Int.compare_eq_eq.2 rfl]

theorem signed_pos {m u : Nat} : Ieee.signed false m u = (m * 2 ^ u : Nat) := by unfold Ieee.signed; rw [Nat.shiftLeft_eq]; rfl

theorem read_zero : Ieee.double.read 0 = .number false 0 (-1074) := by decide
/-- It is not nought. -/
theorem order_wd_zero {neg : Bool} {m : Nat} {p : Int} (h0 : 4503599627370496 ≤ m) (h1 : m < 9007199254740992) (p0 : -1074 ≤ p) (p1 : p ≤ 971) : (Ieee.double.order (wd neg m p) 0 == some .eq) = false := by
  unfold Ieee.Format.order
  rw [read_wd h0 h1 p0 p1, read_zero]
  show (some (compare (Ieee.signed neg m (p - min p (-1074)).toNat) (Ieee.signed false 0 _)) == some .eq) = false
  have hp := Nat.two_pow_pos (p - min p (-1074)).toNat
  have hm : 0 < m * 2 ^ (p - min p (-1074)).toNat := Nat.mul_pos (by omega) hp
  have e : Ieee.signed false 0 (-1074 - min p (-1074)).toNat = 0 := by rw [signed_pos, Nat.zero_mul]; rfl
  rw [e]
  unfold Ieee.signed
  rw [Nat.shiftLeft_eq]
  generalize m * 2 ^ (p - min p (-1074)).toNat = z at hm
  cases neg
  · rw [show (if false = true then -((z : Nat) : Int) else ((z : Nat) : Int)) = z from rfl, Int.compare_eq_gt.2 (by omega)]; rfl
  · rw [show (if true = true then -((z : Nat) : Int) else ((z : Nat) : Int)) = -z from rfl, Int.compare_eq_lt.2 (by omega)]; rfl

theorem read_max : Ieee.double.read 9218868437227405311 = .number false 9007199254740991 971 := by decide
/-- It is not above the greatest number. -/
theorem order_wd_max {m : Nat} {p : Int} (h0 : 4503599627370496 ≤ m) (h1 : m < 9007199254740992) (p0 : -1074 ≤ p) (p1 : p ≤ 971) : (Ieee.double.order (wd false m p) 9218868437227405311 == some .gt) = false := by
  unfold Ieee.Format.order
  rw [read_wd h0 h1 p0 p1, read_max]
  show (some (compare (Ieee.signed false m (p - min p 971).toNat) (Ieee.signed false 9007199254740991 (971 - min p 971).toNat)) == some .gt) = false
  rw [signed_pos, signed_pos, show (p - min p 971).toNat = 0 by omega, Nat.pow_zero, Nat.mul_one]
  have hp := Nat.two_pow_pos (971 - min p 971).toNat
  have : 9007199254740991 * 1 ≤ 9007199254740991 * 2 ^ (971 - min p 971).toNat := Nat.mul_le_mul_left _ hp
  generalize 9007199254740991 * 2 ^ (971 - min p 971).toNat = z at this
  rcases Nat.lt_or_ge m z with g | g
  · rw [Int.compare_eq_lt.2 (by omega)]; rfl
  · rw [Int.compare_eq_eq.2 (by omega)]; rfl

theorem read_least : Ieee.double.read 4503599627370496 = .number false 4503599627370496 (-1074) := by decide
/-- It is not below the least normal number. -/
theorem order_wd_least {m : Nat} {p : Int} (h0 : 4503599627370496 ≤ m) (h1 : m < 9007199254740992) (p0 : -1074 ≤ p) (p1 : p ≤ 971) : (Ieee.double.order (wd false m p) 4503599627370496 == some .lt) = false := by
  unfold Ieee.Format.order
  rw [read_wd h0 h1 p0 p1, read_least]
  show (some (compare (Ieee.signed false m (p - min p (-1074)).toNat) (Ieee.signed false 4503599627370496 (-1074 - min p (-1074)).toNat)) == some .lt) = false
  rw [signed_pos, signed_pos, show (-1074 - min p (-1074)).toNat = 0 by omega, Nat.pow_zero, Nat.mul_one]
  have hp := Nat.two_pow_pos (p - min p (-1074)).toNat
  have : m * 1 ≤ m * 2 ^ (p - min p (-1074)).toNat := Nat.mul_le_mul_left _ hp
  generalize m * 2 ^ (p - min p (-1074)).toNat = z at this
  rcases Nat.lt_or_ge 4503599627370496 z with g | g
  · rw [Int.compare_eq_gt.2 (by omega)]; rfl
  · rw [Int.compare_eq_eq.2 (by omega)]; rfl

theorem read_one : Ieee.double.read 4607182418800017408 = .number false 4503599627370496 (-52) := by decide
/-- One times a number is the number. -/
theorem one_mul_wd {neg : Bool} {m : Nat} {p : Int} (h0 : 4503599627370496 ≤ m) (h1 : m < 9007199254740992) (p0 : -1074 ≤ p) (p1 : p ≤ 971) : Ieee.double.mul 4607182418800017408 (wd neg m p) = some (wd neg m p) := by
  unfold Ieee.Format.mul
  rw [read_wd h0 h1 p0 p1, read_one]
  show some (Ieee.double.nearest (false ^^ neg) (4503599627370496 * m) (-52 + p)) = _
  congr 1
  have e1 : 4503599627370496 * m = m * 2 ^ 52 := by rw [Nat.mul_comm]
  have e2 : (false ^^ neg) = neg := by cases neg <;> rfl
  rw [e1, e2, nearest_exact (L := 52) (by omega) (by omega) (Nat.le_refl _) (by omega) (by omega)]
  rw [Nat.sub_self, Nat.pow_zero, Nat.mul_one]
  congr 1; omega

theorem wd_word (neg : Bool) (m : Nat) (p : Int) : wd neg m p = Ieee.double.word neg ((p + 1074).toNat * 4503599627370496 + m) := by
  rw [word64]; unfold wd; cases neg <;> simp
theorem wd_rung {neg : Bool} {m : Nat} {p : Int} (h1 : m < 9007199254740992) (p1 : p ≤ 971) : rung64 (wd neg m p) = (p + 1074).toNat * 4503599627370496 + m ∧ sgn64 (wd neg m p) = neg := by
  rw [wd_word]
  obtain ⟨a, b⟩ := sgn_word64 neg (r := (p + 1074).toNat * 4503599627370496 + m) (by omega)
  exact ⟨b, a⟩
theorem wd_sum {neg : Bool} {m : Nat} {p n : Int} (p0 : -1074 ≤ p) (q0 : -1074 ≤ p + n) : ((wd neg m p : Int) + n * 4503599627370496).toNat = wd neg m (p + n) := by
  unfold wd; cases neg <;> simp <;> omega

theorem mag_ne32 {r : Nat} (h : r ≠ 0) : mag32 r ≠ 0 := by
  intro hm
  have := val_pos32 (r := r) (by omega)
  unfold val32 at this
  rw [hm, Nat.zero_mul] at this
  omega
/-- A finite sample that is not 0, made wide, is a normal number. -/
theorem wide_wd {a : Nat} (h0 : rung32 a ≠ 0) (h : rung32 a < 2139095040) : ∃ L : Nat, L ≤ 23 ∧ 2 ^ L ≤ mag32 (rung32 a) ∧ mag32 (rung32 a) < 2 ^ (L + 1) ∧
    wideN a = wd (sgn32 a) (mag32 (rung32 a) * 2 ^ (52 - L)) (-149 + (plc32 (rung32 a) : Int) + L - 52) ∧ plc32 (rung32 a) ≤ 253 := by
  have hm := mag_ne32 h0
  have hm1 := mag_lt32 (rung32 a)
  have hp : plc32 (rung32 a) ≤ 253 := by unfold plc32; omega
  have e1 := Nat.log2_self_le hm
  have e2 : mag32 (rung32 a) < 2 ^ ((mag32 (rung32 a)).log2 + 1) := Nat.lt_log2_self
  have e3 : (mag32 (rung32 a)).log2 ≤ 23 := by
    have := (Nat.log2_lt hm).2 (show mag32 (rung32 a) < 2 ^ 24 from hm1)
    omega
  refine ⟨(mag32 (rung32 a)).log2, e3, e1, e2, ?_, hp⟩
  unfold wideN
  rw [read_fin32 h]
  show Ieee.double.nearest _ _ _ = _
  have := nearest_exact (neg := sgn32 a) (o := mag32 (rung32 a)) (k := 0) (p := -149 + (plc32 (rung32 a) : Int)) e1 e2 (by omega) (by omega) (by omega)
  rw [Nat.pow_zero, Nat.mul_one] at this
  rw [this]
  congr 1; omega
theorem wide_zero {a : Nat} (h : rung32 a = 0) : wideN a = Ieee.double.word (sgn32 a) 0 := by
  unfold wideN
  rw [read_fin32 (by omega), h]
  show Ieee.double.nearest _ 0 _ = _
  rw [nearest_rung]; rfl
theorem wide_inf {a : Nat} (h : rung32 a = 2139095040) : wideN a = Ieee.double.word (sgn32 a) 9218868437227405312 := by
  unfold wideN
  rw [read_inf32 h]
  show Ieee.double.word _ Ieee.double.infRung = _
  rw [inf64]
end Go.Proofs.Ytgaolakfgjmeiab
/- What the library's Ldexp returns of a binary64 number and a power that keeps it normal, and package arith's Scale; what was in memory stays as it was. -/
namespace Go.Proofs.Ytgaolakfgjmeiab
open Go.RowKit

theorem i64_and (a b : Nat) (ha : a < 9223372036854775808) (hb : b < 9223372036854775808) : bits .and .i64 (a : Int) (b : Int) = ((a &&& b : Nat) : Int) := by
  have hx : a &&& b < 2 ^ 63 := Nat.and_lt_two_pow _ (by omega)
  show IntKind.i64.wrap ((BitVec.ofInt 64 (a : Int) &&& BitVec.ofInt 64 (b : Int)).toNat : Int) = _
  rw [BitVec.toNat_and, ofInt_u64 a (by omega), ofInt_u64 b (by omega), IntKind.wrap_i64]
  omega
theorem top_off (r : Int) (h0 : 0 ≤ r) (h1 : r < 9223372036854775808) : bits .andNot .u64 (9223372036854775808 + r) 9223372036854775808 = r := by go_bits2
theorem top_off' (r : Int) (h0 : 0 ≤ r) (h1 : r < 9223372036854775808) : bits .andNot .u64 r 9223372036854775808 = r := by go_bits2
theorem nat_clear (x : Nat) : x &&& 9227875636482146303 = x / 9223372036854775808 % 2 * 9223372036854775808 + x % 4503599627370496 := by
  have e : (9227875636482146303 : Nat) = 2 ^ 63 ||| (2 ^ 52 - 1) := by decide
  rw [e, Nat.and_or_distrib_left, nat_bit 63 x, Nat.and_two_pow_sub_one_eq_mod]
  exact nat_join 63 _ _ (Nat.mul_mod_left _ _) (Nat.lt_trans (Nat.mod_lt _ (by decide)) (by decide))
theorem nat_lay (s q f : Nat) (hq : q < 2048) (hf : f < 4503599627370496) : (s * 9223372036854775808 + f) ||| (q * 4503599627370496) = s * 9223372036854775808 + (q * 4503599627370496 + f) := by
  have e1 : s * 9223372036854775808 + f = s * 9223372036854775808 ||| f := (nat_join 63 _ _ (by show s * 2 ^ 63 % 2 ^ 63 = 0; exact Nat.mul_mod_left _ _) (by omega)).symm
  have e2 : f ||| q * 4503599627370496 = q * 4503599627370496 + f := by
    rw [Nat.or_comm]; exact nat_join 52 _ _ (by show q * 2 ^ 52 % 2 ^ 52 = 0; exact Nat.mul_mod_left _ _) (by omega)
  rw [e1, Nat.or_assoc, e2]
  exact nat_join 63 _ _ (by show s * 2 ^ 63 % 2 ^ 63 = 0; exact Nat.mul_mod_left _ _) (by omega)

/-- The word as sign, exponent and the rest. -/
theorem wd_form (neg : Bool) (m : Nat) (p : Int) : wd neg m p = neg.toNat * 9223372036854775808 + ((p + 1074).toNat * 4503599627370496 + m) := by
  unfold wd; cases neg <;> simp
theorem wd_lt {neg : Bool} {m : Nat} {p : Int} (h1 : m < 9007199254740992) (p1 : p ≤ 971) : wd neg m p < 18446744073709551616 := by
  rw [wd_form]; have := Bool.toNat_lt neg; omega
theorem wd_exp {neg : Bool} {m : Nat} {p : Int} (h0 : 4503599627370496 ≤ m) (h1 : m < 9007199254740992) (p0 : -1074 ≤ p) (p1 : p ≤ 971) : bits .and .i64 ((wd neg m p : Int) / 4503599627370496) 2047 = p + 1075 := by
  have e1 : (wd neg m p : Int) / 4503599627370496 = ((wd neg m p / 4503599627370496 : Nat) : Int) := by omega
  have hlt := wd_lt (neg := neg) h1 p1
  rw [e1, show (2047 : Int) = ((2047 : Nat) : Int) from rfl, i64_and _ _ (by omega) (by omega), nat_mask11]
  have hb := Bool.toNat_lt neg
  rw [wd_form]
  omega
theorem wd_clear {neg : Bool} {m : Nat} {p : Int} (h0 : 4503599627370496 ≤ m) (h1 : m < 9007199254740992) (p1 : p ≤ 971) : bits .andNot .u64 (wd neg m p : Int) 9218868437227405312 = ((neg.toNat * 9223372036854775808 + (m - 4503599627370496) : Nat) : Int) := by
  have hlt := wd_lt (neg := neg) h1 p1
  rw [u64_andNot _ _ (by omega) (by omega) (by omega) (by omega)]
  rw [show (18446744073709551615 - (9218868437227405312 : Int).toNat) = 9227875636482146303 from rfl, nat_clear, Int.toNat_natCast]
  have hb := Bool.toNat_lt neg
  rw [wd_form]
  omega
theorem wd_lay {neg : Bool} {m : Nat} {x : Int} (h0 : 4503599627370496 ≤ m) (h1 : m < 9007199254740992) (x0 : 1 ≤ x) (x1 : x ≤ 2046) : bits .or .u64 ((neg.toNat * 9223372036854775808 + (m - 4503599627370496) : Nat) : Int) (x * 4503599627370496) = (wd neg m (x - 1075) : Int) := by
  have hb := Bool.toNat_lt neg
  obtain ⟨q, rfl⟩ := Int.eq_ofNat_of_zero_le (show 0 ≤ x by omega)
  rw [show ((q : Int) * 4503599627370496) = ((q * 4503599627370496 : Nat) : Int) by omega, u64_or_nat _ _ (by omega) (by omega), nat_lay _ _ _ (by omega) (by omega), wd_form]
  omega

theorem abs_bits {x : Nat} (hx : x < 18446744073709551616) : bits .andNot .u64 (x : Int) 9223372036854775808 = (rung64 x : Int) := by
  unfold rung64
  rcases Nat.lt_or_ge x 9223372036854775808 with g | g
  · rw [top_off' _ (by omega) (by omega)]; omega
  · obtain ⟨r, rfl⟩ : ∃ r, x = 9223372036854775808 + r := ⟨x - 9223372036854775808, by omega⟩
    rw [show ((9223372036854775808 + r : Nat) : Int) = 9223372036854775808 + (r : Int) by omega, top_off _ (by omega) (by omega)]; omega
theorem rung_rung (x : Nat) : rung64 (rung64 x) = rung64 x ∧ sgn64 (rung64 x) = false := by
  unfold rung64 sgn64
  exact ⟨by omega, by rw [beq_eq_false_iff_ne]; omega⟩
theorem order_max (x : Nat) : (Ieee.double.order (rung64 x) 9218868437227405311 == some Ordering.gt) = decide (rung64 x = 9218868437227405312) := by
  obtain ⟨r1, r2⟩ := rung_rung x
  rcases Nat.lt_or_ge 9218868437227405312 (rung64 x) with g | g
  · rw [order_nan1 _ (read64_nan (by rw [nan64_rung, r1]; exact decide_eq_true g)), decide_eq_false (by omega)]; rfl
  · rw [order_num64 (by rw [r1]; exact g) (by decide)]
    have e1 : srung64 (rung64 x) = rung64 x := by unfold srung64; rw [r1, r2]; rfl
    have e2 : srung64 9218868437227405311 = 9218868437227405311 := by decide
    rw [e1, e2]
    rcases Nat.lt_or_ge 9218868437227405311 (rung64 x) with k | k
    · rw [Int.compare_eq_gt.2 (by omega), decide_eq_true (by omega)]; rfl
    · rw [decide_eq_false (by omega)]
      rcases Nat.lt_or_ge (rung64 x) 9218868437227405311 with j | j
      · rw [Int.compare_eq_lt.2 (by omega)]; rfl
      · rw [Int.compare_eq_eq.2 (by omega)]; rfl
theorem order_least (x : Nat) (h : 4503599627370496 ≤ rung64 x) : (Ieee.double.order (rung64 x) 4503599627370496 == some Ordering.lt) = false := by
  obtain ⟨r1, r2⟩ := rung_rung x
  rcases Nat.lt_or_ge 9218868437227405312 (rung64 x) with g | g
  · rw [order_nan1 _ (read64_nan (by rw [nan64_rung, r1]; exact decide_eq_true g))]; rfl
  · rw [order_num64 (by rw [r1]; exact g) (by decide)]
    have e1 : srung64 (rung64 x) = rung64 x := by unfold srung64; rw [r1, r2]; rfl
    have e2 : srung64 4503599627370496 = 4503599627370496 := by decide
    rw [e1, e2, cmp_lt, decide_eq_false (by omega)]
theorem order_self64 (x : Nat) : (Ieee.double.order x x != some Ordering.eq) = nan64 x := by
  cases h : nan64 x
  · rw [nan64_rung] at h
    have h := of_decide_eq_false h
    rw [order_num64 (by omega) (by omega), Int.compare_eq_eq.2 rfl]; rfl
  · rw [order_nan1 _ (read64_nan h)]; rfl
theorem ord_zero64 (b : Nat) : (Ieee.double.order b 0 == some Ordering.eq) = decide (rung64 b = 0) := by
  cases h : nan64 b
  · rw [nan64_rung] at h
    have h := of_decide_eq_false h
    rw [order_num64 (by omega) (by decide), cmp_eq, show srung64 0 = 0 from by decide]
    unfold srung64
    rw [decide_eq_decide]
    split <;> omega
  · rw [order_nan1 _ (read64_nan h)]
    rw [nan64_rung] at h
    have h := of_decide_eq_true h
    rw [decide_eq_false (by omega)]; rfl
/-- A binary64 times a power of two. -/
def ldV (y : Nat) (x : Int) : Nat := if rung64 y = 0 ∨ 9218868437227405312 ≤ rung64 y then y else ((y : Int) + x * 4503599627370496).toNat
theorem ldV_wd {neg : Bool} {m : Nat} {p x : Int} (h0 : 4503599627370496 ≤ m) (h1 : m < 9007199254740992) (p0 : -1074 ≤ p) (p1 : p ≤ 970) (q0 : -1074 ≤ p + x) : ldV (wd neg m p) x = wd neg m (p + x) := by
  obtain ⟨r1, r2⟩ := wd_rung (neg := neg) h1 (show p ≤ 971 by omega)
  unfold ldV
  rw [if_neg (by rw [r1]; omega)]
  exact wd_sum p0 q0
/-- A power, not too far. -/
def clampV (n : Int) : Int := if n < -300 then -300 else if 300 < n then 300 else n
theorem clamp_bd (n : Int) : -300 ≤ clampV n ∧ clampV n ≤ 300 := by unfold clampV; split <;> (try split) <;> omega
/-- A sample times a power of two. -/
def scaleV (a : Nat) (n : Int) : Nat := if nanN a = true then 2143289344 else toldD (some (Ieee.double.read (ldV (wideN a) (clampV n))))
end Go.Proofs.Ytgaolakfgjmeiab
/- Sums in binary64, one behind the other: what the program tells. -/
namespace Go.Proofs.Ytgaolakfgjmeiab
open Go.RowKit
def left64V (l : List Nat) : Nat := if l = [] then 0 else l.foldl (fun z s => add64V z (wideW s)) 9223372036854775808
end Go.Proofs.Ytgaolakfgjmeiab
/- sums' narrow. -/
namespace Go.Proofs.Ytgaolakfgjmeiab
open Go.RowKit
end Go.Proofs.Ytgaolakfgjmeiab
/- Lists of whole numbers in memory. -/
namespace Go.Proofs.Ytgaolakfgjmeiab
open Go.RowKit
set_option linter.unusedVariables false
set_option linter.unusedSimpArgs false

/-- A list of whole numbers in memory. -/
def ISl (w : World) (v : Value) (l : List Int) : Prop := (∃ g o cap, v = .slice (some ⟨g, o, none⟩) l.length cap ∧ ∀ i, i < l.length → w.cell? ⟨g, o + i, none⟩ = some (.int .i64 (l.getD i 0))) ∨ (∃ a c, v = .slice a 0 c ∧ l = [])
theorem ISl.next {w w' : World} {v : Value} {l : List Int} (h : ISl w v l) (q : Q w w') : ISl w' v l := by
  rcases h with ⟨g, o, cap, h1, h2⟩ | h
  · exact Or.inl ⟨g, o, cap, h1, fun i hi => q.cell (h2 i hi)⟩
  · exact Or.inr h
theorem ISl.form {w : World} {v : Value} {l : List Int} (h : ISl w v l) : ∃ a cap, v = .slice a l.length cap := by
  rcases h with ⟨g, o, cap, h1, h2⟩ | ⟨a, c, h1, h2⟩
  · exact ⟨_, _, h1⟩
  · subst h2; exact ⟨a, c, h1⟩
theorem ISl.some {w : World} {v : Value} {l : List Int} (h : ISl w v l) (h1 : 1 ≤ l.length) : ∃ g o cap, v = .slice (some ⟨g, o, none⟩) l.length cap ∧ ∀ i, i < l.length → w.cell? ⟨g, o + i, none⟩ = some (.int .i64 (l.getD i 0)) := by
  rcases h with h | ⟨_, _, _, h2⟩
  · exact h
  · subst h2; cases h1
end Go.Proofs.Ytgaolakfgjmeiab
/- Sums of products with weights, where each product is a number. -/
namespace Go.Proofs.Ytgaolakfgjmeiab
open Go.RowKit
set_option linter.unusedVariables false
set_option linter.unusedSimpArgs false

/-- The sum of products. -/
def dotF (l : List Nat) : Nat := if l = [] then 0 else l.foldl add64V 9223372036854775808
/-- A 65536th of a binary64, as a sample. -/
def overW (X : Nat) : Nat := match floatBits .quo .f64 X 4679240012837945344 with
  | none => 2143289344
  | some Z => toldD (some (Ieee.double.read Z))
theorem quo_nan {X : Nat} (h : nan64 X = true) : floatBits .quo .f64 X 4679240012837945344 = none := by
  obtain ⟨s, t, e⟩ := isNaN_cases (read64_nan h)
  show ((Ieee.double.read X).quotient (Ieee.double.fractionBits + 2) (Ieee.double.read 4679240012837945344)).map Ieee.double.write = none
  rw [e]
  rfl
theorem told_nan {X : Nat} (h : nan64 X = true) : toldD (some (Ieee.double.read X)) = 2143289344 := by
  obtain ⟨s, t, e⟩ := isNaN_cases (read64_nan h)
  rw [e]
  rfl
theorem over_can (X : Nat) : overW (canW X) = overW X := by
  unfold canW
  cases h : nan64 X
  · rfl
  · rw [if_pos rfl]
    unfold overW
    rw [quo_nan h, quo_nan made64]
end Go.Proofs.Ytgaolakfgjmeiab

/- A region that draws its order, by what holds at each of its states; two calls whose answers are laid into two new boxes. -/
import Derived.Test.YtmgpaheobhfioaaDoorGe9f3539d
import Derived.Shelf.Abstract
import Derived.Test.YtmgpaheobhfioaaDoorGc92d6c29
namespace Go.Proofs.YtmgpaheobhfioaaDoor
open Go.RowKit
set_option linter.unusedVariables false

/-- What is not to be laid open. -/
structure Shut (p : Prop) : Prop where
  out : p
theorem count_set {l : Array Bool} {i : Nat} (h : l.getD i true = false) : (l.setIfInBounds i true).toList.countP (· == false) + 1 = l.toList.countP (· == false) := by
  have hi : i < l.size := by
    rcases Nat.lt_or_ge i l.size with g | g
    · exact g
    · rw [Array.getD_eq_getD_getElem?, Array.getElem?_eq_none g] at h; cases h
  have hv : l[i] = false := by
    rw [Array.getD_eq_getD_getElem?, Array.getElem?_eq_getElem hi] at h; exact h
  rw [Array.toList_setIfInBounds, List.countP_set (by simpa using hi)]
  have hv' : l.toList[i]'(by simpa using hi) = false := by simpa using hv
  have pos : 0 < l.toList.countP (· == false) := List.countP_pos_iff.2 ⟨false, List.mem_iff_getElem.2 ⟨i, by simpa using hi, hv'⟩, rfl⟩
  rw [hv']
  change l.toList.countP (· == false) - 1 + 0 + 1 = _
  omega
theorem ready_pos {l : Array Bool} {i : Nat} (h : l.getD i true = false) : 0 < l.toList.countP (· == false) := by
  have := count_set h
  omega
theorem wpAny_inv {P : Program} {ops : Array Oper} {R : Exit → Act → World → Prop} (Inv : Array Bool → Act → World → Prop)
    (hs : ∀ lst a w i o, Inv lst a w → ops[i]? = some o → lst.getD i true = false → (∀ e ∈ o.after, Region.binds .any e = true → lst.getD e.on false = true) → o.guard = none ∧ o.wp P a w (fun a' w' => Inv (lst.setIfInBounds i true) a' w') R)
    (he : ∀ lst a w, Inv lst a w → (∀ i o, ops[i]? = some o → (∀ e ∈ o.after, Region.binds .any e = true → lst.getD e.on false = true) → lst.getD i true = true) → R .normal a w) :
    ∀ (fuel : Nat) (lst : Array Bool) (a : Act) (w : World), Inv lst a w → lst.toList.countP (· == false) ≤ fuel → wpAny P .any ops R fuel lst a w := by
  have done : ∀ (lst : Array Bool) (a : Act) (w : World), Inv lst a w → Region.ready .any ops lst = [] → R .normal a w := fun lst a w h hr => he lst a w h (fun i o ho hd => by
    cases hc : lst.getD i true with
    | true => rfl
    | false =>
      have : i ∈ Region.ready .any ops lst := mem_ready.2 ⟨hc, o, ho, hd⟩
      rw [hr] at this
      cases this)
  intro fuel
  induction fuel with
  | zero =>
    intro lst a w h hc
    have hr : Region.ready .any ops lst = [] := by
      cases hr : Region.ready .any ops lst with
      | nil => rfl
      | cons j js =>
        have : j ∈ Region.ready .any ops lst := by rw [hr]; exact List.mem_cons_self
        have := ready_pos (mem_ready.1 this).1
        omega
    exact ⟨hr, done lst a w h hr⟩
  | succ fuel ih =>
    intro lst a w h hc
    refine ⟨done lst a w h, fun i hi => ?_⟩
    obtain ⟨h1, o, ho, h2⟩ := mem_ready.1 hi
    obtain ⟨hg, hw⟩ := hs lst a w i o h ho h1 h2
    unfold wpOp
    rw [ho]
    simp only
    rw [if_pos (by unfold Region.wanted; rw [hg])]
    have hcs := count_set h1
    exact Or.inl (Oper.wp_mono (fun a' w' h' => ih _ a' w' h' (by omega)) hw)
theorem wp_region_inv {P : Program} {id : Nat} {ops : Array Oper} {R : Exit → Act → World → Prop} {a : Act} {w : World} (Inv : Array Bool → Act → World → Prop) (hm : P.follows .mixedOrders = true)
    (h0 : Inv (Array.replicate ops.size false) a w.drew)
    (hs : ∀ lst a w i o, Inv lst a w → ops[i]? = some o → lst.getD i true = false → (∀ e ∈ o.after, Region.binds .any e = true → lst.getD e.on false = true) → o.guard = none ∧ o.wp P a w (fun a' w' => Inv (lst.setIfInBounds i true) a' w') R)
    (he : ∀ lst a w, Inv lst a w → (∀ i o, ops[i]? = some o → (∀ e ∈ o.after, Region.binds .any e = true → lst.getD e.on false = true) → lst.getD i true = true) → R .normal a w) : (Code.region id ops true).wp P R a w := by
  refine wp_region_any hm (wpAny_inv Inv hs he _ _ _ _ h0 ?_)
  have := List.countP_le_length (l := (Array.replicate ops.size false).toList) (p := (· == false))
  simpa using this
end Go.Proofs.YtmgpaheobhfioaaDoor
/- A region that draws its order: operations that come up in whatever order, each with a fact that lasts; then others, one behind the other. -/
namespace Go.Proofs.YtmgpaheobhfioaaDoor
open Go.RowKit
set_option linter.unusedVariables false
set_option linter.unusedSimpArgs false

/-- What operations wait for, and what these wait for, and so on. -/
def reach (l : List Oper) : Nat → List Nat → List Nat
  | 0, js => js
  | f + 1, js => js ++ reach l f ((js.flatMap fun j => match l[j]? with
    | some o => (o.after.toList.filter (Region.binds .any)).map (·.on)
    | none => []).eraseDups)
theorem reach_got {l : List Oper} {lst : Array Bool} (hc : ∀ (j : Nat) (o : Oper), lst.getD j false = true → l[j]? = some o → ∀ e ∈ o.after, Region.binds .any e = true → lst.getD e.on false = true) : ∀ (f : Nat) (js : List Nat), (∀ j ∈ js, lst.getD j false = true) → ∀ j ∈ reach l f js, lst.getD j false = true := by
  intro f
  induction f with
  | zero => exact fun js h j hj => h j hj
  | succ f ih =>
    intro js h j hj
    rcases List.mem_append.1 hj with hj | hj
    · exact h j hj
    · refine ih _ (fun k hk => ?_) j hj
      rw [List.mem_eraseDups, List.mem_flatMap] at hk
      obtain ⟨i, hi, hk⟩ := hk
      cases ho : l[i]? with
      | none => rw [ho] at hk; cases hk
      | some o =>
        rw [ho] at hk
        obtain ⟨e, he, rfl⟩ := List.mem_map.1 hk
        obtain ⟨h1, h2⟩ := List.mem_filter.1 he
        exact hc i o (h i hi) ho e (by simpa using h1) h2
/-- Each operation waits for earlier ones alone; from n on each waits, at last, for all earlier ones; none is guarded. -/
def regB (l : List Oper) (n : Nat) : Bool := (List.range l.length).all fun k => match l[k]? with
  | some o => o.guard.isNone && ((o.after.toList.all fun e => !(Region.binds .any e) || decide (e.on < k)) && (decide (k < n) || (List.range k).all fun j => (reach l 3 ((o.after.toList.filter (Region.binds .any)).map (·.on))).contains j))
  | none => true
theorem regB_at {l : List Oper} {n : Nat} (h : regB l n = true) {k : Nat} {o : Oper} (hk : l[k]? = some o) : o.guard = none ∧ (∀ e ∈ o.after, Region.binds .any e = true → e.on < k) ∧ (n ≤ k → ∀ j, j < k → j ∈ reach l 3 ((o.after.toList.filter (Region.binds .any)).map (·.on))) := by
  have hlt : k < l.length := (List.getElem?_eq_some_iff.1 hk).1
  have h1 := List.all_eq_true.1 h k (List.mem_range.2 hlt)
  rw [hk] at h1
  simp only [Bool.and_eq_true, Bool.or_eq_true] at h1
  refine ⟨by simpa using h1.1, fun e he hb => ?_, fun hn j hj => ?_⟩
  · have h2 := List.all_eq_true.1 h1.2.1 e (by simpa using he)
    rw [hb] at h2
    simpa using h2
  · rcases h1.2.2 with h2 | h2
    · have : k < n := by simpa using h2
      omega
    · have h3 := List.all_eq_true.1 h2 j (List.mem_range.2 hj)
      simpa using h3
/-- What follows, one behind the other. -/
def wpPost (P : Program) (R : Exit → Act → World → Prop) : List Oper → Act → World → Prop
  | [], a, w => R .normal a w
  | o :: rest, a, w => o.wp P a w (fun a' w' => wpPost P R rest a' w') R
/-- An operation that yields a value of which G holds, and makes new blocks alone. -/
def Yld (P : Program) (R : Exit → Act → World → Prop) (o : Oper) (a : Act) (x : World) (t : Nat) (G : Value → World → Prop) : Prop :=
  Shut (o.wp P a x (fun a' x' => ∃ v, a' = a.put (some t) v ∧ Q x x' ∧ G v x') R)
/-- A pointer at the block V. -/
def ptrV (V : Nat) : Value := .pointer (some ⟨V, 0, none⟩)
theorem ptrV_inj {V V' : Nat} (h : ptrV V = ptrV V') : V = V' := by
  injection h with h; injection h with h; injection h
structure Facts (F : Nat → Value → World → Prop) (A : List Nat) (w : World) (a0 : Act) (s : List Nat) (l : List Oper) (n : Nat) (lst : Array Bool) (a : Act) (x : World) : Prop where
  size : a.tmps.size = a0.tmps.size
  defers : a.defers = a0.defers
  other : ∀ j, j ∉ s → a.tmps[j]? = a0.tmps[j]?
  q : Q w x
  ls : lst.size = l.length
  post : ∀ k, n ≤ k → k < l.length → lst.getD k true = false
  closed : ∀ (j : Nat) (o : Oper), lst.getD j false = true → l[j]? = some o → ∀ e ∈ o.after, Region.binds .any e = true → lst.getD e.on false = true
  facts : ∀ i t, i < n → s[i]? = some t → lst.getD i false = true → ∃ v, a.tmps[t]? = some v ∧ F i v x
  apart : ∀ i j ti tj v, i < n → j < n → i ∈ A → j ∈ A → i ≠ j → s[i]? = some ti → s[j]? = some tj → lst.getD i false = true → lst.getD j false = true → a.tmps[ti]? = some v → a.tmps[tj]? ≠ some v
theorem got_of {lst : Array Bool} {i : Nat} (h : lst.getD i true = true) (hi : i < lst.size) : lst.getD i false = true := by
  rw [Array.getD_eq_getD_getElem?, Array.getElem?_eq_getElem hi] at h ⊢
  exact h
theorem not_got {lst : Array Bool} {i : Nat} (h : lst.getD i true = false) : lst.getD i false = false := by
  rw [Array.getD_eq_getD_getElem?] at h ⊢
  cases g : lst[i]? with
  | none => rfl
  | some b => rw [g] at h; exact h
theorem set_ne {lst : Array Bool} {i k : Nat} {d : Bool} (h : i ≠ k) : (lst.setIfInBounds i true).getD k d = lst.getD k d := by
  rw [Array.getD_eq_getD_getElem?, Array.getD_eq_getD_getElem?, Array.getElem?_setIfInBounds_ne h]
theorem set_eq {lst : Array Bool} {i : Nat} {d : Bool} (h : i < lst.size) : (lst.setIfInBounds i true).getD i d = true := by
  rw [Array.getD_eq_getD_getElem?, Array.getElem?_setIfInBounds_self_of_lt h]; rfl
theorem deps_got {l : List Oper} {lst : Array Bool} {o : Oper} (hc : ∀ (j : Nat) (o : Oper), lst.getD j false = true → l[j]? = some o → ∀ e ∈ o.after, Region.binds .any e = true → lst.getD e.on false = true) (hdep : ∀ e ∈ o.after, Region.binds .any e = true → lst.getD e.on false = true) : ∀ j ∈ reach l 3 ((o.after.toList.filter (Region.binds .any)).map (·.on)), lst.getD j false = true :=
  reach_got hc 3 _ (fun j hj => by
    obtain ⟨e, he, rfl⟩ := List.mem_map.1 hj
    obtain ⟨h1, h2⟩ := List.mem_filter.1 he
    exact hdep e (by simpa using h1) h2)
theorem closed_set {l : List Oper} {lst : Array Bool} {i : Nat} {o : Oper} (ho : l[i]? = some o) (hc : ∀ (j : Nat) (o : Oper), lst.getD j false = true → l[j]? = some o → ∀ e ∈ o.after, Region.binds .any e = true → lst.getD e.on false = true) (hdep : ∀ e ∈ o.after, Region.binds .any e = true → lst.getD e.on false = true) :
    ∀ (j : Nat) (o : Oper), (lst.setIfInBounds i true).getD j false = true → l[j]? = some o → ∀ e ∈ o.after, Region.binds .any e = true → (lst.setIfInBounds i true).getD e.on false = true := fun j o' hj hjo e he hb => by
  have key : lst.getD e.on false = true := by
    by_cases h : i = j
    · subst h
      rw [ho] at hjo
      injection hjo with hjo
      subst hjo
      exact hdep e he hb
    · rw [set_ne h] at hj
      exact hc j o' hj hjo e he hb
  by_cases h : i = e.on
  · rw [← h]
    refine set_eq ?_
    rcases Nat.lt_or_ge i lst.size with g | g
    · exact g
    · rw [← h, Array.getD_eq_getD_getElem?, Array.getElem?_eq_none (by omega)] at key; cases key
  · rw [set_ne h]; exact key
set_option maxHeartbeats 1000000 in
theorem wp_region_facts {P : Program} {id : Nat} {R : Exit → Act → World → Prop} {a0 : Act} {w : World} {l : List Oper} (n : Nat) (s : List Nat) (F : Nat → Value → World → Prop) (A : List Nat)
    (hm : P.follows .mixedOrders = true) (hB : regB l n = true) (hn : n ≤ l.length) (hs : s.length = n) (hd : s.Nodup) (hmax : ∀ t ∈ s, t < a0.tmps.size)
    (hst : ∀ i v x x', F i v x → Q x x' → F i v x') (hA : ∀ i v x, i ∈ A → F i v x → ∃ V, v = ptrV V ∧ V < x.heap.size)
    (hop : ∀ i t o (a : Act) x, i < n → s[i]? = some t → l[i]? = some o → Q w x → (∀ j, j ∉ s → a.tmps[j]? = a0.tmps[j]?) → (∀ e ∈ o.after, Region.binds .any e = true → ∀ t', s[e.on]? = some t' → ∃ v, a.tmps[t']? = some v ∧ F e.on v x) →
      Yld P R o a x t (fun v x' => F i v x' ∧ (i ∈ A → v = ptrV x.heap.size)))
    (hend : ∀ (a : Act) x, Q w x → a.tmps.size = a0.tmps.size → a.defers = a0.defers → (∀ j, j ∉ s → a.tmps[j]? = a0.tmps[j]?) → (∀ i t, i < n → s[i]? = some t → ∃ v, a.tmps[t]? = some v ∧ F i v x) → (∀ i j ti tj v, i < n → j < n → i ∈ A → j ∈ A → i ≠ j → s[i]? = some ti → s[j]? = some tj → a.tmps[ti]? = some v → a.tmps[tj]? ≠ some v) → Shut (wpPost P R (l.drop n) a x)) :
    (Code.region id l.toArray true).wp P R a0 w := by
  have get : ∀ k, l.toArray[k]? = l[k]? := fun k => List.getElem?_toArray
  refine wp_region_inv (fun lst a x => Facts F A w a0 s l n lst a x ∨ ∃ k, n < k ∧ k ≤ l.length ∧ lst.size = l.length ∧ (∀ i, i < k → lst.getD i true = true) ∧ (∀ i, k ≤ i → i < l.length → lst.getD i true = false) ∧ (∀ (j : Nat) (o : Oper), lst.getD j false = true → l[j]? = some o → ∀ e ∈ o.after, Region.binds .any e = true → lst.getD e.on false = true) ∧ Shut (wpPost P R (l.drop k) a x)) hm ?_ ?_ ?_
  · refine Or.inl ⟨rfl, rfl, fun _ _ => rfl, (Q.refl w).drew, by simp, fun k h1 h2 => ?_, fun j o hj _ => ?_, fun i t hi ht hl => ?_, fun i j ti tj v _ _ _ _ _ _ _ hl => ?_⟩
    · rw [Array.getD_eq_getD_getElem?, Array.getElem?_replicate, if_pos (by simpa using h2)]; rfl
    · rw [Array.getD_eq_getD_getElem?, Array.getElem?_replicate] at hj
      split at hj <;> cases hj
    · rw [Array.getD_eq_getD_getElem?, Array.getElem?_replicate] at hl
      split at hl <;> cases hl
    · rw [Array.getD_eq_getD_getElem?, Array.getElem?_replicate] at hl
      split at hl <;> cases hl
  · intro lst a x i o hI ho hl hdep
    rw [get] at ho
    obtain ⟨hg, hdl, hall⟩ := regB_at hB ho
    have hil : i < l.length := (List.getElem?_eq_some_iff.1 ho).1
    refine ⟨hg, ?_⟩
    rcases hI with T | ⟨k, hk1, hk2, hls, hk3, hk4, hkc, hw⟩
    · by_cases hin : i < n
      · obtain ⟨t, ht⟩ : ∃ t, s[i]? = some t := ⟨_, List.getElem?_eq_getElem (by omega)⟩
        have hts : t ∈ s := List.mem_of_getElem? ht
        have inj : ∀ j t', s[j]? = some t' → j ≠ i → t ≠ t' := fun j t' hj hne e => hne (by
          subst e
          obtain ⟨h1, h2⟩ := List.getElem?_eq_some_iff.1 hj
          obtain ⟨h3, h4⟩ := List.getElem?_eq_some_iff.1 ht
          exact (List.getElem_inj hd).1 (h2.trans h4.symm))
        have hrun := hop i t o a x hin ht ho T.q T.other (fun e he hb t' ht' => T.facts e.on t' (by have := hdl e he hb; omega) ht' (hdep e he hb))
        refine Oper.wp_mono ?_ hrun.out
        rintro a' x' ⟨v, rfl, q', hf, hfA⟩
        refine Or.inl ⟨?_, T.defers, fun j hj => ?_, T.q.trans q', by rw [Array.size_setIfInBounds]; exact T.ls, fun k h1 h2 => ?_, closed_set ho T.closed hdep, fun j t' hj ht' hlj => ?_, fun j k tj tk u hj hk hjA hkA hjk htj htk hlj hlk huj huk => ?_⟩
        · exact (Array.size_setIfInBounds).trans T.size
        · exact (Array.getElem?_setIfInBounds_ne (fun e => hj (by rw [← e]; exact hts))).trans (T.other j hj)
        · rw [set_ne (by omega)]; exact T.post k h1 h2
        · by_cases e : j = i
          · subst e
            rw [ht] at ht'
            injection ht' with ht'
            subst ht'
            exact ⟨v, Array.getElem?_setIfInBounds_self_of_lt (by rw [T.size]; exact hmax t hts), hf⟩
          · rw [set_ne (fun e' => e e'.symm)] at hlj
            obtain ⟨u, h1, h2⟩ := T.facts j t' hj ht' hlj
            exact ⟨u, (Array.getElem?_setIfInBounds_ne (inj j t' ht' e)).trans h1, hst _ _ _ _ h2 q'⟩
        · have self : (a.put (some t) v).tmps[t]? = some v := Array.getElem?_setIfInBounds_self_of_lt (by rw [T.size]; exact hmax t hts)
          have old : ∀ k tk, s[k]? = some tk → k ≠ i → (a.put (some t) v).tmps[tk]? = a.tmps[tk]? := fun k tk htk e => Array.getElem?_setIfInBounds_ne (inj k tk htk e)
          have far : ∀ k tk u, k < n → k ∈ A → i ∈ A → s[k]? = some tk → k ≠ i → (lst.setIfInBounds i true).getD k false = true → a.tmps[tk]? = some u → u ≠ v := fun k tk u hk hkA hiA htk e hlk hu => by
            rw [set_ne (fun e' => e e'.symm)] at hlk
            obtain ⟨u', h1, h2⟩ := T.facts k tk hk htk hlk
            rw [hu] at h1
            injection h1 with h1
            subst h1
            obtain ⟨V, h3, h4⟩ := hA k u x hkA h2
            intro e'
            rw [e', hfA hiA] at h3
            have := ptrV_inj h3
            omega
          by_cases ej : j = i
          · subst ej
            rw [ht] at htj
            injection htj with htj
            subst htj
            rw [self] at huj
            injection huj with huj
            subst huj
            rw [old k tk htk (fun e => hjk e.symm)] at huk
            exact far k tk _ hk hkA hjA htk (fun e => hjk e.symm) hlk huk rfl
          · rw [old j tj htj ej] at huj
            by_cases ek : k = i
            · subst ek
              rw [ht] at htk
              injection htk with htk
              subst htk
              rw [self] at huk
              injection huk with huk
              subst huk
              exact far j tj _ hj hjA hkA htj ej hlj huj rfl
            · rw [old k tk htk ek] at huk
              rw [set_ne (fun e' => ej e'.symm)] at hlj
              rw [set_ne (fun e' => ek e'.symm)] at hlk
              exact T.apart j k tj tk u hj hk hjA hkA hjk htj htk hlj hlk huj huk
      · have hie : i = n := by
          rcases Nat.lt_or_ge n i with h | h
          · have h1 := deps_got T.closed hdep n (hall (by omega) n h)
            have h2 := not_got (T.post n (Nat.le_refl _) (by omega))
            rw [h1] at h2
            cases h2
          · omega
        subst hie
        have hall' : ∀ j, j < i → lst.getD j false = true := fun j hj => by
          exact deps_got T.closed hdep j (hall (Nat.le_refl _) j hj)
        have hE := hend a x T.q T.size T.defers T.other (fun j t hj ht => T.facts j t hj ht (hall' j hj)) (fun j k tj tk u hj hk hjA hkA hjk htj htk huj => T.apart j k tj tk u hj hk hjA hkA hjk htj htk (hall' j hj) (hall' k hk) huj)
        have hdr : l.drop i = o :: l.drop (i + 1) := by
          obtain ⟨h1, h2⟩ := List.getElem?_eq_some_iff.1 ho
          rw [List.drop_eq_getElem_cons h1, h2]
        rw [hdr] at hE
        refine Oper.wp_mono (fun a' x' h => Or.inr ⟨i + 1, by omega, by omega, by rw [Array.size_setIfInBounds]; exact T.ls, fun j hj => ?_, fun j h1 h2 => ?_, closed_set ho T.closed hdep, ⟨h⟩⟩) hE.out
        · by_cases e : i = j
          · subst e; exact set_eq (by rw [T.ls]; omega)
          · rw [set_ne e]
            have := hall' j (by omega)
            rw [Array.getD_eq_getD_getElem?] at this ⊢
            cases g : lst[j]? with
            | none => rfl
            | some b => rw [g] at this; exact this
        · rw [set_ne (by omega)]; exact T.post j (by omega) h2
    · have hie : i = k := by
        rcases Nat.lt_trichotomy i k with h | h | h
        · have := hk3 i h; rw [hl] at this; cases this
        · exact h
        · have h1 := deps_got hkc hdep k (hall (by omega) k h)
          have h2 := not_got (hk4 k (Nat.le_refl _) (by omega))
          rw [h1] at h2
          cases h2
      subst hie
      have hdr : l.drop i = o :: l.drop (i + 1) := by
        obtain ⟨h1, h2⟩ := List.getElem?_eq_some_iff.1 ho
        rw [List.drop_eq_getElem_cons h1, h2]
      rw [hdr] at hw
      refine Oper.wp_mono (fun a' x' h => Or.inr ⟨i + 1, by omega, by omega, by rw [Array.size_setIfInBounds]; exact hls, fun j hj => ?_, fun j h1 h2 => ?_, closed_set ho hkc hdep, ⟨h⟩⟩) hw.out
      · by_cases e : i = j
        · subst e; exact set_eq (by rw [hls]; omega)
        · rw [set_ne e]; exact hk3 j (by omega)
      · rw [set_ne (by omega)]; exact hk4 j (by omega) h2
  · intro lst a x hI hno
    rcases hI with T | ⟨k, hk1, hk2, hls, hk3, hk4, hkc, hw⟩
    · have all : ∀ j, j < n → lst.getD j false = true := by
        intro j
        induction j using Nat.strongRecOn with
        | ind j ih =>
          intro hj
          obtain ⟨o, ho⟩ : ∃ o, l[j]? = some o := ⟨_, List.getElem?_eq_getElem (by omega)⟩
          refine got_of (hno j o (by rw [get]; exact ho) (fun e he hb => ?_)) (by rw [T.ls]; omega)
          have := (regB_at hB ho).2.1 e he hb
          exact ih e.on this (by omega)
      by_cases hnl : n < l.length
      · exfalso
        obtain ⟨o, ho⟩ : ∃ o, l[n]? = some o := ⟨_, List.getElem?_eq_getElem hnl⟩
        have := hno n o (by rw [get]; exact ho) (fun e he hb => all e.on ((regB_at hB ho).2.1 e he hb))
        rw [T.post n (Nat.le_refl _) hnl] at this
        cases this
      · have hE := hend a x T.q T.size T.defers T.other (fun j t hj ht => T.facts j t hj ht (all j hj)) (fun j k tj tk u hj hk hjA hkA hjk htj htk huj => T.apart j k tj tk u hj hk hjA hkA hjk htj htk (all j hj) (all k hk) huj)
        rw [List.drop_eq_nil_of_le (by omega)] at hE
        exact hE.out
    · by_cases hkl : k < l.length
      · exfalso
        obtain ⟨o, ho⟩ : ∃ o, l[k]? = some o := ⟨_, List.getElem?_eq_getElem hkl⟩
        have := hno k o (by rw [get]; exact ho) (fun e he hb => got_of (hk3 e.on ((regB_at hB ho).2.1 e he hb)) (by rw [hls]; have := (regB_at hB ho).2.1 e he hb; omega))
        rw [hk4 k (Nat.le_refl _) hkl] at this
        cases this
      · rw [List.drop_eq_nil_of_le (by omega)] at hw
        exact hw.out
end Go.Proofs.YtmgpaheobhfioaaDoor
/- The same, with operations that are guarded by others that are known to let them through. -/
namespace Go.Proofs.YtmgpaheobhfioaaDoor
open Go.RowKit
set_option linter.unusedVariables false
set_option linter.unusedSimpArgs false

end Go.Proofs.YtmgpaheobhfioaaDoor
/- What one operation of a region that draws its order yields; the call's slots behind such a region. -/
namespace Go.Proofs.YtmgpaheobhfioaaDoor
open Go.RowKit
set_option linter.unusedVariables false
set_option linter.unusedSimpArgs false

theorem tmp_eval {a : Act} {s : Nat} {v : Value} (h : a.tmps[s]? = some v) : a.eval (.tmp s) = v := by
  show a.tmps.getD s undef = v
  rw [Array.getD_eq_getD_getElem?, h]; rfl
section
variable {P : Program} {R : Exit → Act → World → Prop} {a : Act} {x : World} {t : Nat} {G : Value → World → Prop} {ty : TypeId} {ps : String} {af : Array Edge} {g : Option (Nat × Bool)}
theorem yld_run {o : Oper} {v : Value} {x' : World} (hd : o.dst = some t) (hr : (execOp a.eval o).run P x = .ok (.value v) x') (q : Q x x') (hG : G v x') : Yld P R o a x t G := ⟨by
  unfold Oper.wp
  rw [hr, Oper.upon_value, hd]
  exact ⟨v, rfl, q, hG⟩⟩
theorem yld_move {j : Nat} {v : Value} (h : a.tmps[j]? = some v) (hG : G v x) : Yld P R { dst := some t, op := .move (.tmp j), type := ty, pos := ps, after := af, guard := g } a x t G :=
  yld_run (x' := x) rfl (by rw [← tmp_eval h]; rfl) (Q.refl x) hG
theorem yld_call {f : Nat} {args : Array Operand} {at' : Array TypeId} {vs : Array Value} (hen : ∀ (args : Array Value) (x : World), (callFunc f args).run P x = .ok (.enter f args) x) (h : args.map a.eval = vs)
    (hc : Calls P f vs x fun e x' => ∃ u, e = .returned u ∧ Q x x' ∧ G u x') : Yld P R { dst := some t, op := .call { callee := .value (.func f), args := args, argTypes := at' }, type := ty, pos := ps, after := af, guard := g } a x t G := ⟨by
  unfold Oper.wp
  show Oper.upon P _ a _ R ((callFunc f (#[] ++ (args.map a.eval) ++ #[])).run P x)
  rw [h, Array.append_empty, Array.empty_append, hen, Oper.upon_enter]
  refine hc.mono ?_
  rintro e x' ⟨u, rfl, q, hg⟩
  exact ⟨u, rfl, q, hg⟩⟩
theorem args1 {j : Nat} {v : Value} (h : a.tmps[j]? = some v) : (#[Operand.tmp j] : Array Operand).map a.eval = #[v] := by
  have h := tmp_eval h
  simp [h]
theorem args2 {j k : Nat} {v u : Value} (h : a.tmps[j]? = some v) (h' : a.tmps[k]? = some u) : (#[Operand.tmp j, Operand.tmp k] : Array Operand).map a.eval = #[v, u] := by
  have h := tmp_eval h
  have h' := tmp_eval h'
  simp [h, h']
/-- The slots behind a region: those that it filled, and the others as they were. -/
def putAll (a : Act) : List (Nat × Value) → Act
  | [] => a
  | (s, v) :: l => putAll (a.put (some s) v) l
theorem putAll_defers (l : List (Nat × Value)) : ∀ (a : Act), (putAll a l).defers = a.defers := by
  induction l with
  | nil => exact fun a => rfl
  | cons p l ih => exact fun a => (ih _).trans rfl
theorem putAll_other (l : List (Nat × Value)) : ∀ (a : Act) (j : Nat), j ∉ l.map (·.1) → (putAll a l).tmps[j]? = a.tmps[j]? := by
  induction l with
  | nil => exact fun a j _ => rfl
  | cons p l ih =>
    intro a j hj
    rw [List.map_cons, List.mem_cons, not_or] at hj
    exact (ih _ j hj.2).trans (Array.getElem?_setIfInBounds_ne (fun e => hj.1 e.symm))
theorem putAll_at (l : List (Nat × Value)) : ∀ (a : Act) (s : Nat) (v : Value), (l.map (·.1)).Nodup → (s, v) ∈ l → s < a.tmps.size → (putAll a l).tmps[s]? = some v := by
  induction l with
  | nil => intro a s v _ h; cases h
  | cons p l ih =>
    intro a s v hd hm hs
    rw [List.map_cons, List.nodup_cons] at hd
    rcases List.mem_cons.1 hm with rfl | hm
    · exact (putAll_other l _ _ hd.1).trans (Array.getElem?_setIfInBounds_self_of_lt hs)
    · exact ih _ s v hd.2 hm (by rw [show (a.put (some p.1) p.2).tmps.size = a.tmps.size from Array.size_setIfInBounds]; exact hs)
theorem act_puts {a a0 : Act} (l : List (Nat × Value)) (hd : (l.map (·.1)).Nodup) (size : a.tmps.size = a0.tmps.size) (defers : a.defers = a0.defers) (other : ∀ j, j ∉ l.map (·.1) → a.tmps[j]? = a0.tmps[j]?) (hs : ∀ p ∈ l, a.tmps[p.1]? = some p.2) : a = putAll a0 l := by
  have ht : a.tmps = (putAll a0 l).tmps := by
    apply Array.ext_getElem?
    intro j
    by_cases h : j ∈ l.map (·.1)
    · obtain ⟨p, hp, rfl⟩ := List.mem_map.1 h
      have h1 := hs p hp
      rw [h1]
      refine (putAll_at l a0 p.1 p.2 hd hp ?_).symm
      rw [← size]
      exact (Array.getElem?_eq_some_iff.1 h1).1
    · rw [other j h, putAll_other l a0 j h]
  have hf : a.defers = (putAll a0 l).defers := by rw [putAll_defers]; exact defers
  cases a
  simp only at ht hf
  rw [ht, hf]
end
end Go.Proofs.YtmgpaheobhfioaaDoor
/- A region that draws its order, by what holds of the operations that have come up, of what they told, and of the world. -/
namespace Go.Proofs.YtmgpaheobhfioaaDoor
open Go.RowKit
set_option linter.unusedVariables false
set_option linter.unusedSimpArgs false

def upd {α : Type} (f : Nat → α) (i : Nat) (v : α) : Nat → α := fun j => if j = i then v else f j
theorem upd_eq {α : Type} (f : Nat → α) (i : Nat) (v : α) : upd f i v i = v := by unfold upd; rw [if_pos rfl]
theorem upd_ne {α : Type} (f : Nat → α) {i j : Nat} (v : α) (h : j ≠ i) : upd f i v j = f j := by unfold upd; rw [if_neg h]
theorem wpAny_invS {P : Program} {ops : Array Oper} {R : Exit → Act → World → Prop} (Inv : Array Bool → Act → World → Prop)
    (hs : ∀ lst a w i o, Inv lst a w → ops[i]? = some o → lst.getD i true = false → (∀ e ∈ o.after, Region.binds .any e = true → lst.getD e.on false = true) → (Region.wanted o (yielded ops a.tmps) = true → o.wp P a w (fun a' w' => Inv (lst.setIfInBounds i true) a' w') R) ∧ (Region.wanted o (yielded ops a.tmps) = false → Inv (lst.setIfInBounds i true) (a.put o.dst undef) w))
    (he : ∀ lst a w, Inv lst a w → (∀ i o, ops[i]? = some o → (∀ e ∈ o.after, Region.binds .any e = true → lst.getD e.on false = true) → lst.getD i true = true) → R .normal a w) :
    ∀ (fuel : Nat) (lst : Array Bool) (a : Act) (w : World), Inv lst a w → lst.toList.countP (· == false) ≤ fuel → wpAny P .any ops R fuel lst a w := by
  have done : ∀ (lst : Array Bool) (a : Act) (w : World), Inv lst a w → Region.ready .any ops lst = [] → R .normal a w := fun lst a w h hr => he lst a w h (fun i o ho hd => by
    cases hc : lst.getD i true with
    | true => rfl
    | false =>
      have : i ∈ Region.ready .any ops lst := mem_ready.2 ⟨hc, o, ho, hd⟩
      rw [hr] at this
      cases this)
  intro fuel
  induction fuel with
  | zero =>
    intro lst a w h hc
    have hr : Region.ready .any ops lst = [] := by
      cases hr : Region.ready .any ops lst with
      | nil => rfl
      | cons j js =>
        have : j ∈ Region.ready .any ops lst := by rw [hr]; exact List.mem_cons_self
        have := ready_pos (mem_ready.1 this).1
        omega
    exact ⟨hr, done lst a w h hr⟩
  | succ fuel ih =>
    intro lst a w h hc
    refine ⟨done lst a w h, fun i hi => ?_⟩
    obtain ⟨h1, o, ho, h2⟩ := mem_ready.1 hi
    obtain ⟨hy, hn⟩ := hs lst a w i o h ho h1 h2
    have hcs := count_set h1
    unfold wpOp
    rw [ho]
    simp only
    cases hw : Region.wanted o (yielded ops a.tmps) with
    | true =>
      rw [if_pos rfl]
      exact Or.inl (Oper.wp_mono (fun a' w' h' => ih _ a' w' h' (by omega)) (hy hw))
    | false =>
      rw [if_neg (by decide)]
      exact ih _ _ _ (hn hw) (by omega)
/-- The slot that an operation fills. -/
def dstOf (l : List Oper) (i : Nat) : Option Nat := (l[i]?).bind (fun o : Oper => o.dst)
theorem dstOf_at {l : List Oper} {i : Nat} {o : Oper} (h : l[i]? = some o) : dstOf l i = o.dst := by unfold dstOf; rw [h]; rfl
/-- Each operation waits for earlier ones alone, and for what guards it; no two fill one slot. -/
def regS (l : List Oper) : Bool := (List.range l.length).all fun k => match l[k]? with
  | some o => (match o.guard with | none => true | some (g, _) => o.after.toList.any (fun e => Region.binds .any e && (e.on == g)) && (dstOf l g).isSome) && ((o.after.toList.all fun e => !(Region.binds .any e) || decide (e.on < k)) && (List.range k).all fun j => match o.dst, dstOf l j with | some t, some u => t != u | _, _ => true)
  | none => true
theorem regS_at {l : List Oper} (h : regS l = true) {k : Nat} {o : Oper} (hk : l[k]? = some o) : (∀ g b, o.guard = some (g, b) → (∃ e ∈ o.after, Region.binds .any e = true ∧ e.on = g) ∧ ∃ t, dstOf l g = some t) ∧ (∀ e ∈ o.after, Region.binds .any e = true → e.on < k) ∧ (∀ j t, j < k → o.dst = some t → dstOf l j ≠ some t) := by
  have hlt : k < l.length := (List.getElem?_eq_some_iff.1 hk).1
  have h1 := List.all_eq_true.1 h k (List.mem_range.2 hlt)
  rw [hk] at h1
  simp only [Bool.and_eq_true] at h1
  refine ⟨fun g b hgd => ?_, fun e he hb => ?_, fun j t hj ht hc => ?_⟩
  · have h2 := h1.1
    rw [hgd] at h2
    simp only [Bool.and_eq_true] at h2
    obtain ⟨e, he, h3⟩ := List.any_eq_true.1 h2.1
    rw [Bool.and_eq_true] at h3
    exact ⟨⟨e, by simpa using he, h3.1, by simpa using h3.2⟩, Option.isSome_iff_exists.1 h2.2⟩
  · have h2 := List.all_eq_true.1 h1.2.1 e (by simpa using he)
    rw [hb] at h2
    simpa using h2
  · have h2 := List.all_eq_true.1 h1.2.2 j (List.mem_range.2 hj)
    rw [ht, hc] at h2
    simp at h2
/-- Does one operation wait for another? -/
def waits (l : List Oper) (k i : Nat) : Bool := match l[k]? with
  | some o => o.after.toList.any fun e => Region.binds .any e && (e.on == i)
  | none => false
structure Slots (I : (Nat → Bool) → (Nat → Value) → World → Prop) (a0 : Act) (l : List Oper) (lst : Array Bool) (a : Act) (x : World) (val : Nat → Value) : Prop where
  size : a.tmps.size = a0.tmps.size
  defers : a.defers = a0.defers
  other : ∀ j, (∀ k, dstOf l k ≠ some j) → a.tmps[j]? = a0.tmps[j]?
  ls : lst.size = l.length
  vals : ∀ j t, lst.getD j false = true → dstOf l j = some t → a.tmps[t]? = some (val j)
  fresh : ∀ j t, lst.getD j false = false → dstOf l j = some t → a.tmps[t]? = a0.tmps[t]?
  closed : ∀ (j : Nat) (o : Oper), lst.getD j false = true → l[j]? = some o → ∀ e ∈ o.after, Region.binds .any e = true → lst.getD e.on false = true
  inv : I (fun i => lst.getD i false) val x
theorem set_upd {lst : Array Bool} {i : Nat} (h : i < lst.size) : (fun j => (lst.setIfInBounds i true).getD j false) = upd (fun j => lst.getD j false) i true := by
  funext j
  by_cases e : j = i
  · subst e; rw [upd_eq]; exact set_eq h
  · rw [upd_ne _ _ e]; exact set_ne (fun e' => e e'.symm)
theorem dst_inj {l : List Oper} (hB : regS l = true) {i j : Nat} {t : Nat} (hi : dstOf l i = some t) (hj : dstOf l j = some t) : i = j := by
  have key : ∀ i j, i < j → dstOf l i = some t → dstOf l j = some t → False := fun i j h hi hj => by
    cases hl : l[j]? with
    | none => unfold dstOf at hj; rw [hl] at hj; cases hj
    | some o =>
      rw [dstOf_at hl] at hj
      exact (regS_at hB hl).2.2 i t h hj hi
  rcases Nat.lt_trichotomy i j with h | h | h
  · exact (key i j h hi hj).elim
  · exact h
  · exact (key j i h hj hi).elim
theorem slots_put {I : (Nat → Bool) → (Nat → Value) → World → Prop} {a0 : Act} {l : List Oper} {lst : Array Bool} {a : Act} {x x' : World} {val : Nat → Value} (T : Slots I a0 l lst a x val) (hB : regS l = true) (hmax : ∀ i t, dstOf l i = some t → t < a0.tmps.size) {i : Nat} {o : Oper} (ho : l[i]? = some o) (v : Value) (hdep : ∀ e ∈ o.after, Region.binds .any e = true → lst.getD e.on false = true) (hI : I (upd (fun j => lst.getD j false) i true) (upd val i v) x') :
    Slots I a0 l (lst.setIfInBounds i true) (a.put o.dst v) x' (upd val i v) := by
  have hil : i < l.length := (List.getElem?_eq_some_iff.1 ho).1
  have hid : dstOf l i = o.dst := dstOf_at ho
  refine ⟨?_, ?_, fun j hj => ?_, by rw [Array.size_setIfInBounds]; exact T.ls, fun j t hlj hjt => ?_, fun j t hlj hjt => ?_, closed_set ho T.closed hdep, by rw [set_upd (by rw [T.ls]; exact hil)]; exact hI⟩
  · cases hd : o.dst with
    | none => exact T.size
    | some t => exact (Array.size_setIfInBounds).trans T.size
  · cases hd : o.dst with
    | none => exact T.defers
    | some t => exact T.defers
  · cases hd : o.dst with
    | none => exact T.other j hj
    | some t =>
      refine (Array.getElem?_setIfInBounds_ne (fun e => hj i ?_)).trans (T.other j hj)
      rw [hid, hd, e]
  · by_cases e : j = i
    · subst e
      rw [hid] at hjt
      rw [hjt, upd_eq]
      exact Array.getElem?_setIfInBounds_self_of_lt (by rw [T.size]; exact hmax j t (by rw [hid]; exact hjt))
    · rw [set_ne (fun e' => e e'.symm)] at hlj
      rw [upd_ne _ _ e]
      cases hd : o.dst with
      | none => exact T.vals j t hlj hjt
      | some t' =>
        refine (Array.getElem?_setIfInBounds_ne (fun e' => e ?_)).trans (T.vals j t hlj hjt)
        subst e'
        exact dst_inj hB hjt (by rw [hid]; exact hd)
  · by_cases e : j = i
    · subst e
      rw [set_eq (by rw [T.ls]; exact hil)] at hlj
      cases hlj
    · rw [set_ne (fun e' => e e'.symm)] at hlj
      cases hd : o.dst with
      | none => exact T.fresh j t hlj hjt
      | some t' =>
        refine (Array.getElem?_setIfInBounds_ne (fun e' => e ?_)).trans (T.fresh j t hlj hjt)
        subst e'
        exact dst_inj hB hjt (by rw [hid]; exact hd)
set_option maxHeartbeats 1000000 in
theorem wp_region_slotsF {P : Program} {id : Nat} {R : Exit → Act → World → Prop} {a0 : Act} {w : World} {l : List Oper} (I : (Nat → Bool) → (Nat → Value) → World → Prop)
    (hm : P.follows .mixedOrders = true) (hB : regS l = true) (hmax : ∀ i t, dstOf l i = some t → t < a0.tmps.size)
    (h0 : I (fun _ => false) (fun _ => undef) w.drew)
    (hop : ∀ i o (a : Act) x (done : Nat → Bool) (val : Nat → Value), l[i]? = some o → done i = false → (∀ e ∈ o.after, Region.binds .any e = true → done e.on = true) → I done val x → (∀ j, (∀ k, dstOf l k ≠ some j) → a.tmps[j]? = a0.tmps[j]?) → (∀ j t, done j = true → dstOf l j = some t → a.tmps[t]? = some (val j)) → (∀ g b, o.guard = some (g, b) → val g = .bool b) → (∀ j t, waits l j i = true → dstOf l j = some t → a.tmps[t]? = a0.tmps[t]?) →
      Shut (o.wp P a x (fun a' x' => ∃ v, a' = a.put o.dst v ∧ I (upd done i true) (upd val i v) x') R))
    (hskip : ∀ i o x (done : Nat → Bool) (val : Nat → Value) g b, l[i]? = some o → done i = false → (∀ e ∈ o.after, Region.binds .any e = true → done e.on = true) → I done val x → o.guard = some (g, b) → val g ≠ .bool b → I (upd done i true) (upd val i undef) x)
    (hend : ∀ (a : Act) x (val : Nat → Value), I (fun i => decide (i < l.length)) val x → a.tmps.size = a0.tmps.size → a.defers = a0.defers → (∀ j, (∀ k, dstOf l k ≠ some j) → a.tmps[j]? = a0.tmps[j]?) → (∀ j t, dstOf l j = some t → a.tmps[t]? = some (val j)) → Shut (R .normal a x)) :
    (Code.region id l.toArray true).wp P R a0 w := by
  have get : ∀ k, l.toArray[k]? = l[k]? := fun k => List.getElem?_toArray
  have hc := List.countP_le_length (l := (Array.replicate l.toArray.size false).toList) (p := (· == false))
  refine wp_region_any hm (wpAny_invS (fun lst a x => ∃ val, Slots I a0 l lst a x val) ?_ ?_ _ _ _ _ ?_ (by simpa using hc))
  · rintro lst a x i o ⟨val, T⟩ ho hl hdep
    rw [get] at ho
    obtain ⟨hg, hdl, hds⟩ := regS_at hB ho
    have hil : i < l.length := (List.getElem?_eq_some_iff.1 ho).1
    have hlf : (fun j => lst.getD j false) i = false := not_got hl
    have gval : ∀ g b, o.guard = some (g, b) → ∃ t, dstOf l g = some t ∧ a.tmps[t]? = some (val g) := fun g b hgd => by
      obtain ⟨⟨e, he, hb, hon⟩, t, ht⟩ := hg g b hgd
      have := hdep e he hb
      rw [hon] at this
      exact ⟨t, ht, T.vals g t this ht⟩
    have hyl : ∀ g b, o.guard = some (g, b) → (Region.wanted o (yielded l.toArray a.tmps) = true ↔ val g = .bool b) := fun g b hgd => by
      obtain ⟨t, ht, hv⟩ := gval g b hgd
      unfold Region.wanted
      rw [hgd]
      simp only [yielded]
      rw [get]
      unfold dstOf at ht
      rw [ht]
      simp only [Option.bind_some]
      rw [hv]
      cases hval : val g <;> simp
    have hfr : ∀ j t, waits l j i = true → dstOf l j = some t → a.tmps[t]? = a0.tmps[t]? := fun j t hwt hjt => by
      refine T.fresh j t ?_ hjt
      cases hdj : lst.getD j false with
      | false => rfl
      | true =>
        exfalso
        unfold waits at hwt
        cases hl' : l[j]? with
        | none => rw [hl'] at hwt; cases hwt
        | some oj =>
          rw [hl'] at hwt
          obtain ⟨e, he, h1⟩ := List.any_eq_true.1 hwt
          rw [Bool.and_eq_true] at h1
          have h2 := T.closed j oj hdj hl' e (by simpa using he) h1.1
          have h3 : e.on = i := by simpa using h1.2
          rw [h3] at h2
          have h4 : lst.getD i false = false := hlf
          rw [h4] at h2
          cases h2
    refine ⟨fun hw => ?_, fun hw => ?_⟩
    · have := (hop i o a x (fun j => lst.getD j false) val ho hlf hdep T.inv T.other T.vals (fun g b hgd => (hyl g b hgd).1 hw) hfr).out
      refine Oper.wp_mono ?_ this
      rintro a' x' ⟨v, rfl, hI⟩
      exact ⟨_, slots_put T hB hmax ho v hdep hI⟩
    · cases hgd : o.guard with
      | none => unfold Region.wanted at hw; rw [hgd] at hw; cases hw
      | some gb =>
        obtain ⟨g, b⟩ := gb
        refine ⟨_, slots_put T hB hmax ho undef hdep (hskip i o x _ val g b ho hlf hdep T.inv hgd (fun e => ?_))⟩
        rw [(hyl g b hgd).2 e] at hw
        cases hw
  · rintro lst a x ⟨val, T⟩ hno
    have all : ∀ j, j < l.length → lst.getD j false = true := by
      intro j
      induction j using Nat.strongRecOn with
      | ind j ih =>
        intro hj
        obtain ⟨o, ho⟩ : ∃ o, l[j]? = some o := ⟨_, List.getElem?_eq_getElem hj⟩
        refine got_of (hno j o (by rw [get]; exact ho) (fun e he hb => ?_)) (by rw [T.ls]; exact hj)
        have := (regS_at hB ho).2.1 e he hb
        exact ih e.on this (by omega)
    have hall : (fun i => lst.getD i false) = (fun i => decide (i < l.length)) := by
      funext j
      by_cases hj : j < l.length
      · rw [all j hj, decide_eq_true hj]
      · rw [decide_eq_false hj, Array.getD_eq_getD_getElem?, Array.getElem?_eq_none (by rw [T.ls]; omega)]; rfl
    refine (hend a x val (by rw [← hall]; exact T.inv) T.size T.defers T.other (fun j t hjt => T.vals j t (all j ?_) hjt)).out
    cases hl : l[j]? with
    | none => unfold dstOf at hjt; rw [hl] at hjt; cases hjt
    | some o => exact (List.getElem?_eq_some_iff.1 hl).1
  · refine ⟨fun _ => undef, rfl, rfl, fun _ _ => rfl, by simp, fun j t hj => ?_, fun _ _ _ _ => rfl, fun j o hj => ?_, ?_⟩
    · rw [Array.getD_eq_getD_getElem?, Array.getElem?_replicate] at hj
      split at hj <;> cases hj
    · rw [Array.getD_eq_getD_getElem?, Array.getElem?_replicate] at hj
      split at hj <;> cases hj
    · have : (fun i => (Array.replicate l.toArray.size false).getD i false) = fun _ => false := by
        funext j
        rw [Array.getD_eq_getD_getElem?, Array.getElem?_replicate]
        split <;> rfl
      rw [this]
      exact h0
theorem wp_region_slots {P : Program} {id : Nat} {R : Exit → Act → World → Prop} {a0 : Act} {w : World} {l : List Oper} (I : (Nat → Bool) → (Nat → Value) → World → Prop)
    (hm : P.follows .mixedOrders = true) (hB : regS l = true) (hmax : ∀ i t, dstOf l i = some t → t < a0.tmps.size)
    (h0 : I (fun _ => false) (fun _ => undef) w.drew)
    (hop : ∀ i o (a : Act) x (done : Nat → Bool) (val : Nat → Value), l[i]? = some o → done i = false → (∀ e ∈ o.after, Region.binds .any e = true → done e.on = true) → I done val x → (∀ j, (∀ k, dstOf l k ≠ some j) → a.tmps[j]? = a0.tmps[j]?) → (∀ j t, done j = true → dstOf l j = some t → a.tmps[t]? = some (val j)) → (∀ g b, o.guard = some (g, b) → val g = .bool b) →
      Shut (o.wp P a x (fun a' x' => ∃ v, a' = a.put o.dst v ∧ I (upd done i true) (upd val i v) x') R))
    (hskip : ∀ i o x (done : Nat → Bool) (val : Nat → Value) g b, l[i]? = some o → done i = false → (∀ e ∈ o.after, Region.binds .any e = true → done e.on = true) → I done val x → o.guard = some (g, b) → val g ≠ .bool b → I (upd done i true) (upd val i undef) x)
    (hend : ∀ (a : Act) x (val : Nat → Value), I (fun i => decide (i < l.length)) val x → a.tmps.size = a0.tmps.size → a.defers = a0.defers → (∀ j, (∀ k, dstOf l k ≠ some j) → a.tmps[j]? = a0.tmps[j]?) → (∀ j t, dstOf l j = some t → a.tmps[t]? = some (val j)) → Shut (R .normal a x)) :
    (Code.region id l.toArray true).wp P R a0 w :=
  wp_region_slotsF I hm hB hmax h0 (fun i o a x done val h1 h2 h3 h4 h5 h6 h7 _ => hop i o a x done val h1 h2 h3 h4 h5 h6 h7) hskip hend
end Go.Proofs.YtmgpaheobhfioaaDoor
/- Numbers that lie in boxes: what loads and stores of them do. -/
namespace Go.Proofs.YtmgpaheobhfioaaDoor
open Go.RowKit
set_option linter.unusedVariables false
set_option linter.unusedSimpArgs false

/-- A box of five cells. -/
structure Box5 (w : World) (V : Nat) (k : Int) (s : Bool) (p : Option Addr) (L C : Nat) (e : Int) (m : Bool) : Prop where
  c0 : w.cell? ⟨V, 0, none⟩ = some (.int .i64 k)
  c1 : w.cell? ⟨V, 1, none⟩ = some (.bool s)
  c2 : w.cell? ⟨V, 2, none⟩ = some (.slice p L C)
  c3 : w.cell? ⟨V, 3, none⟩ = some (.int .i64 e)
  c4 : w.cell? ⟨V, 4, none⟩ = some (.bool m)
theorem Box5.next {w w' : World} {V : Nat} {k : Int} {s : Bool} {p : Option Addr} {L C : Nat} {e : Int} {m : Bool} (h : Box5 w V k s p L C e m) (q : Q w w') : Box5 w' V k s p L C e m := ⟨q.cell h.c0, q.cell h.c1, q.cell h.c2, q.cell h.c3, q.cell h.c4⟩
def num5 (k : Int) (s : Bool) (p : Option Addr) (L C : Nat) (e : Int) (m : Bool) : Value := .agg #[.int .i64 k, .bool s, .slice p L C, .int .i64 e, .bool m]
/-- A number that lies in a box. -/
def NBox (w : World) (V : Nat) (X : RNum) : Prop := ∃ k s p L C e m, Box5 w V k s p L C e m ∧ NumAt w (num5 k s p L C e m) X
theorem NBox.next {w w' : World} {V : Nat} {X : RNum} (h : NBox w V X) (q : Q w w') : NBox w' V X := by
  obtain ⟨k, s, p, L, C, e, m, h1, h2⟩ := h
  exact ⟨k, s, p, L, C, e, m, h1.next q, q.num h2⟩
theorem run_num {ρ : Operand → Value} {x : World} {d : Option Tmp} {ty : TypeId} {ps : String} {af : Array Edge} {g : Option (Nat × Bool)} {j V : Nat} {k : Int} {s : Bool} {p : Option Addr} {L C : Nat} {e : Int} {m : Bool} (h : ρ (.tmp j) = ptrV V) (b : Box5 x V k s p L C e m) : (execOp ρ { dst := d, op := .load 43 (.tmp j), type := ty, pos := ps, after := af, guard := g }).run Tryd.prog x = .ok (.value (num5 k s p L C e m)) x := by
  obtain ⟨c0, c1, c2, c3, c4⟩ := b
  simp [execOp, h, go_sem, c0, c1, c2, c3, c4, ptrV, num5]
/-- Laying a number into a box. -/
theorem store_num {a : Act} {x : World} {V b c : Nat} {k : Int} {s : Bool} {p : Option Addr} {L C : Nat} {e : Int} {m : Bool} {k0 : Int} {s0 : Bool} {p0 : Option Addr} {L0 C0 : Nat} {e0 : Int} {m0 : Bool} (hb : a.tmps[b]? = some (ptrV V)) (hc : a.tmps[c]? = some (num5 k s p L C e m)) (bx : Box5 x V k0 s0 p0 L0 C0 e0 m0) (hf : ∀ j, x.frozen? ⟨V, j, none⟩ = false)
    {ps : String} {af : Array Edge} {K : Act → World → Prop} {R : Exit → Act → World → Prop} (h : ∀ x', Q x x' ∨ True → x' = (((((x.setCell ⟨V, 0, none⟩ (.int .i64 k)).setCell ⟨V, 1, none⟩ (.bool s)).setCell ⟨V, 2, none⟩ (.slice p L C)).setCell ⟨V, 3, none⟩ (.int .i64 e)).setCell ⟨V, 4, none⟩ (.bool m)) → K a x') :
    Oper.wp Tryd.prog { dst := none, op := .store 43 (.tmp b) (.tmp c), type := 0, pos := ps, after := af, guard := none } a x K R := by
  obtain ⟨c0, c1, c2, c3, c4⟩ := bx
  unfold ptrV at hb
  unfold num5 at hc
  have hrun : (execOp a.eval { dst := none, op := .store 43 (.tmp b) (.tmp c), type := 0, pos := ps, after := af, guard := none }).run Tryd.prog x = .ok .skip (((((x.setCell ⟨V, 0, none⟩ (.int .i64 k)).setCell ⟨V, 1, none⟩ (.bool s)).setCell ⟨V, 2, none⟩ (.slice p L C)).setCell ⟨V, 3, none⟩ (.int .i64 e)).setCell ⟨V, 4, none⟩ (.bool m)) := by
    simp [execOp, hb, hc, go_sem, c0, c1, c2, c3, c4, hf]
  unfold Oper.wp
  rw [hrun, Oper.upon_skip]
  exact h _ (Or.inr trivial) rfl
end Go.Proofs.YtmgpaheobhfioaaDoor

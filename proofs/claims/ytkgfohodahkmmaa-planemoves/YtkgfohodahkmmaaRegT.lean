/- A region that draws its order, by what holds at each of its states; two calls whose answers are laid into two new boxes. -/
import Derived.Test.YtkgfohodahkmmaaQReg
import Derived.Shelf.Abstract
namespace Go.Proofs.Ytkgfohodahkmmaa
open Go.RowKit
set_option linter.unusedVariables false

theorem count_set {l : Array Bool} {i : Nat} (h : l.getD i true = false) : (l.setIfInBounds i true).toList.countP (· == false) + 1 = l.toList.countP (· == false) := by
  have hi : i < l.size := by
    rcases Nat.lt_or_ge i l.size with g | g
    · exact g
    · rw [Array.getD_eq_getD_getElem?, Array.getElem?_eq_none g] at h; cases h
  have hv : l[i] = false := by
    rw [Array.getD_eq_getD_getElem?, Array.getElem?_eq_getElem hi] at h; exact h
  rw [Array.toList_setIfInBounds, List.countP_set (by simpa using hi)]
  have hv' : l.toList[i]'(by simpa using hi) = false := by simpa using hv
  have pos : 0 < l.toList.countP (· == false) := List.countP_pos_iff.2 ⟨false, List.mem_iff_getElem.2 ⟨i, by simpa using hi, hv'⟩, rfl⟩
  rw [hv']
  change l.toList.countP (· == false) - 1 + 0 + 1 = _
  omega
theorem ready_pos {l : Array Bool} {i : Nat} (h : l.getD i true = false) : 0 < l.toList.countP (· == false) := by
  have := count_set h
  omega
theorem wpAny_inv {P : Program} {ops : Array Oper} {R : Exit → Act → World → Prop} (Inv : Array Bool → Act → World → Prop)
    (hs : ∀ lst a w i o, Inv lst a w → ops[i]? = some o → lst.getD i true = false → (∀ e ∈ o.after, Region.binds .any e = true → lst.getD e.on false = true) → o.guard = none ∧ o.wp P a w (fun a' w' => Inv (lst.setIfInBounds i true) a' w') R)
    (he : ∀ lst a w, Inv lst a w → (∀ i o, ops[i]? = some o → (∀ e ∈ o.after, Region.binds .any e = true → lst.getD e.on false = true) → lst.getD i true = true) → R .normal a w) :
    ∀ (fuel : Nat) (lst : Array Bool) (a : Act) (w : World), Inv lst a w → lst.toList.countP (· == false) ≤ fuel → wpAny P .any ops R fuel lst a w := by
  have done : ∀ (lst : Array Bool) (a : Act) (w : World), Inv lst a w → Region.ready .any ops lst = [] → R .normal a w := fun lst a w h hr => he lst a w h (fun i o ho hd => by
    cases hc : lst.getD i true with
    | true => rfl
    | false =>
      have : i ∈ Region.ready .any ops lst := mem_ready.2 ⟨hc, o, ho, hd⟩
      rw [hr] at this
      cases this)
  intro fuel
  induction fuel with
  | zero =>
    intro lst a w h hc
    have hr : Region.ready .any ops lst = [] := by
      cases hr : Region.ready .any ops lst with
      | nil => rfl
      | cons j js =>
        have : j ∈ Region.ready .any ops lst := by rw [hr]; exact List.mem_cons_self
        have := ready_pos (mem_ready.1 this).1
        omega
    exact ⟨hr, done lst a w h hr⟩
  | succ fuel ih =>
    intro lst a w h hc
    refine ⟨done lst a w h, fun i hi => ?_⟩
    obtain ⟨h1, o, ho, h2⟩ := mem_ready.1 hi
    obtain ⟨hg, hw⟩ := hs lst a w i o h ho h1 h2
    unfold wpOp
    rw [ho]
    simp only
    rw [if_pos (by unfold Region.wanted; rw [hg])]
    have hcs := count_set h1
    exact Or.inl (Oper.wp_mono (fun a' w' h' => ih _ a' w' h' (by omega)) hw)
theorem wp_region_inv {P : Program} {id : Nat} {ops : Array Oper} {R : Exit → Act → World → Prop} {a : Act} {w : World} (Inv : Array Bool → Act → World → Prop) (hm : P.follows .mixedOrders = true)
    (h0 : Inv (Array.replicate ops.size false) a w.drew)
    (hs : ∀ lst a w i o, Inv lst a w → ops[i]? = some o → lst.getD i true = false → (∀ e ∈ o.after, Region.binds .any e = true → lst.getD e.on false = true) → o.guard = none ∧ o.wp P a w (fun a' w' => Inv (lst.setIfInBounds i true) a' w') R)
    (he : ∀ lst a w, Inv lst a w → (∀ i o, ops[i]? = some o → (∀ e ∈ o.after, Region.binds .any e = true → lst.getD e.on false = true) → lst.getD i true = true) → R .normal a w) : (Code.region id ops true).wp P R a w := by
  refine wp_region_any hm (wpAny_inv Inv hs he _ _ _ _ h0 ?_)
  have := List.countP_le_length (l := (Array.replicate ops.size false).toList) (p := (· == false))
  simpa using this
end Go.Proofs.Ytkgfohodahkmmaa

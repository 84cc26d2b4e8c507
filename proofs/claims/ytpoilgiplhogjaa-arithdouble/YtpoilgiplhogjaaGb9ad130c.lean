/- A region that draws its order, by what holds of the operations that have come up, of what they told, and of the world. -/
import Derived.Test.YtpoilgiplhogjaaG3c58af6a
import Derived.Test.YtpoilgiplhogjaaG97047c0a
namespace Go.Proofs.Ytpoilgiplhogjaa
open Go.RowKit
set_option linter.unusedVariables false
set_option linter.unusedSimpArgs false

def upd {α : Type} (f : Nat → α) (i : Nat) (v : α) : Nat → α := fun j => if j = i then v else f j
theorem upd_eq {α : Type} (f : Nat → α) (i : Nat) (v : α) : upd f i v i = v := by unfold upd; rw [if_pos rfl]
theorem upd_ne {α : Type} (f : Nat → α) {i j : Nat} (v : α) (h : j ≠ i) : upd f i v j = f j := by unfold upd; rw [if_neg h]
theorem wpAny_invS {P : Program} {ops : Array Oper} {R : Exit → Act → World → Prop} (Inv : Array Bool → Act → World → Prop)
    (hs : ∀ lst a w i o, Inv lst a w → ops[i]? = some o → lst.getD i true = false → (∀ e ∈ o.after, Region.binds .any e = true → lst.getD e.on false = true) → (Region.wanted o (yielded ops a.tmps) = true → o.wp P a w (fun a' w' => Inv (lst.setIfInBounds i true) a' w') R) ∧ (Region.wanted o (yielded ops a.tmps) = false → Inv (lst.setIfInBounds i true) (a.put o.dst undef) w))
    (he : ∀ lst a w, Inv lst a w → (∀ i o, ops[i]? = some o → (∀ e ∈ o.after, Region.binds .any e = true → lst.getD e.on false = true) → lst.getD i true = true) → R .normal a w) :
    ∀ (fuel : Nat) (lst : Array Bool) (a : Act) (w : World), Inv lst a w → lst.toList.countP (· == false) ≤ fuel → wpAny P .any ops R fuel lst a w := by
  have done : ∀ (lst : Array Bool) (a : Act) (w : World), Inv lst a w → Region.ready .any ops lst = [] → R .normal a w := fun lst a w h hr => he lst a w h (fun i o ho hd => by
    cases hc : lst.getD i true with
    | true => rfl
    | false =>
      have : i ∈ Region.ready .any ops lst := mem_ready.2 ⟨hc, o, ho, hd⟩
      rw [hr] at this
      cases this)
  intro fuel
  induction fuel with
  | zero =>
    intro lst a w h hc
    have hr : Region.ready .any ops lst = [] := by
      cases hr : Region.ready .any ops lst with
      | nil => rfl
      | cons j js =>
        have : j ∈ Region.ready .any ops lst := by rw [hr]; exact List.mem_cons_self
        have := ready_pos (mem_ready.1 this).1
        omega
    exact ⟨hr, done lst a w h hr⟩
  | succ fuel ih =>
    intro lst a w h hc
    refine ⟨done lst a w h, fun i hi => ?_⟩
    obtain ⟨h1, o, ho, h2⟩ := mem_ready.1 hi
    obtain ⟨hy, hn⟩ := hs lst a w i o h ho h1 h2
    have hcs := count_set h1
    unfold wpOp
    rw [ho]
    simp only
    cases hw : Region.wanted o (yielded ops a.tmps) with
    | true =>
      rw [if_pos rfl]
      exact Or.inl (Oper.wp_mono (fun a' w' h' => ih _ a' w' h' (by omega)) (hy hw))
    | false =>
      rw [if_neg (by decide)]
      exact ih _ _ _ (hn hw) (by omega)
/-- The slot that an operation fills. -/
def dstOf (l : List Oper) (i : Nat) : Option Nat := (l[i]?).bind (fun o : Oper => o.dst)
theorem dstOf_at {l : List Oper} {i : Nat} {o : Oper} (h : l[i]? = some o) : dstOf l i = o.dst := by unfold dstOf; rw [h]; rfl
/-- Each operation waits for earlier ones alone, and for what guards it; no two fill one slot. -/
def regS (l : List Oper) : Bool := (List.range l.length).all fun k => match l[k]? with
  | some o => (match o.guard with | none => true | some (g, _) => o.after.toList.any (fun e => Region.binds .any e && (e.on == g)) && (dstOf l g).isSome) && ((o.after.toList.all fun e => !(Region.binds .any e) || decide (e.on < k)) && (List.range k).all fun j => match o.dst, dstOf l j with | some t, some u => t != u | _, _ => true)
  | none => true
theorem regS_at {l : List Oper} (h : regS l = true) {k : Nat} {o : Oper} (hk : l[k]? = some o) : (∀ g b, o.guard = some (g, b) → (∃ e ∈ o.after, Region.binds .any e = true ∧ e.on = g) ∧ ∃ t, dstOf l g = some t) ∧ (∀ e ∈ o.after, Region.binds .any e = true → e.on < k) ∧ (∀ j t, j < k → o.dst = some t → dstOf l j ≠ some t) := by
  have hlt : k < l.length := (List.getElem?_eq_some_iff.1 hk).1
  have h1 := List.all_eq_true.1 h k (List.mem_range.2 hlt)
  rw [hk] at h1
  simp only [Bool.and_eq_true] at h1
  refine ⟨fun g b hgd => ?_, fun e he hb => ?_, fun j t hj ht hc => ?_⟩
  · have h2 := h1.1
    rw [hgd] at h2
    simp only [Bool.and_eq_true] at h2
    obtain ⟨e, he, h3⟩ := List.any_eq_true.1 h2.1
    rw [Bool.and_eq_true] at h3
    exact ⟨⟨e, by simpa using he, h3.1, by simpa using h3.2⟩, Option.isSome_iff_exists.1 h2.2⟩
  · have h2 := List.all_eq_true.1 h1.2.1 e (by simpa using he)
    rw [hb] at h2
    simpa using h2
  · have h2 := List.all_eq_true.1 h1.2.2 j (List.mem_range.2 hj)
    rw [ht, hc] at h2
    simp at h2
structure Slots (I : (Nat → Bool) → (Nat → Value) → World → Prop) (a0 : Act) (l : List Oper) (lst : Array Bool) (a : Act) (x : World) (val : Nat → Value) : Prop where
  size : a.tmps.size = a0.tmps.size
  defers : a.defers = a0.defers
  other : ∀ j, (∀ k, dstOf l k ≠ some j) → a.tmps[j]? = a0.tmps[j]?
  ls : lst.size = l.length
  vals : ∀ j t, lst.getD j false = true → dstOf l j = some t → a.tmps[t]? = some (val j)
  inv : I (fun i => lst.getD i false) val x
theorem set_upd {lst : Array Bool} {i : Nat} (h : i < lst.size) : (fun j => (lst.setIfInBounds i true).getD j false) = upd (fun j => lst.getD j false) i true := by
  funext j
  by_cases e : j = i
  · subst e; rw [upd_eq]; exact set_eq h
  · rw [upd_ne _ _ e]; exact set_ne (fun e' => e e'.symm)
theorem dst_inj {l : List Oper} (hB : regS l = true) {i j : Nat} {t : Nat} (hi : dstOf l i = some t) (hj : dstOf l j = some t) : i = j := by
  have key : ∀ i j, i < j → dstOf l i = some t → dstOf l j = some t → False := fun i j h hi hj => by
    cases hl : l[j]? with
    | none => unfold dstOf at hj; rw [hl] at hj; cases hj
    | some o =>
      rw [dstOf_at hl] at hj
      exact (regS_at hB hl).2.2 i t h hj hi
  rcases Nat.lt_trichotomy i j with h | h | h
  · exact (key i j h hi hj).elim
  · exact h
  · exact (key j i h hj hi).elim
theorem slots_put {I : (Nat → Bool) → (Nat → Value) → World → Prop} {a0 : Act} {l : List Oper} {lst : Array Bool} {a : Act} {x x' : World} {val : Nat → Value} (T : Slots I a0 l lst a x val) (hB : regS l = true) (hmax : ∀ i t, dstOf l i = some t → t < a0.tmps.size) {i : Nat} {o : Oper} (ho : l[i]? = some o) (v : Value) (hI : I (upd (fun j => lst.getD j false) i true) (upd val i v) x') :
    Slots I a0 l (lst.setIfInBounds i true) (a.put o.dst v) x' (upd val i v) := by
  have hil : i < l.length := (List.getElem?_eq_some_iff.1 ho).1
  have hid : dstOf l i = o.dst := dstOf_at ho
  refine ⟨?_, ?_, fun j hj => ?_, by rw [Array.size_setIfInBounds]; exact T.ls, fun j t hlj hjt => ?_, by rw [set_upd (by rw [T.ls]; exact hil)]; exact hI⟩
  · cases hd : o.dst with
    | none => exact T.size
    | some t => exact (Array.size_setIfInBounds).trans T.size
  · cases hd : o.dst with
    | none => exact T.defers
    | some t => exact T.defers
  · cases hd : o.dst with
    | none => exact T.other j hj
    | some t =>
      refine (Array.getElem?_setIfInBounds_ne (fun e => hj i ?_)).trans (T.other j hj)
      rw [hid, hd, e]
  · by_cases e : j = i
    · subst e
      rw [hid] at hjt
      rw [hjt, upd_eq]
      exact Array.getElem?_setIfInBounds_self_of_lt (by rw [T.size]; exact hmax j t (by rw [hid]; exact hjt))
    · rw [set_ne (fun e' => e e'.symm)] at hlj
      rw [upd_ne _ _ e]
      cases hd : o.dst with
      | none => exact T.vals j t hlj hjt
      | some t' =>
        refine (Array.getElem?_setIfInBounds_ne (fun e' => e ?_)).trans (T.vals j t hlj hjt)
        subst e'
        exact dst_inj hB hjt (by rw [hid]; exact hd)
set_option maxHeartbeats 1000000 in
theorem wp_region_slots {P : Program} {id : Nat} {R : Exit → Act → World → Prop} {a0 : Act} {w : World} {l : List Oper} (I : (Nat → Bool) → (Nat → Value) → World → Prop)
    (hm : P.follows .mixedOrders = true) (hB : regS l = true) (hmax : ∀ i t, dstOf l i = some t → t < a0.tmps.size)
    (h0 : I (fun _ => false) (fun _ => undef) w.drew)
    (hop : ∀ i o (a : Act) x (done : Nat → Bool) (val : Nat → Value), l[i]? = some o → done i = false → (∀ e ∈ o.after, Region.binds .any e = true → done e.on = true) → I done val x → (∀ j, (∀ k, dstOf l k ≠ some j) → a.tmps[j]? = a0.tmps[j]?) → (∀ j t, done j = true → dstOf l j = some t → a.tmps[t]? = some (val j)) → (∀ g b, o.guard = some (g, b) → val g = .bool b) →
      Shut (o.wp P a x (fun a' x' => ∃ v, a' = a.put o.dst v ∧ I (upd done i true) (upd val i v) x') R))
    (hskip : ∀ i o x (done : Nat → Bool) (val : Nat → Value) g b, l[i]? = some o → done i = false → (∀ e ∈ o.after, Region.binds .any e = true → done e.on = true) → I done val x → o.guard = some (g, b) → val g ≠ .bool b → I (upd done i true) (upd val i undef) x)
    (hend : ∀ (a : Act) x (val : Nat → Value), I (fun i => decide (i < l.length)) val x → a.tmps.size = a0.tmps.size → a.defers = a0.defers → (∀ j, (∀ k, dstOf l k ≠ some j) → a.tmps[j]? = a0.tmps[j]?) → (∀ j t, dstOf l j = some t → a.tmps[t]? = some (val j)) → Shut (R .normal a x)) :
    (Code.region id l.toArray true).wp P R a0 w := by
  have get : ∀ k, l.toArray[k]? = l[k]? := fun k => List.getElem?_toArray
  have hc := List.countP_le_length (l := (Array.replicate l.toArray.size false).toList) (p := (· == false))
  refine wp_region_any hm (wpAny_invS (fun lst a x => ∃ val, Slots I a0 l lst a x val) ?_ ?_ _ _ _ _ ?_ (by simpa using hc))
  · rintro lst a x i o ⟨val, T⟩ ho hl hdep
    rw [get] at ho
    obtain ⟨hg, hdl, hds⟩ := regS_at hB ho
    have hil : i < l.length := (List.getElem?_eq_some_iff.1 ho).1
    have hlf : (fun j => lst.getD j false) i = false := not_got hl
    have gval : ∀ g b, o.guard = some (g, b) → ∃ t, dstOf l g = some t ∧ a.tmps[t]? = some (val g) := fun g b hgd => by
      obtain ⟨⟨e, he, hb, hon⟩, t, ht⟩ := hg g b hgd
      have := hdep e he hb
      rw [hon] at this
      exact ⟨t, ht, T.vals g t this ht⟩
    have hyl : ∀ g b, o.guard = some (g, b) → (Region.wanted o (yielded l.toArray a.tmps) = true ↔ val g = .bool b) := fun g b hgd => by
      obtain ⟨t, ht, hv⟩ := gval g b hgd
      unfold Region.wanted
      rw [hgd]
      simp only [yielded]
      rw [get]
      unfold dstOf at ht
      rw [ht]
      simp only [Option.bind_some]
      rw [hv]
      cases hval : val g <;> simp
    refine ⟨fun hw => ?_, fun hw => ?_⟩
    · have := (hop i o a x (fun j => lst.getD j false) val ho hlf hdep T.inv T.other T.vals (fun g b hgd => (hyl g b hgd).1 hw)).out
      refine Oper.wp_mono ?_ this
      rintro a' x' ⟨v, rfl, hI⟩
      exact ⟨_, slots_put T hB hmax ho v hI⟩
    · cases hgd : o.guard with
      | none => unfold Region.wanted at hw; rw [hgd] at hw; cases hw
      | some gb =>
        obtain ⟨g, b⟩ := gb
        refine ⟨_, slots_put T hB hmax ho undef (hskip i o x _ val g b ho hlf hdep T.inv hgd (fun e => ?_))⟩
        rw [(hyl g b hgd).2 e] at hw
        cases hw
  · rintro lst a x ⟨val, T⟩ hno
    have all : ∀ j, j < l.length → lst.getD j false = true := by
      intro j
      induction j using Nat.strongRecOn with
      | ind j ih =>
        intro hj
        obtain ⟨o, ho⟩ : ∃ o, l[j]? = some o := ⟨_, List.getElem?_eq_getElem hj⟩
        refine got_of (hno j o (by rw [get]; exact ho) (fun e he hb => ?_)) (by rw [T.ls]; exact hj)
        have := (regS_at hB ho).2.1 e he hb
        exact ih e.on this (by omega)
    have hall : (fun i => lst.getD i false) = (fun i => decide (i < l.length)) := by
      funext j
      by_cases hj : j < l.length
      · rw [all j hj, decide_eq_true hj]
      · rw [decide_eq_false hj, Array.getD_eq_getD_getElem?, Array.getElem?_eq_none (by rw [T.ls]; omega)]; rfl
    refine (hend a x val (by rw [← hall]; exact T.inv) T.size T.defers T.other (fun j t hjt => T.vals j t (all j ?_) hjt)).out
    cases hl : l[j]? with
    | none => unfold dstOf at hjt; rw [hl] at hjt; cases hjt
    | some o => exact (List.getElem?_eq_some_iff.1 hl).1
  · refine ⟨fun _ => undef, rfl, rfl, fun _ _ => rfl, by simp, fun j t hj => ?_, ?_⟩
    · rw [Array.getD_eq_getD_getElem?, Array.getElem?_replicate] at hj
      split at hj <;> cases hj
    · have : (fun i => (Array.replicate l.toArray.size false).getD i false) = fun _ => false := by
        funext j
        rw [Array.getD_eq_getD_getElem?, Array.getElem?_replicate]
        split <;> rfl
      rw [this]
      exact h0
end Go.Proofs.Ytpoilgiplhogjaa
/- What the reference's Plus and Minus return of whole numbers in memory. -/
namespace Go.Proofs.Ytpoilgiplhogjaa
open Go.RowKit

/-- A new row of L digits, the first k of them those of v, the others 0. -/
structure Part (w wr : World) (L v k : Nat) : Prop where
  q : Q w wr
  row : wr.rowIs w.heap.size 22 L (fun j => .int .u32 (if j < k then (dig v j : Int) else 0))
theorem part_start (w : World) (L v : Nat) : Part w (w.alloc (.cells (madeCells #[.int .u32 0] L) 22)) L v 0 :=
  ⟨(Q.refl w).cells _ _, (World.rowIs_made w _ L 22).congr (fun j _ => by rw [if_neg (Nat.not_lt_zero _)])⟩
theorem part_step {w wr : World} {L v k : Nat} (h : Part w wr L v k) : Part w (wr.setCell ⟨w.heap.size, k, none⟩ (.int .u32 (dig v k))) L v (k + 1) := by
  refine ⟨h.q.set (Nat.le_refl _) _, (h.row.set k _).congr (fun j _ => ?_)⟩
  by_cases e : j = k
  · subst e; rw [if_pos rfl, if_pos (by omega)]
  · rw [if_neg e]
    by_cases g : j < k
    · rw [if_pos g, if_pos (by omega)]
    · rw [if_neg g, if_neg (by omega)]
theorem part_step' {w wr : World} {L v k : Nat} (h : Part w wr L v k) {x : Int} (e : x = dig v k) : Part w (wr.setCell ⟨w.heap.size, k, none⟩ (.int .u32 x)) L v (k + 1) := by
  rw [e]; exact part_step h
theorem part_done {w wr : World} {L v : Nat} (h : Part w wr L v L) (i : Nat) (hi : i < L) : wr.cell? ⟨w.heap.size, i, none⟩ = some (.int .u32 (dig v i)) := by
  rw [h.row.cell hi, if_pos hi]
theorem part_open {w wr : World} {L v k : Nat} (h : Part w wr L v k) (hk : k < L) : wr.cell? ⟨w.heap.size, k, none⟩ = some (.int .u32 0) := by
  rw [h.row.cell hk, if_neg (by omega)]

theorem and_mask (s : Int) (h0 : 0 ≤ s) (h1 : s ≤ 18446744073709551615) : bits .and .u64 s 4294967295 = s % 4294967296 := by go_bits2

theorem lt_pow_max {a b La Lb : Nat} (ha : a < 4294967296 ^ La) (hb : b < 4294967296 ^ Lb) : a + b < 4294967296 ^ (max La Lb + 1) := by
  have h1 : 4294967296 ^ La ≤ 4294967296 ^ (max La Lb) := Nat.pow_le_pow_right (by decide) (by omega)
  have h2 : 4294967296 ^ Lb ≤ 4294967296 ^ (max La Lb) := Nat.pow_le_pow_right (by decide) (by omega)
  rw [Nat.pow_succ]; omega

/-- One digit of a sum. -/
theorem sum_dig {a b k c : Nat} (h : (a + b) / 4294967296 ^ k = a / 4294967296 ^ k + b / 4294967296 ^ k + c) :
    (c + dig a k + dig b k) % 4294967296 = dig (a + b) k ∧
    (a + b) / 4294967296 ^ (k + 1) = a / 4294967296 ^ (k + 1) + b / 4294967296 ^ (k + 1) + (c + dig a k + dig b k) / 4294967296 := by
  rw [quo_succ, quo_succ, quo_succ]
  unfold dig
  generalize a / 4294967296 ^ k = x at *
  generalize b / 4294967296 ^ k = y at *
  generalize (a + b) / 4294967296 ^ k = z at *
  omega

theorem plus_rel {w wr : World} {M a b k c : Nat} (X : Int) (hX : X = ((c + dig a k + dig b k : Nat) : Int)) (hP : Part w wr M (a + b) k)
    (hQ : (c + dig a k + dig b k) % 4294967296 = dig (a + b) k ∧ (a + b) / 4294967296 ^ (k + 1) = a / 4294967296 ^ (k + 1) + b / 4294967296 ^ (k + 1) + (c + dig a k + dig b k) / 4294967296)
    (hk : k < M) (hc : c ≤ 1) :
    ∃ k' c' : Nat, k' ≤ M ∧ M - (k + 1) = M - k' ∧ Value.int .u64 (X / 4294967296) = .int .u64 c' ∧ Value.int .i64 ((k : Int) + 1) = .int .i64 k' ∧
      Part w (wr.setCell { block := w.heap.size, off := k } (.int .u32 (X % 4294967296))) M (a + b) k' ∧ (a + b) / 4294967296 ^ k' = a / 4294967296 ^ k' + b / 4294967296 ^ k' + c' ∧ c' ≤ 1 := by
  have h1 := dig_lt a k
  have h2 := dig_lt b k
  refine ⟨k + 1, (c + dig a k + dig b k) / 4294967296, by omega, rfl, by rw [hX]; rfl, by simp, part_step' hP (by rw [hX, ← hQ.1]; rfl), hQ.2, by omega⟩

set_option maxHeartbeats 4000000 in
theorem plus_any (va vb : Value) (a b : Nat) (w : World) (ha : NatAt w va a) (hb : NatAt w vb b) (hs : a + b < cap) :
    Calls Try.prog 43 #[va, vb] w fun e w' => ∃ v, e = .returned v ∧ NatAt w' v (a + b) ∧ Q w w' := by
  obtain ⟨pa, ba, La, Ca, rfl, ha⟩ := ha
  obtain ⟨pb, bb, Lb, Cb, rfl, hb⟩ := hb
  have hla := ha.len_cap (by omega)
  have hlb := hb.len_cap (by omega)
  obtain ⟨M, hM⟩ : ∃ M, M = max La Lb + 1 := ⟨_, rfl⟩
  have HM : Hid (M = max La Lb + 1) := hM
  have hM4 : M ≤ 400 := by omega
  have hmk := run_make_row' (P := Try.prog) 28 22 (.int .u32 0) 4 Try.underlying28 info_u32 rfl .i64 .i64 M (by omega) (by omega)
  have hcase : (La < Lb ∧ (Lb : Int) + 1 = (M : Int)) ∨ (¬ La < Lb ∧ (La : Int) + 1 = (M : Int)) := by omega
  have q0 : (a + b) / 4294967296 ^ 0 = a / 4294967296 ^ 0 + b / 4294967296 ^ 0 + 0 := by rw [quo_zero, quo_zero, quo_zero]; rfl
  have HL : Hid (a + b < 4294967296 ^ M) := by have := lt_pow_max ha.hi hb.hi; rw [← hM] at this; exact this
  clear hM
  rcases hcase with ⟨hc1, hc2⟩ | ⟨hc1, hc2⟩
  all_goals
    go_enter Try.func43, Try.ntmps43
    go_wp2
    clear hmk hc1 hc2
    go_loopg [7, 8] M (fun g s7 s8 wr => ∃ k c : Nat, k ≤ M ∧ g = M - k ∧ s7 = .int .u64 c ∧ s8 = .int .i64 k ∧ Part w wr M (a + b) k ∧ (a + b) / 4294967296 ^ k = a / 4294967296 ^ k + b / 4294967296 ^ k + c ∧ c ≤ 1)
    case atStart => exact ⟨0, 0, Nat.zero_le _, rfl, rfl, rfl, part_start w M _, q0, by decide⟩
    case round =>
      obtain ⟨k, c, hk, rfl, rfl, rfl, hP, hq, hc⟩ := hrel
      have HQ : Hid _ := sum_dig hq
      have hda := dig_lt a k
      have hdb := dig_lt b k
      clear hq q0
      by_cases hkM : k < M
      · have hkz : (k : Int) < (M : Int) := by omega
        have f1 := part_open hP hkM
        have f2 := hP.row.frozen k
        have m1 := and_mask ((c : Int) + dig a k + dig b k) (by omega) (by omega)
        have m2 := and_mask ((c : Int) + dig a k) (by omega) (by omega)
        have m3 := and_mask ((c : Int) + dig b k) (by omega) (by omega)
        have m4 := and_mask (c : Int) (by omega) (by omega)
        by_cases h1 : k < La
        · obtain rfl := ha.ptr (by omega)
          have h1z : (k : Int) < (La : Int) := by omega
          have ca := hP.q.cell (ha.cell k h1)
          by_cases h2 : k < Lb
          · obtain rfl := hb.ptr (by omega)
            have h2z : (k : Int) < (Lb : Int) := by omega
            have cb := hP.q.cell (hb.cell k h2)
            go_wp2
            go_roundg (M - (k + 1))
            case measure => go_light; omega
            case rel => go_light; exact plus_rel _ (by omega) hP HQ.out hkM hc
          · have h2z : ¬ (k : Int) < (Lb : Int) := by omega
            have e2 := dig_end hb.hi (i := k) (by omega)
            have E2 : Hid _ := e2
            clear e2
            go_wp2
            go_roundg (M - (k + 1))
            case measure => go_light; omega
            case rel => go_light; exact plus_rel _ (by have := E2.out; omega) hP HQ.out hkM hc
        · have h1z : ¬ (k : Int) < (La : Int) := by omega
          have e1 := dig_end ha.hi (i := k) (by omega)
          have E1 : Hid _ := e1
          clear e1
          by_cases h2 : k < Lb
          · obtain rfl := hb.ptr (by omega)
            have h2z : (k : Int) < (Lb : Int) := by omega
            have cb := hP.q.cell (hb.cell k h2)
            go_wp2
            go_roundg (M - (k + 1))
            case measure => go_light; omega
            case rel => go_light; exact plus_rel _ (by have := E1.out; omega) hP HQ.out hkM hc
          · have h2z : ¬ (k : Int) < (Lb : Int) := by omega
            have e2 := dig_end hb.hi (i := k) (by omega)
            have E2 : Hid _ := e2
            clear e2
            go_wp2
            go_roundg (M - (k + 1))
            case measure => go_light; omega
            case rel => go_light; exact plus_rel _ (by have := E1.out; have := E2.out; omega) hP HQ.out hkM hc
      · have hkz : ¬ (k : Int) < (M : Int) := by omega
        obtain rfl : k = M := by omega
        go_wp2_with fail
        refine (trimmed_any _ k k (a + b) wr (part_done hP) HL.out hM4 (Nat.le_refl _)).mono ?_
        rintro e w' ⟨L', C', rfl, hN, rfl⟩
        go_wp2_with fail
        go_ret
        exact ⟨_, rfl, ⟨_, _, _, _, rfl, hN⟩, hP.q⟩
end Go.Proofs.Ytpoilgiplhogjaa

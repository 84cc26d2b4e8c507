/- A region that draws its order, inside a fence (in an iterator, or in a round of a range over one): operations that read come up in whatever order; the others one behind the other (or in any of a few orders). -/
import Derived.Test.YtgaolakfgjmeiabG873cc88a
import Derived.OrdersIn
import Derived.RangeFuncNested
import Derived.RangeFuncBound
import Derived.RangeFuncCalls
import Derived.RangeFuncLeaves
import Derived.Shelf.Abstract
import Derived.Test.YtgaolakfgjmeiabG490232c2
import Derived.Test.YtgaolakfgjmeiabG30beeb35
namespace Go.Proofs.Ytgaolakfgjmeiab
open Go.RowKit Go.Shelf
set_option linter.unusedVariables false
set_option linter.unusedSimpArgs false

theorem wpAnyIn_invS {F : Fence} {f0 : Nat} {P : Program} {ops : Array Oper} {R : Exit → Act → World → Prop} (Inv : Array Bool → Act → World → Prop)
    (hs : ∀ lst a w i o, Inv lst a w → ops[i]? = some o → lst.getD i true = false → (∀ e ∈ o.after, Region.binds .any e = true → lst.getD e.on false = true) → (Region.wanted o (yielded ops a.tmps) = true → o.wpIn F f0 P a w (fun a' w' => Inv (lst.setIfInBounds i true) a' w') R) ∧ (Region.wanted o (yielded ops a.tmps) = false → (∀ f, o.about P w a.eval = some f → F.fn f) ∧ Inv (lst.setIfInBounds i true) (a.put o.dst undef) w))
    (he : ∀ lst a w, Inv lst a w → (∀ i o, ops[i]? = some o → (∀ e ∈ o.after, Region.binds .any e = true → lst.getD e.on false = true) → lst.getD i true = true) → R .normal a w) :
    ∀ (fuel : Nat) (lst : Array Bool) (a : Act) (w : World), Inv lst a w → lst.toList.countP (· == false) ≤ fuel → wpAnyIn F f0 P .any ops R fuel lst a w := by
  have done : ∀ (lst : Array Bool) (a : Act) (w : World), Inv lst a w → Region.ready .any ops lst = [] → R .normal a w := fun lst a w h hr => he lst a w h (fun i o ho hd => by
    cases hc : lst.getD i true with
    | true => rfl
    | false =>
      have : i ∈ Region.ready .any ops lst := mem_ready.2 ⟨hc, o, ho, hd⟩
      rw [hr] at this
      cases this)
  intro fuel
  induction fuel with
  | zero =>
    intro lst a w h hc
    have hr : Region.ready .any ops lst = [] := by
      cases hr : Region.ready .any ops lst with
      | nil => rfl
      | cons j js =>
        have : j ∈ Region.ready .any ops lst := by rw [hr]; exact List.mem_cons_self
        have := ready_pos (mem_ready.1 this).1
        omega
    exact ⟨hr, done lst a w h hr⟩
  | succ fuel ih =>
    intro lst a w h hc
    refine ⟨done lst a w h, fun i hi => ?_⟩
    obtain ⟨h1, o, ho, h2⟩ := mem_ready.1 hi
    obtain ⟨hy, hn⟩ := hs lst a w i o h ho h1 h2
    have hcs := count_set h1
    unfold wpOpIn
    rw [ho]
    simp only
    cases hw : Region.wanted o (yielded ops a.tmps) with
    | true =>
      rw [if_pos rfl]
      exact (Oper.wpIn_mono (fun a' w' h' => ih _ a' w' h' (by omega)) (hy hw))
    | false =>
      rw [if_neg (by decide)]
      exact ⟨(hn hw).1, ih _ _ _ (hn hw).2 (by omega)⟩
theorem rd_defer {o : Oper} (h : rdKind o = true) : ∀ c, o.op ≠ .defer c := by
  intro c hc
  unfold rdKind at h
  rw [hc] at h
  cases h
theorem rd_about {P : Program} {x : World} {o : Oper} {ρ : Operand → Value} (h : rdKind o = true) : o.about P x ρ = none := by
  unfold Oper.about
  unfold rdKind at h
  cases ho : o.op <;> rw [ho] at h <;> first | rfl | (cases h; done)
theorem about_agree {P : Program} {o : Oper} {a A : Act} {x : World} (h : ∀ t ∈ looks o, a.tmps[t]? = A.tmps[t]?) : o.about P x a.eval = o.about P x A.eval :=
  about_congr o x fun y hy => eval_agree fun t ht => h t (by
    subst ht
    exact List.mem_filterMap.2 ⟨.tmp t, by simpa using hy, rfl⟩)
/-- What an operation does inside a fence, read off its operands. -/
def DoesI (F : Fence) (f0 : Nat) (P : Program) (o : Oper) (ρ : Operand → Value) (x : World) (G : Value → World → Prop) : Prop :=
  (∀ c, o.op ≠ .defer c) ∧ (∀ f, o.about P x ρ = some f → F.fn f) ∧ match (execOp ρ o).run P x with
  | .ok (.value v) x' => G v x'
  | .ok .skip x' => G undef x'
  | .ok (.enter f args) x' => (F.depth.isSome = true → 1 ≤ f0) ∧ CallsIn F (f0 - 1) P f args x' fun e x'' => ∃ v, e = .returned v ∧ G v x''
  | .ok (.round l f tmps assign body) x' => (F.depth.isSome = true → 1 ≤ f0) ∧ RoundIn F (f0 - 1) P l f tmps assign body x' fun e x'' => ∃ v, e = .returned v ∧ G v x''
  | _ => False
theorem DoesI.wp {F : Fence} {f0 : Nat} {P : Program} {o : Oper} {a : Act} {x : World} {G : Value → World → Prop} {R : Exit → Act → World → Prop} {K : Act → World → Prop} (h : DoesI F f0 P o a.eval x G) (hK : ∀ v x', G v x' → K (a.put o.dst v) x') : o.wpIn F f0 P a x K R := by
  obtain ⟨h0, h1, h⟩ := h
  unfold Oper.wpIn
  refine ⟨h1, ?_⟩
  rw [Oper.semAt_eq _ _ _ h0]
  split at h
  · rename_i e; rw [e]; exact hK _ _ h
  · rename_i e; rw [e]; exact hK _ _ h
  · rename_i e
    rw [e, Oper.uponIn_enter]
    refine ⟨h.1, h.2.mono ?_⟩
    rintro u x' ⟨v, rfl, hg⟩
    exact hK _ _ hg
  · rename_i e
    rw [e, Oper.uponIn_round]
    refine ⟨h.1, h.2.mono ?_⟩
    rintro u x' ⟨v, rfl, hg⟩
    exact hK _ _ hg
  · exact h.elim
/-- The operations that do not only read, in each order. -/
def wpTreeI (F : Fence) (f0 : Nat) (P : Program) (l : List Oper) (rd : List Nat) (ords : List (List Nat)) (C : World → Prop) (N : Act → World → Prop) : Nat → List Nat → Act → World → Prop
  | 0, p, A, x => N A x
  | n + 1, p, A, x => ∀ k ∈ nexts ords p, ∀ o, l[k]? = some o → DoesI F f0 P o A.eval x (fun v x' => (fullB l rd k = false → C x') ∧ wpTreeI F f0 P l rd ords C N n (p ++ [k]) (A.put o.dst v) x')
structure MkInvI (F : Fence) (f0 : Nat) (P : Program) (l : List Oper) (rd : List Nat) (ords : List (List Nat)) (n : Nat) (C : World → Prop) (N : Act → World → Prop) (a0 A : Act) (lst : Array Bool) (a : Act) (x : World) (od : List Nat) (i : Nat) (B : Act) : Prop where
  ls : lst.size = l.length
  closed : ∀ (j : Nat) (o : Oper), lst.getD j false = true → l[j]? = some o → ∀ e ∈ o.after, Region.binds .any e = true → lst.getD e.on false = true
  mem : od ∈ ords
  le : i ≤ n
  mains : ∀ k, k < l.length → k ∉ rd → (lst.getD k false = true ↔ k ∈ od.take i)
  tree : wpTreeI F f0 P l rd ords C N (n - i) (od.take i) B x
  size : a.tmps.size = B.tmps.size
  size0 : B.tmps.size = a0.tmps.size
  defers : a.defers = B.defers
  agree : ∀ (j : Nat), (∀ r ∈ rd, lst.getD r false = false → dstOf l r ≠ some j) → a.tmps[j]? = B.tmps[j]?
  rdv : ∀ r ∈ rd, ∀ t, dstOf l r = some t → B.tmps[t]? = A.tmps[t]?
  oth : ∀ (j : Nat), (∀ k, dstOf l k ≠ some j) → B.tmps[j]? = a0.tmps[j]?
  cl : (∃ r ∈ rd, lst.getD r false = false) → C x
  fresh : ∀ (j t : Nat), j ∉ rd → j ∉ od.take i → dstOf l j = some t → B.tmps[t]? = a0.tmps[t]?
set_option maxHeartbeats 1000000 in
theorem wpIn_region_mkC {F : Fence} {f0 : Nat} {P : Program} {id : Nat} {R : Exit → Act → World → Prop} {a0 : Act} {w : World} {l : List Oper} (rd : List Nat) (ords : List (List Nat)) (n : Nat) (lr : List Oper) (C : World → Prop)
    (hm : P.follows .mixedOrders = true) (hB : mkB l rd ords n = true) (hlr : rd.filterMap (fun r => l[r]?) = lr) (hmx : maxB l a0.tmps.size = true) (hC' : C w.drew)
    (hrd : wpQuiet P l.toArray C (fun A => wpTreeI F f0 P l rd ords C (fun A x => R .normal A x) n [] A w.drew) lr a0) :
    (Code.region id l.toArray true).wpIn F f0 P R a0 w := by
  have ok := mkB_ok hB
  have hmax := maxB_ok hmx
  have hlr := hlr ▸ map_some rd ok.rdl
  have get : ∀ k, l.toArray[k]? = l[k]? := fun k => List.getElem?_toArray
  have hc := List.countP_le_length (l := (Array.replicate l.toArray.size false).toList) (p := (· == false))
  have hlg : ∀ o ∈ lr, o.guard = none := fun o ho => by
    obtain ⟨r, hr, e⟩ := List.mem_map.1 (by rw [hlr]; exact List.mem_map_of_mem ho : some o ∈ rd.map (fun r => l[r]?))
    exact ok.gd r o e
  obtain ⟨A, hT, z1, z2, z3, z4⟩ := readers rd lr a0 hlr hlg ok.dst ok.rda hrd
  obtain ⟨od0, hod0⟩ : ∃ od, od ∈ ords := by
    cases h : ords with
    | nil => exact absurd h ok.one
    | cons od t => exact ⟨od, List.mem_cons_self⟩
  -- the frame of an operation agrees where it looks
  have agr : ∀ {lst : Array Bool} {a : Act} {x : World} {od : List Nat} {i : Nat} {B : Act}, MkInvI F f0 P l rd ords n C (fun A x => R .normal A x) a0 A lst a x od i B → ∀ (k : Nat) (o : Oper), l[k]? = some o → (∀ e ∈ o.after, Region.binds .any e = true → lst.getD e.on false = true) → ∀ t ∈ looks o, a.tmps[t]? = B.tmps[t]? := fun T k o ho hdep t ht => by
    refine T.agree t (fun r hr hl hd => ?_)
    rcases ok.look k o r t ho hd ht with ⟨e, he, hb, hon⟩ | ⟨hnr, _⟩
    · have := hdep e he hb
      rw [hon, hl] at this
      cases this
    · exact hnr hr
  refine wpIn_region_any hm (wpAnyIn_invS (fun lst a x => ∃ od i B, MkInvI F f0 P l rd ords n C (fun A x => R .normal A x) a0 A lst a x od i B) ?_ ?_ _ _ _ _ ?_ (by simpa using hc))
  · rintro lst a x k o ⟨od, i, B, T⟩ ho hl hdep
    rw [get] at ho
    have hkl : k < l.length := (List.getElem?_eq_some_iff.1 ho).1
    have hgd := ok.gd k o ho
    have hlf : lst.getD k false = false := not_got hl
    have hdo : dstOf l k = o.dst := dstOf_at ho
    have hag := agr T k o ho hdep
    refine ⟨fun _ => ?_, fun hw => (by unfold Region.wanted at hw; rw [hgd] at hw; cases hw)⟩
    by_cases hr : k ∈ rd
    · -- one that reads
      have hCx : C x := T.cl ⟨k, hr, hlf⟩
      obtain ⟨ar, v, q0, q2, q3⟩ := z4 k hr o ho
      have q1 := q0 x hCx
      have e1 : execOp a.eval o = execOp ar.eval o := exec_agree (fun cs b => ok.sel k o cs b ho) (fun t ht => by
        rw [hag t ht]
        by_cases hd : ∃ j, dstOf l j = some t
        · obtain ⟨j, hj⟩ := hd
          rcases ok.look k o j t ho hj ht with ⟨e, he, hb, hon⟩ | ⟨hnr, oj, hoj, e, he, hb, hon⟩
          · have hjr : j ∈ rd := by rw [← hon]; exact ok.rdc k o hr ho e he hb
            have hjk : j < k := by rw [← hon]; exact ok.lt k o ho e he hb
            rw [T.rdv j hjr t hj]
            refine (q3 t (fun r' hr' hle hd' => ?_)).symm
            have := ok.dst j r' t hj hd'
            omega
          · have hjl : j < l.length := (List.getElem?_eq_some_iff.1 hoj).1
            have hnj : j ∉ od.take i := fun hm => by
              have h1 := (T.mains j hjl hnr).2 hm
              have h2 := T.closed j oj h1 hoj e he hb
              rw [hon, hlf] at h2
              cases h2
            have hnd : ∀ r ∈ rd, dstOf l r ≠ some t := fun r hr' hd' => hnr (by rw [ok.dst j r t hj hd']; exact hr')
            rw [T.fresh j t hnr hnj hj, ← z3 t hnd]
            exact (q3 t (fun r' hr' _ => hnd r' hr')).symm
        · have hd : ∀ j, dstOf l j ≠ some t := fun j hj => hd ⟨j, hj⟩
          rw [T.oth t hd, ← z3 t (fun r _ => hd r)]
          exact (q3 t (fun r' _ _ => hd r')).symm)
      have key : ∀ x', x' = x → ∃ od i B, MkInvI F f0 P l rd ords n C (fun A x => R .normal A x) a0 A (lst.setIfInBounds k true) (a.put o.dst v) x' od i B := fun x' hx' => by
        subst hx'
        have hsz : k < lst.size := by rw [T.ls]; exact hkl
        refine ⟨od, i, B, ⟨by rw [Array.size_setIfInBounds]; exact T.ls, closed_set ho T.closed hdep, T.mem, T.le, fun j hj hjr => ?_, T.tree, by rw [put_size]; exact T.size, T.size0, by rw [put_defers]; exact T.defers, fun j hj => ?_, T.rdv, T.oth, fun ⟨r, h1, h2⟩ => T.cl ⟨r, h1, ?_⟩, T.fresh⟩⟩
        · rw [set_ne (fun e => hjr (by rw [← e]; exact hr))]; exact T.mains j hj hjr
        · by_cases hjk : o.dst = some j
          · rw [hjk, put_eq a v (by rw [T.size, T.size0]; exact hmax k j (by rw [hdo]; exact hjk)), T.rdv k hr j (by rw [hdo]; exact hjk)]
            exact (q2 j hjk (hmax k j (by rw [hdo]; exact hjk))).symm
          · rw [put_ne a v hjk]
            refine T.agree j (fun r h1 h2 hd => ?_)
            by_cases hrk : k = r
            · subst hrk; exact hjk (by rw [← hdo]; exact hd)
            · exact hj r h1 (by rw [set_ne hrk]; exact h2) hd
        · by_cases hrk : k = r
          · subst hrk; exact hlf
          · rw [set_ne hrk] at h2; exact h2
      unfold Oper.wpIn
      refine ⟨fun f hf => (by rw [rd_about (ok.rdk k o hr ho)] at hf; cases hf), ?_⟩
      rw [Oper.semAt_eq _ _ _ (rd_defer (ok.rdk k o hr ho)), e1]
      generalize hres : (execOp ar.eval o).run P x = res at q1
      cases res with
      | ok nn w' =>
        cases nn <;> simp only [Oper.quietUpon] at q1 <;> simp only [Oper.uponIn]
        case value u =>
          obtain ⟨f1, f2⟩ := q1
          rw [f2]; exact key _ f1
        case skip =>
          obtain ⟨f1, f2⟩ := q1
          rw [← f2]; exact key _ f1
        case enter f args =>
          exact absurd hres (no_enter (ok.rdk k o hr ho))
      | halt e w' => simp only [Oper.quietUpon] at q1
    · -- one of the others
      have hnp : k ∉ od.take i := fun hk => by
        have := (T.mains k hkl hr).2 hk
        rw [hlf] at this; cases this
      have hnx := ok.nx od T.mem i T.le k o ho hr hnp (fun e he hb hnr => by
        have hel : e.on < l.length := by have := ok.lt k o ho e he hb; omega
        exact (T.mains e.on hel hnr).1 (hdep e he hb))
      have hlen := ok.len od T.mem
      have hpl : (od.take i).length = i := by rw [List.length_take]; have := T.le; omega
      obtain ⟨od', m1, m2, m3⟩ := nexts_of hnx
      rw [hpl] at m2 m3
      have hin : i < n := by
        have := (List.getElem?_eq_some_iff.1 m3).1
        rw [ok.len od' m1] at this; exact this
      have htk : od'.take (i + 1) = od.take i ++ [k] := by rw [List.take_add_one, m2, m3]; rfl
      have hT' := T.tree
      rw [show n - i = (n - (i + 1)) + 1 by omega] at hT'
      have hD := hT' k hnx o ho
      have e1 := exec_agree (A := B) (fun cs b => ok.sel k o cs b ho) hag
      have e2 := about_agree (P := P) (A := B) (x := x) hag
      unfold DoesI at hD
      rw [← e1, ← e2] at hD
      change DoesI F f0 P o a.eval x _ at hD
      refine hD.wp (fun v x' hG => ?_)
      have hsz : k < lst.size := by rw [T.ls]; exact hkl
      refine ⟨od', i + 1, B.put o.dst v, ⟨by rw [Array.size_setIfInBounds]; exact T.ls, closed_set ho T.closed hdep, m1, hin, fun j hj hjr => ?_, by rw [htk]; exact hG.2, by rw [put_size, put_size]; exact T.size, by rw [put_size]; exact T.size0, by rw [put_defers, put_defers]; exact T.defers, fun j hj => ?_, fun r hr' t ht => ?_, fun j hj => ?_, fun ⟨r, h1, h2⟩ => ?_, fun j t hjr hjn hjt => ?_⟩⟩
      · rw [htk, List.mem_append, List.mem_singleton]
        by_cases hjk : k = j
        · subst hjk; simp [set_eq hsz]
        · rw [set_ne hjk, T.mains j hj hjr]
          exact ⟨Or.inl, fun h => h.elim (fun h => h) (fun e => absurd e.symm hjk)⟩
      · by_cases hjk : o.dst = some j
        · rw [hjk, put_eq a v (by rw [T.size, T.size0]; exact hmax k j (by rw [hdo]; exact hjk)), put_eq B v (by rw [T.size0]; exact hmax k j (by rw [hdo]; exact hjk))]
        · rw [put_ne a v hjk, put_ne B v hjk]
          refine T.agree j (fun r h1 h2 hd => hj r h1 ?_ hd)
          rw [set_ne (fun e => hr (by rw [e]; exact h1))]; exact h2
      · have hne : o.dst ≠ some t := fun e => by
          have := ok.dst r k t ht (by rw [hdo]; exact e)
          exact hr (by rw [← this]; exact hr')
        rw [put_ne B v hne]; exact T.rdv r hr' t ht
      · rw [put_ne B v (by rw [← hdo]; exact hj k)]; exact T.oth j hj
      · refine hG.1 ?_
        cases hf : fullB l rd k with
        | false => rfl
        | true =>
          exfalso
          unfold fullB at hf
          rw [ho] at hf
          have hm := List.all_eq_true.1 hf r h1
          have := reach_got T.closed 8 ((o.after.toList.filter (Region.binds .any)).map (·.on)) (fun j hj => by
            obtain ⟨e, he, rfl⟩ := List.mem_map.1 hj
            obtain ⟨g1, g2⟩ := List.mem_filter.1 he
            exact hdep e (by simpa using g1) g2) r (by simpa using hm)
          rw [set_ne (fun e => hr (by rw [e]; exact h1))] at h2
          rw [h2] at this; cases this
      · rw [htk, List.mem_append, List.mem_singleton] at hjn
        have hne : o.dst ≠ some t := fun e => by
          have := ok.dst j k t hjt (by rw [hdo]; exact e)
          exact hjn (Or.inr this)
        rw [put_ne B v hne]
        have hjl : j < l.length := by
          unfold dstOf at hjt
          cases hl' : l[j]? with
          | none => rw [hl'] at hjt; cases hjt
          | some o' => exact (List.getElem?_eq_some_iff.1 hl').1
        refine T.fresh j t hjr (fun hm => ?_) hjt
        exact hjn (Or.inl hm)
  · rintro lst a x ⟨od, i, B, T⟩ hno
    have all : ∀ j, j < l.length → lst.getD j false = true := by
      intro j
      induction j using Nat.strongRecOn with
      | ind j ih =>
        intro hj
        obtain ⟨o, ho⟩ : ∃ o, l[j]? = some o := ⟨_, List.getElem?_eq_getElem hj⟩
        refine got_of (hno j o (by rw [get]; exact ho) (fun e he hb => ?_)) (by rw [T.ls]; exact hj)
        have := ok.lt j o ho e he hb
        exact ih e.on this (by omega)
    have hi : i = n := by
      rcases Nat.lt_or_ge i n with hlt | hge
      · exfalso
        have hlen := ok.len od T.mem
        obtain ⟨k, hk⟩ : ∃ k, od[i]? = some k := ⟨_, List.getElem?_eq_getElem (by omega)⟩
        have hkm := List.mem_of_getElem? hk
        obtain ⟨h1, h2⟩ := ok.rdm od T.mem k hkm
        have h3 := (T.mains k h2 h1).1 (all k h2)
        obtain ⟨m, hm⟩ := List.getElem?_of_mem h3
        have hmi : m < i := by have := (List.getElem?_eq_some_iff.1 hm).1; rw [List.length_take] at this; omega
        rw [List.getElem?_take_of_lt hmi] at hm
        have hnd := ok.nd od T.mem
        have := (List.getElem?_inj (by omega : m < od.length) hnd).1 (hm.trans hk.symm)
        omega
      · exact Nat.le_antisymm T.le hge
    have hT' := T.tree
    rw [hi, Nat.sub_self] at hT'
    have hab : a = B := act_ext T.size T.defers (fun j => T.agree j (fun r hr hl => by rw [all r (ok.rdl r hr)] at hl; cases hl))
    rw [hab]
    exact hT'
  · refine ⟨od0, 0, A, ⟨by simp, fun j o hj => ?_, hod0, Nat.zero_le _, fun k hk hkr => ?_, by simpa using hT, z1.symm, z1, z2.symm, fun j hj => ?_, fun r hr t ht => rfl, fun j hj => z3 j (fun r hr => hj r), fun _ => hC', fun j t hjr _ hjt => z3 t (fun r hr hd => hjr (by rw [ok.dst j r t hjt hd]; exact hr))⟩⟩
    · rw [getD_repl] at hj; cases hj
    · rw [getD_repl]; simp
    · exact (z3 j (fun r hr => hj r hr (getD_repl _ _))).symm
/-- Over worlds with new blocks alone. -/
theorem wpTreeI_mono {F : Fence} {f0 : Nat} {P : Program} {l : List Oper} {rd : List Nat} {ords : List (List Nat)} {C C' : World → Prop} {N : Act → World → Prop} (hC : ∀ x, C x → C' x) : ∀ (n : Nat) (p : List Nat) (A : Act) (x : World), wpTreeI F f0 P l rd ords C N n p A x → wpTreeI F f0 P l rd ords C' N n p A x
  | 0, p, A, x, h => h
  | n + 1, p, A, x, h => fun k hk o ho => by
    have := h k hk o ho
    unfold DoesI at this ⊢
    refine ⟨this.1, this.2.1, ?_⟩
    have this := this.2.2
    split at this
    · exact ⟨fun e => hC _ (this.1 e), wpTreeI_mono hC n _ _ _ this.2⟩
    · exact ⟨fun e => hC _ (this.1 e), wpTreeI_mono hC n _ _ _ this.2⟩
    · exact ⟨this.1, this.2.mono fun e x' ⟨v, h1, h2⟩ => ⟨v, h1, fun e => hC _ (h2.1 e), wpTreeI_mono hC n _ _ _ h2.2⟩⟩
    · exact ⟨this.1, this.2.mono fun e x' ⟨v, h1, h2⟩ => ⟨v, h1, fun e => hC _ (h2.1 e), wpTreeI_mono hC n _ _ _ h2.2⟩⟩
    · exact this
theorem wpIn_region_mk {F : Fence} {f0 : Nat} {P : Program} {id : Nat} {R : Exit → Act → World → Prop} {a0 : Act} {w : World} {l : List Oper} (rd : List Nat) (ords : List (List Nat)) (n : Nat) (lr : List Oper)
    (hm : P.follows .mixedOrders = true) (hB : mkB l rd ords n = true) (hlr : rd.filterMap (fun r => l[r]?) = lr) (hmx : maxB l a0.tmps.size = true)
    (hrd : wpQuiet P l.toArray (fun y => ∃ n : QW w, y = n.x) (fun A => ∀ x, Q w x → wpTreeI F f0 P l rd ords (fun x => Q w x) (fun A x => R .normal A x) n [] A x) lr a0) :
    (Code.region id l.toArray true).wpIn F f0 P R a0 w :=
  wpIn_region_mkC rd ords n lr (fun y => ∃ n : QW w, y = n.x) hm hB hlr hmx ⟨⟨w.drew, (Q.refl w).drew⟩, rfl⟩ (wpQuiet_mono (fun A h => wpTreeI_mono (fun x hx => ⟨⟨x, hx⟩, rfl⟩) _ _ _ _ (h w.drew (Q.refl w).drew)) lr a0 hrd)
theorem wpIn_region_mkP {F : Fence} {f0 : Nat} {P : Program} {id : Nat} {R : Exit → Act → World → Prop} {a0 : Act} {w : World} {l : List Oper} (rd : List Nat) (ords : List (List Nat)) (n : Nat) (lr : List Oper) (D : World → Prop)
    (hm : P.follows .mixedOrders = true) (hB : mkB l rd ords n = true) (hlr : rd.filterMap (fun r => l[r]?) = lr) (hmx : maxB l a0.tmps.size = true) (hD : D w.drew)
    (hrd : wpQuiet P l.toArray (fun y => ∃ n : CW D, y = n.x) (fun A => wpTreeI F f0 P l rd ords D (fun A x => R .normal A x) n [] A w.drew) lr a0) :
    (Code.region id l.toArray true).wpIn F f0 P R a0 w :=
  wpIn_region_mkC rd ords n lr (fun y => ∃ n : CW D, y = n.x) hm hB hlr hmx ⟨⟨w.drew, hD⟩, rfl⟩ (wpQuiet_mono (fun A h => wpTreeI_mono (fun x hx => ⟨⟨x, hx⟩, rfl⟩) _ _ _ _ h) lr a0 hrd)
section
variable {F : Fence} {f0 : Nat} {P : Program} {l : List Oper} {rd : List Nat} {ords : List (List Nat)} {C : World → Prop} {N : Act → World → Prop} {n : Nat} {p : List Nat} {A : Act} {x : World}
theorem itree1 (k : Nat) (hk : nexts ords p = [k]) {o : Oper} (ho : l[k]? = some o) (h : DoesI F f0 P o A.eval x (fun v x' => (fullB l rd k = false → C x') ∧ wpTreeI F f0 P l rd ords C N n (p ++ [k]) (A.put o.dst v) x')) : wpTreeI F f0 P l rd ords C N (n + 1) p A x := by
  intro k' hk' o' ho'
  rw [hk, List.mem_singleton] at hk'
  subst hk'
  rw [ho] at ho'
  injection ho' with ho'
  subst ho'
  exact h
/-- No call. -/
def plainB (o : Oper) : Bool := match o.op with | .call _ | .defer _ => false | _ => true
theorem plain_defer {o : Oper} (h : plainB o = true) : ∀ c, o.op ≠ .defer c := fun c hc => by unfold plainB at h; rw [hc] at h; cases h
theorem plain_about {o : Oper} {ρ : Operand → Value} (h : plainB o = true) : ∀ f, o.about P x ρ = some f → F.fn f := fun f hf => by
  unfold Oper.about at hf
  unfold plainB at h
  cases ho : o.op <;> rw [ho] at h hf <;> first | (cases h; done) | (simp at hf; done)
theorem idoes_value {o : Oper} {ρ : Operand → Value} {x' : World} {G : Value → World → Prop} {v : Value} (hp : plainB o = true) (hr : (execOp ρ o).run P x = .ok (.value v) x') (h : G v x') : DoesI F f0 P o ρ x G := ⟨plain_defer hp, plain_about hp, by rw [hr]; exact h⟩
theorem idoes_skip {o : Oper} {ρ : Operand → Value} {x' : World} {G : Value → World → Prop} (hp : plainB o = true) (hr : (execOp ρ o).run P x = .ok .skip x') (h : G undef x') : DoesI F f0 P o ρ x G := ⟨plain_defer hp, plain_about hp, by rw [hr]; exact h⟩
theorem itree_run (k : Nat) (hk : nexts ords p = [k]) {o : Oper} (ho : l[k]? = some o) (hp : plainB o = true) {v : Value} {x' : World} (hr : (execOp A.eval o).run P x = .ok (.value v) x') (hC : C x') (h : wpTreeI F f0 P l rd ords C N n (p ++ [k]) (A.put o.dst v) x') : wpTreeI F f0 P l rd ords C N (n + 1) p A x :=
  itree1 k hk ho (idoes_value hp hr ⟨fun _ => hC, h⟩)
theorem itree_runF (k : Nat) (hk : nexts ords p = [k]) {o : Oper} (ho : l[k]? = some o) (hp : plainB o = true) (hf : fullB l rd k = true) {v : Value} {x' : World} (hr : (execOp A.eval o).run P x = .ok (.value v) x') (h : wpTreeI F f0 P l rd ords C N n (p ++ [k]) (A.put o.dst v) x') : wpTreeI F f0 P l rd ords C N (n + 1) p A x :=
  itree1 k hk ho (idoes_value hp hr ⟨fun e => (by rw [hf] at e; cases e), h⟩)
theorem itree_skip (k : Nat) (hk : nexts ords p = [k]) {o : Oper} (ho : l[k]? = some o) (hp : plainB o = true) {x' : World} (hr : (execOp A.eval o).run P x = .ok .skip x') (hC : C x') (h : wpTreeI F f0 P l rd ords C N n (p ++ [k]) (A.put o.dst undef) x') : wpTreeI F f0 P l rd ords C N (n + 1) p A x :=
  itree1 k hk ho (idoes_skip hp hr ⟨fun _ => hC, h⟩)
theorem itree_skipF (k : Nat) (hk : nexts ords p = [k]) {o : Oper} (ho : l[k]? = some o) (hp : plainB o = true) (hf : fullB l rd k = true) {x' : World} (hr : (execOp A.eval o).run P x = .ok .skip x') (h : wpTreeI F f0 P l rd ords C N n (p ++ [k]) (A.put o.dst undef) x') : wpTreeI F f0 P l rd ords C N (n + 1) p A x :=
  itree1 k hk ho (idoes_skip hp hr ⟨fun e => (by rw [hf] at e; cases e), h⟩)
end
/-- In a fence that bars nothing: every function may be called, calls may lie as deep as they like. -/
structure Open (F : Fence) : Prop where
  fn : ∀ f, F.fn f
  dp : F.depth.isSome = false
section
variable {F : Fence} {f0 : Nat} {P : Program} {l : List Oper} {rd : List Nat} {ords : List (List Nat)} {C : World → Prop} {N : Act → World → Prop} {n : Nat} {p : List Nat} {A : Act} {x : World}
theorem itree_callG (hF : Open F) (k : Nat) (hk : nexts ords p = [k]) {o : Oper} (ho : l[k]? = some o) {f : FuncId} {vs : Array Value} (hd : ∀ c, o.op ≠ .defer c) (hr : (execOp A.eval o).run P x = .ok (.enter f vs) x) {G : Value → World → Prop} (hc : CallsIn F (f0 - 1) P f vs x fun e x' => ∃ v, e = .returned v ∧ G v x') (h : ∀ v x', G v x' → (fullB l rd k = false → C x') ∧ wpTreeI F f0 P l rd ords C N n (p ++ [k]) (A.put o.dst v) x') : wpTreeI F f0 P l rd ords C N (n + 1) p A x :=
  itree1 k hk ho ⟨hd, fun f _ => hF.fn f, by
    rw [hr]
    exact ⟨fun e => (by rw [hF.dp] at e; cases e), hc.mono fun e x' ⟨v, h1, h2⟩ => ⟨v, h1, h v x' h2⟩⟩⟩
theorem itree_round (hF : Open F) (k : Nat) (hk : nexts ords p = [k]) {o : Oper} (ho : l[k]? = some o) {g f : Nat} {ts : Array Value} {assign body : Code} {x1 : World} (hd : ∀ c, o.op ≠ .defer c) (hr : (execOp A.eval o).run P x = .ok (.round g f ts assign body) x1) {G : Value → World → Prop} (hc : RoundIn F (f0 - 1) P g f ts assign body x1 fun e x' => ∃ v, e = .returned v ∧ G v x') (h : ∀ v x', G v x' → (fullB l rd k = false → C x') ∧ wpTreeI F f0 P l rd ords C N n (p ++ [k]) (A.put o.dst v) x') : wpTreeI F f0 P l rd ords C N (n + 1) p A x :=
  itree1 k hk ho ⟨hd, fun f _ => hF.fn f, by
    rw [hr]
    exact ⟨fun e => (by rw [hF.dp] at e; cases e), hc.mono fun e x' ⟨v, h1, h2⟩ => ⟨v, h1, h v x' h2⟩⟩⟩
theorem itree_nil (h : N A x) : wpTreeI F f0 P l rd ords C N 0 p A x := h
end
theorem open_wide : Open Fence.wide := ⟨fun _ => trivial, rfl⟩
theorem open_round (g : Nat) : Open (Fence.wide.inRound g) := ⟨fun _ => trivial, rfl⟩
end Go.Proofs.Ytgaolakfgjmeiab
/- Lists told by a function. (Out of BlF, BlI.) -/
namespace Go.Proofs.Ytgaolakfgjmeiab
open Go.RowKit
set_option linter.unusedVariables false
set_option linter.unusedSimpArgs false

def tabB (n : Nat) (F : Nat → Nat) : List Nat := (List.range n).map F
theorem tabB_len (n : Nat) (F : Nat → Nat) : (tabB n F).length = n := by unfold tabB; simp
theorem tabB_at {n j : Nat} {F : Nat → Nat} (h : j < n) : (tabB n F).getD j 0 = F j := by unfold tabB; rw [List.getD_eq_getElem?_getD, List.getElem?_map, List.getElem?_range h]; rfl
theorem vr_uis {x : World} {g n : Nat} {F : Nat → Nat} (h : VR x g n (fun j => .int .u32 ((F j : Nat) : Int))) : UIs x g 0 (tabB n F) := fun i hi => by
  rw [tabB_len] at hi
  rw [Nat.zero_add, tabB_at hi]
  exact h.cell i hi
end Go.Proofs.Ytgaolakfgjmeiab
/- pyramid: rows and columns made anew. -/
namespace Go.Proofs.Ytgaolakfgjmeiab
open Go.RowKit Go.Shelf
set_option linter.unusedVariables false
set_option linter.unusedSimpArgs false
attribute [local go_sem] Oper.semAt_some

def acrF (L : Nat → Mx) (nr pa : Nat) (S : List Nat) (j : Nat) : Nat := (L (j % nr)).val (fun t => S.getD ((j / nr) * pa + t) 0)
def dwnF (L : Nat → Mx) (pa : Nat) (S : List Nat) (j : Nat) : Nat := (L (j / pa)).val (fun t => S.getD (t * pa + j % pa) 0)
set_option maxHeartbeats 1000000 in
set_option maxRecDepth 100000 in
theorem sized_any (a b n : Nat) (hn : n ≤ 1048576) (hab : a * b = n) (w : World) : Calls Try.prog 25 #[.int .i64 (a : Int), .int .i64 (b : Int)] w fun e w' => ∃ g, e = .returned (.agg #[.int .i64 (a : Int), .int .i64 (b : Int), .slice (some ⟨g, 0, none⟩) n n]) ∧ VR w' g n (fun _ => .int .u32 0) ∧ w.heap.size ≤ g ∧ Q w w' := by
  obtain ⟨M, hM, hV⟩ := make_vu n hn
  obtain ⟨w1, hw1⟩ : ∃ w1, w.alloc (.cells #[.int .i64 0, .int .i64 0, .slice none 0 0] 24) = w1 := ⟨_, rfl⟩
  have q1 : Q w w1 := by rw [← hw1]; exact (Q.refl w).cells _ _
  have s1 : w1.heap.size = w.heap.size + 1 := by rw [← hw1]; simp
  have r0 : w1.cell? ⟨w.heap.size, 0, none⟩ = some (.int .i64 0) := by rw [← hw1]; simp [go_sem]
  have r1 : w1.cell? ⟨w.heap.size, 1, none⟩ = some (.int .i64 0) := by rw [← hw1]; simp [go_sem]
  have r2 : w1.cell? ⟨w.heap.size, 2, none⟩ = some (.slice none 0 0) := by rw [← hw1]; simp [go_sem]
  have rf : ∀ j, w1.frozen? ⟨w.heap.size, j, none⟩ = false := fun j => by rw [← hw1]; simp [go_sem]
  have hMw := hM w1
  have hVw := hV w1
  rw [s1] at hMw hVw
  have q2 : Q w1 (w1.alloc (.cells M 30)) := (Q.refl w1).cells _ _
  generalize w1.alloc (.cells M 30) = w2 at hMw hVw q2
  have r0 := q2.cell r0
  have r1 := q2.cell r1
  have r2 := q2.cell r2
  have f0 : w2.frozen? ⟨w.heap.size, 0, none⟩ = false := by rw [q2.2]; exact rf 0
  have f1 : w2.frozen? ⟨w.heap.size, 1, none⟩ = false := by rw [q2.2]; exact rf 1
  have f2 : w2.frozen? ⟨w.heap.size, 2, none⟩ = false := by rw [q2.2]; exact rf 2
  obtain ⟨w5, hw5⟩ : ∃ w5, ((w2.setCell ⟨w.heap.size, 0, none⟩ (.int .i64 (a : Int))).setCell ⟨w.heap.size, 1, none⟩ (.int .i64 (b : Int))).setCell ⟨w.heap.size, 2, none⟩ (.slice (some ⟨w.heap.size + 1, 0, none⟩) n n) = w5 := ⟨_, rfl⟩
  have v0 : w5.cell? ⟨w.heap.size, 0, none⟩ = some (.int .i64 (a : Int)) := by rw [← hw5]; simp [go_sem, r0, r1, r2]
  have v1 : w5.cell? ⟨w.heap.size, 1, none⟩ = some (.int .i64 (b : Int)) := by rw [← hw5]; simp [go_sem, r0, r1, r2]
  have v2 : w5.cell? ⟨w.heap.size, 2, none⟩ = some (.slice (some ⟨w.heap.size + 1, 0, none⟩) n n) := by rw [← hw5]; simp [go_sem, r0, r1, r2]
  have HE : Hid (VR w5 (w.heap.size + 1) n (fun _ => .int .u32 0) ∧ Q w w5) := by
    rw [← hw5]
    have ne : w.heap.size ≠ w.heap.size + 1 := by omega
    exact ⟨((hVw.other ne _).other ne _).other ne _, (((q1.trans q2).set (Nat.le_refl _) _).set (Nat.le_refl _) _).set (Nat.le_refl _) _⟩
  have hml : (a : Int) * (b : Int) = (n : Int) := by rw [← Int.natCast_mul, hab]
  clear q1 q2 hVw hM hV rf hab s1
  go_enter Try.func25, Try.ntmps25
  go_wp2_with fail
  exact bodyPost_ret (v := .agg #[.int .i64 (a : Int), .int .i64 (b : Int), .slice (some ⟨w.heap.size + 1, 0, none⟩) n n]) (by simp [results, Try.results25, go_sem, v0, v1, v2]) rfl ⟨w.heap.size + 1, rfl, HE.out.1, by omega, HE.out.2⟩
/-- A plane's box. -/
structure PBx (x : World) (B a b : Nat) (v : Value) : Prop where
  c0 : x.cell? ⟨B, 0, none⟩ = some (.int .i64 (a : Int))
  c1 : x.cell? ⟨B, 1, none⟩ = some (.int .i64 (b : Int))
  c2 : x.cell? ⟨B, 2, none⟩ = some v
theorem PBx.next {x y : World} {B a b : Nat} {v : Value} (h : PBx x B a b v) (q : Q x y) : PBx y B a b v := ⟨q.cell h.c0, q.cell h.c1, q.cell h.c2⟩
theorem KeptIn.one {C : Nat → Prop} {x y : World} (h : KeptIn C x y) {b j : Nat} (hb : C b) {v : Value} (hv : x.cell? ⟨b, j, none⟩ = some v) : y.cell? ⟨b, j, none⟩ = some v := (h.cell (a := ⟨b, j, none⟩) hb).trans hv
theorem PBx.kept {C : Nat → Prop} {x y : World} {B a b : Nat} {v : Value} (h : PBx x B a b v) (k : KeptIn C x y) (hB : C B) : PBx y B a b v := ⟨k.one hB h.c0, k.one hB h.c1, k.one hB h.c2⟩
theorem VR.kept {C : Nat → Prop} {x y : World} {g n : Nat} {F : Nat → Value} (h : VR x g n F) (k : KeptIn C x y) (hg : C g) : VR y g n F := ⟨fun i hi => k.one hg (h.cell i hi), fun j => by
  have := h.free j
  unfold World.frozen? at this ⊢
  rw [k.block _ hg]
  exact this⟩
theorem Ent.kept {C : Nat → Prop} {x y : World} {gm i gb gf : Nat} {m : Mx} (h : Ent x gm i m gb gf) (k : KeptIn C x y) (h1 : C gm) (h2 : C gb) (h3 : C gf) : Ent y gm i m gb gf := ⟨k.one h1 h.c0, k.one h1 h.c1, k.one h1 h.c2, ⟨fun i hi => k.one h2 (h.p.wt i hi), fun i hi => k.one h3 (h.p.pl i hi)⟩⟩
theorem Ent.lt {x : World} {gm i gb gf : Nat} {m : Mx} (h : Ent x gm i m gb gf) : gm < x.heap.size ∧ gb < x.heap.size ∧ gf < x.heap.size := ⟨World.block_lt_of_cell? _ _ h.c0, World.block_lt_of_cell? _ _ (h.p.wt 0 (by omega)), World.block_lt_of_cell? _ _ (h.p.pl 0 (by omega))⟩
theorem same_setP (W : World) (g j : Nat) (v : Value) {D : Nat → Prop} (hD : D g) : Same D W (W.setCell ⟨g, j, none⟩ v) :=
  ⟨rfl, rfl, rfl, by simp, fun b _ hn => Below.heap_setCell _ _ _ _ (fun e => hn (e ▸ hD)), fun a => by rw [World.frozen?_setCell]⟩
theorem keptP_set (W : World) (g j : Nat) (v : Value) {C : Nat → Prop} (hC : ¬ C g) : KeptIn C W (W.setCell ⟨g, j, none⟩ v) :=
  ⟨by simp, fun b hb => Below.heap_setCell _ _ _ _ (fun e => hC (by have e : b = g := e; rw [← e]; exact hb))⟩
theorem KeptIn.reflP (C : Nat → Prop) (W : World) : KeptIn C W W := ⟨Nat.le_refl _, fun _ _ => rfl⟩
theorem KeptIn.of_qP {C : Nat → Prop} {W W' : World} (q : Q W W') (hC : ∀ b, C b → b < W.heap.size) : KeptIn C W W' := ⟨q.1.size, fun b hb => q.1.block b (hC b hb)⟩
theorem Qb.trans' {a b c : World} {D : Nat → Prop} (h : Qb a b) (k : Same D b c) (hD : ∀ x, D x → a.heap.size ≤ x) : Qb a c := by
  have h' : Below a.heap.size a b := h.1
  exact ⟨⟨k.os.trans h'.os, k.tape.trans h'.tape, k.output.trans h'.output, Nat.le_trans h'.size k.size, fun x hx => (k.block x (Nat.lt_of_lt_of_le hx h'.size) (fun e => by have := hD x e; omega)).trans (h'.block x hx)⟩, fun p => (k.frozen p).trans (h.2 p)⟩
theorem range_at {n : Nat} {pre rest : List Nat} {x : Nat} (h : List.range n = pre ++ x :: rest) : pre.length = x ∧ x < n := by
  have h1 : (List.range n)[pre.length]? = some x := by rw [h]; simp
  have hl : pre.length < n := by
    have := (List.getElem?_eq_some_iff.1 h1).1
    simpa using this
  rw [List.getElem?_range hl] at h1
  injection h1 with h1
  omega
set_option maxHeartbeats 4000000 in
set_option maxRecDepth 100000 in
theorem across_any (L : Nat → Mx) (pa pb nr n gm g0 o0 np c : Nat) (S : List Nat) (w : World) (hsz : Size pa pb) (hszr : Size nr pb) (hnp : np = pa * pb) (hn : nr * pb = n) (hS : S.length = np) (hb : ∀ i, S.getD i 0 < 4294967296) (hI : UIs w g0 o0 S) (hc : np ≤ c) (hL : MxL w gm nr L) (hO : ∀ i, (L i).Ok pa) :
    Calls Try.prog 30 #[.agg #[.int .i64 (pa : Int), .int .i64 (pb : Int), .slice (some ⟨g0, o0, none⟩) np c], .slice (some ⟨gm, 0, none⟩) nr nr] w fun e w' => ∃ gt, e = .returned (.agg #[.int .i64 (nr : Int), .int .i64 (pb : Int), .slice (some ⟨gt, 0, none⟩) n n]) ∧ VR w' gt n (fun j => .int .u32 ((acrF L nr pa S j : Nat) : Int)) ∧ w.heap.size ≤ gt ∧ gt < w'.heap.size ∧ Qb w w' := by
  have hn2 : n ≤ 65536 := by rw [← hn]; exact hszr.ab
  have CZ : Hid (∀ w : World, Calls Try.prog 25 #[.int .i64 (nr : Int), .int .i64 (pb : Int)] w fun e w' => ∃ g, e = .returned (.agg #[.int .i64 (nr : Int), .int .i64 (pb : Int), .slice (some ⟨g, 0, none⟩) n n]) ∧ VR w' g n (fun _ => .int .u32 0) ∧ w.heap.size ≤ g ∧ Q w w') := fun w => sized_any nr pb n (by omega) hn w
  obtain ⟨w1, hw1⟩ : ∃ w1, ((w.alloc (.cells #[.int .i64 (pa : Int), .int .i64 (pb : Int), .slice (some ⟨g0, o0, none⟩) np c] 24)).alloc (.cells #[.slice (some ⟨gm, 0, none⟩) nr nr] 55)).alloc (.cells #[.int .i64 0, .int .i64 0, .slice none 0 0] 24) = w1 := ⟨_, rfl⟩
  have q1 : Q w w1 := by rw [← hw1]; exact (((Q.refl w).cells _ _).cells _ _).cells _ _
  have s1 : w1.heap.size = w.heap.size + 3 := by rw [← hw1]; simp
  have p1 : PBx w1 w.heap.size pa pb (.slice (some ⟨g0, o0, none⟩) np c) := ⟨by rw [← hw1]; simp [go_sem], by rw [← hw1]; simp [go_sem], by rw [← hw1]; simp [go_sem]⟩
  have m1 : w1.cell? ⟨w.heap.size + 1, 0, none⟩ = some (.slice (some ⟨gm, 0, none⟩) nr nr) := by rw [← hw1]; simp [go_sem]
  have r0 : w1.cell? ⟨w.heap.size + 2, 0, none⟩ = some (.int .i64 0) := by rw [← hw1]; simp [go_sem]
  have r1 : w1.cell? ⟨w.heap.size + 2, 1, none⟩ = some (.int .i64 0) := by rw [← hw1]; simp [go_sem]
  have r2 : w1.cell? ⟨w.heap.size + 2, 2, none⟩ = some (.slice none 0 0) := by rw [← hw1]; simp [go_sem]
  have rf : ∀ j, w1.frozen? ⟨w.heap.size + 2, j, none⟩ = false := fun j => by rw [← hw1]; simp [go_sem]
  have H1 : Hid (Q w w1 ∧ w1.heap.size = w.heap.size + 3 ∧ PBx w1 w.heap.size pa pb (.slice (some ⟨g0, o0, none⟩) np c) ∧ w1.cell? ⟨w.heap.size + 1, 0, none⟩ = some (.slice (some ⟨gm, 0, none⟩) nr nr) ∧ VR w1 (w.heap.size + 2) 3 (fun j => if j = 2 then .slice none 0 0 else .int .i64 0)) := ⟨q1, s1, p1, m1, fun i hi => by
    have : i = 0 ∨ i = 1 ∨ i = 2 := by omega
    rcases this with rfl | rfl | rfl
    · exact r0
    · exact r1
    · exact r2, rf⟩
  have p1c1 := p1.c1
  have HN : Hid (np = pa * pb ∧ nr * pb = n ∧ S.length = np) := ⟨hnp, hn, hS⟩
  have hn1 : 1 ≤ n := by rw [← hn]; exact hszr.pos
  clear q1 s1 p1 r0 r1 r2 rf hnp hn hS
  refine (callsIn_wide (n := 0)).1 (callsIn_of_wp_marks Try.func30 rfl trivial ?_ rfl)
  simp only [Try.ntmps30, List.size_toArray, List.length_cons, List.length_nil, Nat.reduceAdd, Nat.reduceSub, Array.replicate_succ, Array.replicate_zero, List.push_toArray, List.append_toArray, List.nil_append, List.cons_append]
  gi_wp2
  refine ⟨trivial, rfl, (callsIn_wide.2 (CZ.out _)).mono ?_⟩
  rintro e w4 ⟨gt, rfl, v4, g4, q4⟩
  obtain ⟨w5, hw5⟩ : ∃ w5, w4.alloc (.cells #[.int .i64 (nr : Int), .int .i64 (pb : Int), .slice (some ⟨gt, 0, none⟩) n n] 24) = w5 := ⟨_, rfl⟩
  have q5 : Q w4 w5 := by rw [← hw5]; exact (Q.refl w4).cells _ _
  have t5 : PBx w5 w4.heap.size nr pb (.slice (some ⟨gt, 0, none⟩) n n) := ⟨by rw [← hw5]; simp [go_sem], by rw [← hw5]; simp [go_sem], by rw [← hw5]; simp [go_sem]⟩
  have HQ5 : Hid (Q w4 w5 ∧ PBx w5 w4.heap.size nr pb (.slice (some ⟨gt, 0, none⟩) n n)) := ⟨q5, t5⟩
  have t0 := t5.c0
  have t1 := t5.c1
  have s4 : gt < w4.heap.size := v4.lt hn1
  have H4 : Hid (VR w4 gt n (fun _ => .int .u32 0) ∧ w1.heap.size ≤ gt ∧ Q w1 w4 ∧ gt < w4.heap.size) := ⟨v4, g4, q4, s4⟩
  clear v4 g4 q4 q5 t5 s4
  gi_wp2
  refine ⟨trivial, rfl, (callsIn_wide.2 (places_any nr pb w5)).mono ?_⟩
  rintro e w6 ⟨rfl, q6, s6, d0, d1⟩
  clear hw5 t0 t1 p1c1 m1 hw1
  obtain ⟨Bt, hBt⟩ : ∃ Bt, w4.heap.size = Bt := ⟨_, rfl⟩
  have hlt : gt < w5.heap.size ∧ w5.heap.size + 2 = w6.heap.size ∧ Bt < w5.heap.size ∧ w.heap.size + 3 ≤ gt ∧ gt < Bt := by
    have a1 := HQ5.out.1.1.size
    have a2 := World.block_lt_of_cell? _ _ HQ5.out.2.c0
    have a3 := H4.out.2.1
    have a4 := H4.out.2.2.2
    have a5 := H1.out.2.1
    rw [← hBt]
    refine ⟨by omega, by omega, a2, by omega, a4⟩
  have q16 : Q w1 w6 := (H4.out.2.2.1.trans HQ5.out.1).trans q6
  have HF : Hid (UIs w6 g0 o0 S ∧ MxL w6 gm nr L ∧ PBx w6 w.heap.size pa pb (.slice (some ⟨g0, o0, none⟩) np c) ∧ w6.cell? ⟨w.heap.size + 1, 0, none⟩ = some (.slice (some ⟨gm, 0, none⟩) nr nr) ∧ PBx w6 Bt nr pb (.slice (some ⟨gt, 0, none⟩) n n) ∧ VR w6 (w.heap.size + 2) 3 (fun j => if j = 2 then .slice none 0 0 else .int .i64 0)) := by
    refine ⟨(hI.next H1.out.1).next q16, (hL.next H1.out.1).next q16, H1.out.2.2.1.next q16, q16.cell H1.out.2.2.2.1, ?_, H1.out.2.2.2.2.next q16⟩
    rw [← hBt]
    exact HQ5.out.2.next q6
  have HV6 : Hid (VR w6 gt n (fun _ => .int .u32 0)) := (H4.out.1.next HQ5.out.1).next q6
  have HQ6 : Hid (Q w w6) := H1.out.1.trans q16
  have HLT : Hid (gt < w5.heap.size ∧ w5.heap.size + 2 = w6.heap.size ∧ Bt < w5.heap.size ∧ w.heap.size + 3 ≤ gt ∧ gt < Bt) := hlt
  have HOLD : Hid (g0 < w.heap.size ∧ gm < w.heap.size ∧ (∀ i, i < nr → ∃ gb gf, Ent w6 gm i (L i) gb gf ∧ gb < w.heap.size ∧ gf < w.heap.size)) := by
    have hS := HN.out.2.2
    have hnp := HN.out.1
    have := hsz.pos
    refine ⟨World.block_lt_of_cell? _ _ (hI 0 (by omega)), ?_, fun i hi => ?_⟩
    · obtain ⟨gb, gf, he⟩ := hL 0 (by have := hszr.a1; omega)
      exact he.lt.1
    · obtain ⟨gb, gf, he⟩ := hL i hi
      exact ⟨gb, gf, (he.next H1.out.1).next q16, he.lt.2.1, he.lt.2.2⟩
  rw [hBt]
  clear H4 HQ5 H1 q16 CZ hL hI q6 hlt hBt
  gi_wp2
  refine range_fix (P := Try.prog) (gf := 42) (lb := #[.pointer (some ⟨w5.heap.size + 1, 0, none⟩), .pointer (some ⟨w5.heap.size, 0, none⟩)]) rfl (fun args w => by kernel_rfl) (places_it (w5.heap.size + 1) w5.heap.size nr pb hszr) ?pre ?rd ?ps
    (fun pre Wr => VR Wr gt n (sofar (fun j => .int .u32 ((acrF L nr pa S j : Nat) : Int)) (.int .u32 0) pre.length) ∧ KeptIn (fun b => b < w6.heap.size ∧ b ≠ gt) w6 Wr) (fun b => b = gt) ?hD ?hDR ?st ?start ?round ?done
  case pre =>
    intro Wr hk
    exact ⟨hk.one (show w5.heap.size + 1 < w6.heap.size by omega) d1, hk.one (show w5.heap.size < w6.heap.size by omega) d0⟩
  case rd => rintro b (rfl | rfl) <;> omega
  case ps => rintro x args B W ⟨rfl, _⟩; rfl
  case hD => rintro b rfl; have := HLT.out; omega
  case hDR => rintro b (rfl | rfl) h <;> (have := HLT.out; omega)
  case st =>
    rintro pre W W' ⟨h1, h2⟩ hk
    exact ⟨h1.kept hk (by have := HLT.out; omega), h2.trans (hk.mono fun b hb => hb.1)⟩
  case start => exact ⟨by rw [List.length_nil, sofar_zero]; exact HV6.out, KeptIn.reflP _ _⟩
  case round =>
    rintro l pre x rest W args B hl hlw hx ⟨hV, hK⟩ hs ⟨rfl, hB0⟩
    obtain ⟨x1, x2⟩ := range_at hx
    obtain ⟨xi, hxi⟩ : ∃ xi, x % nr = xi := ⟨_, rfl⟩
    obtain ⟨yi, hyi⟩ : ∃ yi, x / nr = yi := ⟨_, rfl⟩
    rw [hxi, hyi]
    have hxl : xi < nr := by rw [← hxi]; exact Nat.mod_lt _ (by have := hszr.a1; omega)
    have hyl : yi < pb := by rw [← hyi]; exact (row_lt x2).2.2
    obtain ⟨gb, gf, he, hgb, hgf⟩ := HOLD.out.2.2 xi hxl
    obtain ⟨m, hm⟩ : ∃ m, yi * pa = m := ⟨_, rfl⟩
    have hmn : m + pa ≤ np := by
      have : (yi + 1) * pa ≤ pb * pa := Nat.mul_le_mul_right _ hyl
      rw [Nat.add_mul, Nat.one_mul, Nat.mul_comm pb pa] at this
      have := HN.out.1
      omega
    have HX : Hid (pre.length = x ∧ x < n ∧ x % nr = xi ∧ x / nr = yi ∧ yi * pa = m) := ⟨x1, by rw [← HN.out.2.1]; exact x2, hxi, hyi, hm⟩
    have HRV : Hid (VR W gt n (sofar (fun j => .int .u32 ((acrF L nr pa S j : Nat) : Int)) (.int .u32 0) pre.length) ∧ KeptIn (fun b => b < w6.heap.size ∧ b ≠ gt) w6 W) := ⟨hV, hK⟩
    have HEN : Hid (Ent w6 gm xi (L xi) gb gf ∧ gb < w.heap.size ∧ gf < w.heap.size) := ⟨he, hgb, hgf⟩
    obtain ⟨W1, hW1⟩ : ∃ W1, W.alloc (.cells #[.int .i64 (xi : Int), .int .i64 (yi : Int)] 69) = W1 := ⟨_, rfl⟩
    have qW1 : Q W W1 := by rw [← hW1]; exact (Q.refl W).cells _ _
    have z0 : W1.cell? ⟨W.heap.size, 0, none⟩ = some (.int .i64 (xi : Int)) := by rw [← hW1]; simp [go_sem]
    have z1 : W1.cell? ⟨W.heap.size, 1, none⟩ = some (.int .i64 (yi : Int)) := by rw [← hW1]; simp [go_sem]
    have HZ : Hid (Q W W1 ∧ W1.cell? ⟨W.heap.size, 0, none⟩ = some (.int .i64 (xi : Int)) ∧ W1.cell? ⟨W.heap.size, 1, none⟩ = some (.int .i64 (yi : Int))) := ⟨qW1, z0, z1⟩
    have hmul : (yi : Int) * (pa : Int) = (m : Int) := by rw [← Int.natCast_mul, hm]
    clear hV hK hB0 x1 x2 hxi hyi hx he hgb hgf qW1 z0 z1 hm
    gi_wp2
    refine ⟨HZ.out.1, ?_⟩
    intro W2 hk2 hf2
    have HLTv := HLT.out
    have HKK : Hid (KeptIn (fun b => b < w6.heap.size ∧ b ≠ gt) w6 W2 ∧ VR W2 gt n (sofar (fun j => .int .u32 ((acrF L nr pa S j : Nat) : Int)) (.int .u32 0) pre.length) ∧ W2.cell? ⟨W.heap.size, 0, none⟩ = some (.int .i64 (xi : Int)) ∧ W2.cell? ⟨W.heap.size, 1, none⟩ = some (.int .i64 (yi : Int))) := by
      have kl : KeptIn (fun b => b < w6.heap.size ∧ b ≠ gt) W1 W2 := hk2.mono (fun b hb e => by subst e; have := hb.1; omega)
      refine ⟨(HRV.out.2.trans (KeptIn.of_qP HZ.out.1 (fun b hb => by have := hb.1; omega))).trans kl, (HRV.out.1.next HZ.out.1).kept hk2 (by omega), hk2.one (by omega) HZ.out.2.1, hk2.one (by omega) HZ.out.2.2⟩
    have k6 := HKK.out.1
    have he2 : Ent W2 gm xi (L xi) gb gf := HEN.out.1.kept k6 ⟨by have := HOLD.out; omega, by have := HOLD.out; omega⟩ ⟨by have := HEN.out; omega, by have := HEN.out; omega⟩ ⟨by have := HEN.out; omega, by have := HEN.out; omega⟩
    have n0 := qw_some W2
    have f0 := qw_cell (k6.one (b := Bt) ⟨by omega, by omega⟩ HF.out.2.2.2.2.1.c2)
    have f1 := qw_cell (k6.one (b := w.heap.size + 1) ⟨by omega, by omega⟩ HF.out.2.2.2.1)
    have f2 := qw_cell HKK.out.2.2.1
    have f3 := qw_cell HKK.out.2.2.2
    have f4 := qw_cell (k6.one (b := w.heap.size) ⟨by omega, by omega⟩ HF.out.2.2.1.c2)
    have f5 := qw_cell (k6.one (b := w.heap.size) ⟨by omega, by omega⟩ HF.out.2.2.1.c0)
    have f6 := qw_cell he2.c0
    have f7 := qw_cell he2.c1
    have f8 := qw_cell he2.c2
    have HE2 : Hid (Ent W2 gm xi (L xi) gb gf) := he2
    have HUI : Hid (UIs W2 g0 o0 S) := fun i hi => k6.one (b := g0) ⟨by have := HOLD.out; omega, by have := HOLD.out; omega⟩ (HF.out.1 i hi)
    obtain ⟨kk, hkk⟩ : ∃ kk, (L xi).k = kk := ⟨_, rfl⟩
    obtain ⟨fs, hfs⟩ : ∃ fs, floatOfInt .f64 (L xi).sm = fs := ⟨_, rfl⟩
    rw [hkk] at f6 f8
    rw [hfs] at f7
    have HKF : Hid ((L xi).k = kk ∧ floatOfInt .f64 (L xi).sm = fs) := ⟨hkk, hfs⟩
    have COF : Hid (∀ x2 : World, Q W2 x2 → Calls Try.prog 39 #[.agg #[.slice (some ⟨gb, 0, none⟩) (kk + 1) (kk + 1), .float .f64 fs, .slice (some ⟨gf, 0, none⟩) (kk + 1) (kk + 1)], .slice (some ⟨g0, o0 + m, none⟩) (np - m) (c - m), .int .i64 1] x2 fun e w' => ∃ v, e = .returned v ∧ v = .int .u32 ((acrF L nr pa S x : Nat) : Int) ∧ Q x2 w') := fun x2 q2 => by
      have := of_any (L xi) gb gf pa 1 g0 (o0 + m) (np - m) (c - m) (fun t => S.getD (m + t) 0) x2 (hO xi) (HE2.out.p.next q2) hsz.a2 (by decide) (fun i hi => ⟨by omega, by
        have h := q2.cell (HUI.out (m + i) (by have := HN.out.2.2; omega))
        rw [Nat.mul_one, Nat.add_assoc]
        exact h, hb _⟩) (by have := HN.out.1; have := hsz.ab; omega)
      rw [HKF.out.1, HKF.out.2] at this
      refine this.mono ?_
      rintro e w' ⟨rfl, q⟩
      refine ⟨_, rfl, ?_, q⟩
      unfold acrF
      rw [HX.out.2.2.1, HX.out.2.2.2.1, HX.out.2.2.2.2]
    have HFE : Hid (∀ (args : Array Value) (x : World), (callFunc 39 args).run Try.prog x = .ok (.enter 39 args) x) := fun args x => by kernel_rfl
    have hxl' : (xi : Int) < (nr : Int) := by omega
    have hwp : IntKind.i64.wrap (m : Int) = (m : Int) := by rw [IntKind.wrap_i64]; have := HN.out.1; have := hsz.ab; omega
    have hm1 : (m : Int) ≤ (np : Int) := by omega
    have hm2 : (m : Int) ≤ (c : Int) := by omega
    have hpa1 := hsz.a1
    have hm3 : (m : Int) < (np : Int) := by omega
    have hm4 : (m : Int) < (c : Int) := by omega
    have hm5 : m < c := by omega
    have HXN : Hid (x < n) := HX.out.2.1
    clear hkk hfs he2 k6 hk2 hf2 HLTv hpa1 hmn
    refine wpIn_block ?_
    refine wpIn_region_mk [0, 1, 2, 3, 4, 5, 6, 7, 8, 9, 10, 11, 12, 13, 14, 15] [[16, 17, 18]] 3 _ (by kernel_rfl) (by kernel_rfl) rfl (by kernel_rfl) ?_
    simp only [List.filterMap_cons, List.filterMap_nil, List.getElem?_cons_zero, List.getElem?_cons_succ]
    repeat (first | go_big_quiet_step (fail) | quiet_step (fail))
    refine wpQuiet_nil ?_
    intro x2 hx2
    refine itree_callG (open_round l) 16 rfl rfl (fun c h => by cases h) (run_fn 39 #[.tmp 27, .tmp 35, .const (.int .i64 1)] _ rfl HFE.out (vs := #[.agg #[.slice (some ⟨gb, 0, none⟩) (kk + 1) (kk + 1), .float .f64 fs, .slice (some ⟨gf, 0, none⟩) (kk + 1) (kk + 1)], .slice (some ⟨g0, o0 + m, none⟩) (np - m) (c - m), .int .i64 1]) (by simp [Act.eval, Act.put]; try omega)) (G := fun v w' => v = .int .u32 ((acrF L nr pa S x : Nat) : Int) ∧ Q x2 w') (CallsIn.inRound l (callsIn_wide.2 (COF.out x2 hx2))) ?_
    rintro v x3 ⟨rfl, q3⟩
    refine ⟨fun _ => hx2.trans q3, ?_⟩
    have hx23 := hx2.trans q3
    have V3 := HKK.out.2.1.next hx23
    obtain ⟨u, hu⟩ : ∃ u, x3.cell? ⟨gt, x, none⟩ = some u := ⟨_, V3.cell x HXN.out⟩
    have fu := V3.free x
    have hxn : x < n := HXN.out
    have hxn' : (x : Int) < (n : Int) := by omega
    refine itree_runF 17 rfl rfl rfl rfl (v := .pointer (some ⟨gt, x, none⟩)) (x' := x3) (by simp [execOp, go_sem, Act.eval, Act.put, hxn, hxn']) ?_
    refine itree_skipF 18 rfl rfl rfl rfl (x' := x3.setCell ⟨gt, x, none⟩ (.int .u32 ((acrF L nr pa S x : Nat) : Int))) (by simp [execOp, go_sem, Act.eval, Act.put, hu, fu]) ?_
    refine itree_nil ?_
    refine ⟨rfl, ?_, ?_, ?_⟩
    · exact (Same.of_q hx23 _).trans (same_setP x3 gt x _ (D := fun b => b = gt) rfl) (fun b hb => Or.inl hb)
    · rw [List.length_append, List.length_cons, List.length_nil, HX.out.1] 
      rw [HX.out.1] at V3
      exact V3.fill hxn rfl
    · exact (HKK.out.1.trans (KeptIn.of_qP hx23 (fun b hb => Nat.lt_of_lt_of_le hb.1 HKK.out.1.size))).trans (keptP_set x3 gt x _ (fun h => h.2 rfl))
  case done =>
    rintro E W hE hd hSm ⟨hV, hK⟩
    have HLTv := HLT.out
    have hVf : VR W gt n (fun j => .int .u32 ((acrF L nr pa S j : Nat) : Int)) := by
      rw [List.length_range, HN.out.2.1] at hV
      exact hV.full
    have t0 := hK.one (b := Bt) ⟨by omega, by omega⟩ HF.out.2.2.2.2.1.c0
    have t1 := hK.one (b := Bt) ⟨by omega, by omega⟩ HF.out.2.2.2.2.1.c1
    have t2 := hK.one (b := Bt) ⟨by omega, by omega⟩ HF.out.2.2.2.2.1.c2
    have hR := HF.out.2.2.2.2.2.kept hK (by omega)
    have r0 : W.cell? ⟨w.heap.size + 2, 0, none⟩ = some (.int .i64 0) := hR.cell 0 (by omega)
    have r1 : W.cell? ⟨w.heap.size + 2, 1, none⟩ = some (.int .i64 0) := hR.cell 1 (by omega)
    have r2 : W.cell? ⟨w.heap.size + 2, 2, none⟩ = some (.slice none 0 0) := hR.cell 2 (by omega)
    have f0 := hR.free 0
    have f1 := hR.free 1
    have f2 := hR.free 2
    obtain ⟨W5, hW5⟩ : ∃ W5, ((W.setCell ⟨w.heap.size + 2, 0, none⟩ (.int .i64 (nr : Int))).setCell ⟨w.heap.size + 2, 1, none⟩ (.int .i64 (pb : Int))).setCell ⟨w.heap.size + 2, 2, none⟩ (.slice (some ⟨gt, 0, none⟩) n n) = W5 := ⟨_, rfl⟩
    have hneE : w.heap.size + 2 ≠ E := by omega
    have v0 : (W5.putObj E (.deferred none)).cell? ⟨w.heap.size + 2, 0, none⟩ = some (.int .i64 (nr : Int)) := by rw [put_cell hneE, ← hW5]; simp [go_sem, r0, r1, r2]
    have v1 : (W5.putObj E (.deferred none)).cell? ⟨w.heap.size + 2, 1, none⟩ = some (.int .i64 (pb : Int)) := by rw [put_cell hneE, ← hW5]; simp [go_sem, r0, r1, r2]
    have v2 : (W5.putObj E (.deferred none)).cell? ⟨w.heap.size + 2, 2, none⟩ = some (.slice (some ⟨gt, 0, none⟩) n n) := by rw [put_cell hneE, ← hW5]; simp [go_sem, r0, r1, r2]
    have hdef : W5.heap[E]? = some (.deferred (some [])) := by
      rw [← hW5, Below.heap_setCell _ _ _ _ (by exact hneE.symm), Below.heap_setCell _ _ _ _ (by exact hneE.symm), Below.heap_setCell _ _ _ _ (by exact hneE.symm)]
      exact hd
    have HEND : Hid (VR (W5.putObj E (.deferred none)) gt n (fun j => .int .u32 ((acrF L nr pa S j : Nat) : Int)) ∧ w.heap.size ≤ gt ∧ gt < (W5.putObj E (.deferred none)).heap.size ∧ Qb w (W5.putObj E (.deferred none))) := by
      have nB : w.heap.size + 2 ≠ gt := by omega
      have hv5 : VR W5 gt n (fun j => .int .u32 ((acrF L nr pa S j : Nat) : Int)) := by rw [← hW5]; exact ((hVf.other nB _).other nB _).other nB _
      have hqb : Qb w W := HQ6.out.qb.trans' hSm (fun b hb => by omega)
      have hq5 : Qb w W5 := by rw [← hW5]; exact ((hqb.set (by show w.heap.size ≤ w.heap.size + 2; omega) _).set (by show w.heap.size ≤ w.heap.size + 2; omega) _).set (by show w.heap.size ≤ w.heap.size + 2; omega) _
      have hend := hv5.putO (E := E) (by omega) (.deferred none)
      exact ⟨hend, by omega, hend.lt hn1, hq5.put (by omega) _⟩
    clear hV hK hSm hVf hR HLTv hd hE
    gi_wp2
    refine ⟨by simp, .inl ⟨_, _, rfl, run_takeDeferred hdef, ?_⟩⟩
    exact ⟨.agg #[.int .i64 (nr : Int), .int .i64 (pb : Int), .slice (some ⟨gt, 0, none⟩) n n], by simp [results, Try.results30, go_sem, v0, v1, v2], gt, rfl, HEND.out⟩
end Go.Proofs.Ytgaolakfgjmeiab

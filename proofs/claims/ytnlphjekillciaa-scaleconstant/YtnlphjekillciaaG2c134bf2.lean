/- A region that draws its order: as RegO, but each operation has an interval of blocks of its own (those that it has made), and these lie apart. -/
import Derived.Test.YtnlphjekillciaaG0453886f
import Derived.Test.YtnlphjekillciaaG25d70dbc
namespace Go.Proofs.Ytnlphjekillciaa
open Go.RowKit
set_option linter.unusedVariables false
set_option linter.unusedSimpArgs false

/-- What is told of a value: others (deps) may be named, and the interval of blocks that were made. -/
structure Sp3 where
  p : Value → (Nat → Value) → Nat → Nat → World → Prop
  deps : List Nat
  st : ∀ {v : Value} {val val' : Nat → Value} {lo hi : Nat} {x x' : World}, p v val lo hi x → Q x x' → (∀ j ∈ deps, val' j = val j) → p v val' lo hi x'
def iV (u : Value) : Sp3 := ⟨fun v _ _ _ _ => v = u, [], fun h _ _ => h⟩
def iP (p : Value → Nat → Nat → World → Prop) (st : ∀ v lo hi x x', p v lo hi x → Q x x' → p v lo hi x') : Sp3 := ⟨fun v _ lo hi x => p v lo hi x, [], fun h q _ => st _ _ _ _ _ h q⟩
/-- Each of the first n operations fills a slot, and what is told of it names what it waits for. -/
def newBI (l : List Oper) (n : Nat) (D : List (List Nat)) (s : List Nat) : Bool := (D.length == n) && ((s.length == n) && ((decide (n ≤ l.length)) && (List.range n).all fun k => match l[k]? with
  | some o => (o.dst == s[k]?) && (D.getD k []).all fun j => decide (j < k) && o.after.toList.any fun e => Region.binds .any e && (e.on == j)
  | none => true))
structure FactsI (L : List Sp3) (w : World) (a0 : Act) (s : List Nat) (l : List Oper) (n : Nat) (lst : Array Bool) (a : Act) (x : World) (val : Nat → Value) (iv : Nat → Nat × Nat) : Prop where
  size : a.tmps.size = a0.tmps.size
  defers : a.defers = a0.defers
  other : ∀ j, j ∉ s → a.tmps[j]? = a0.tmps[j]?
  q : Q w x
  ls : lst.size = l.length
  post : ∀ k, n ≤ k → k < l.length → lst.getD k true = false
  closed : ∀ (j : Nat) (o : Oper), lst.getD j false = true → l[j]? = some o → ∀ e ∈ o.after, Region.binds .any e = true → lst.getD e.on false = true
  facts : ∀ i t sp, s[i]? = some t → L[i]? = some sp → lst.getD i false = true → a.tmps[t]? = some (val i) ∧ sp.p (val i) val (iv i).1 (iv i).2 x
  lt : ∀ i, i < n → lst.getD i false = true → w.heap.size ≤ (iv i).1 ∧ (iv i).2 ≤ x.heap.size
  apart : ∀ i j, i < n → j < n → i ≠ j → lst.getD i false = true → lst.getD j false = true → (iv i).2 ≤ (iv j).1 ∨ (iv j).2 ≤ (iv i).1
set_option maxHeartbeats 2000000 in
theorem wp_region_newI {P : Program} {id : Nat} {R : Exit → Act → World → Prop} {a0 : Act} {w : World} {l : List Oper} (n : Nat) (s : List Nat) (L : List Sp3) (D : List (List Nat))
    (hm : P.follows .mixedOrders = true) (hB : regB l n = true) (hN : newBI l n D s = true) (hD : L.map (·.deps) = D) (hd : s.Nodup) (hmax : ∀ t ∈ s, t < a0.tmps.size)
    (hop : ∀ (i t : Nat) (o : Oper) (sp : Sp3) (a : Act) (x : World) (val : Nat → Value), s[i]? = some t → l[i]? = some o → L[i]? = some sp → Q w x → (∀ j, j ∉ s → a.tmps[j]? = a0.tmps[j]?) → (∀ e ∈ o.after, Region.binds .any e = true → ∀ (s' : Sp3) t', L[e.on]? = some s' → s[e.on]? = some t' → a.tmps[t']? = some (val e.on) ∧ ∃ lo hi, s'.p (val e.on) val lo hi x) →
      Yld P R o a x t (fun v x' => sp.p v val x.heap.size x'.heap.size x'))
    (hend : ∀ (a : Act) x (val : Nat → Value) (iv : Nat → Nat × Nat), Q w x → a.tmps.size = a0.tmps.size → a.defers = a0.defers → (∀ j, j ∉ s → a.tmps[j]? = a0.tmps[j]?) → (∀ i t sp, s[i]? = some t → L[i]? = some sp → a.tmps[t]? = some (val i) ∧ sp.p (val i) val (iv i).1 (iv i).2 x) → (∀ i, i < n → w.heap.size ≤ (iv i).1 ∧ (iv i).2 ≤ x.heap.size) → (∀ i j, i < n → j < n → i ≠ j → (iv i).2 ≤ (iv j).1 ∨ (iv j).2 ≤ (iv i).1) → Shut (wpPost P R (l.drop n) a x)) :
    (Code.region id l.toArray true).wp P R a0 w := by
  have get : ∀ k, l.toArray[k]? = l[k]? := fun k => List.getElem?_toArray
  unfold newBI at hN
  simp only [Bool.and_eq_true, beq_iff_eq, decide_eq_true_eq] at hN
  obtain ⟨hDl, hsl, hnl, hall⟩ := hN
  have hLl : L.length = n := by rw [← hDl, ← hD]; simp
  have at_ : ∀ k o, k < n → l[k]? = some o → o.dst = s[k]? ∧ ∀ j ∈ D.getD k [], j < k ∧ ∃ e ∈ o.after, Region.binds .any e = true ∧ e.on = j := fun k o hkn hk => by
    have g := List.all_eq_true.1 hall k (List.mem_range.2 hkn)
    rw [hk] at g
    simp only [Bool.and_eq_true, beq_iff_eq] at g
    refine ⟨g.1, fun j hj => ?_⟩
    have h := List.all_eq_true.1 g.2 j hj
    rw [Bool.and_eq_true] at h
    obtain ⟨e, he, hb⟩ := List.any_eq_true.1 h.2
    rw [Bool.and_eq_true] at hb
    exact ⟨by simpa using h.1, e, by simpa using he, hb.1, by simpa using hb.2⟩
  have depsD : ∀ k sp, L[k]? = some sp → sp.deps = D.getD k [] := fun k sp hk => by
    rw [← hD, List.getD_eq_getElem?_getD, List.getElem?_map, hk]; rfl
  refine wp_region_inv (fun lst a x => (∃ val iv, FactsI L w a0 s l n lst a x val iv) ∨ ∃ k, n < k ∧ k ≤ l.length ∧ lst.size = l.length ∧ (∀ i, i < k → lst.getD i true = true) ∧ (∀ i, k ≤ i → i < l.length → lst.getD i true = false) ∧ (∀ (j : Nat) (o : Oper), lst.getD j false = true → l[j]? = some o → ∀ e ∈ o.after, Region.binds .any e = true → lst.getD e.on false = true) ∧ Shut (wpPost P R (l.drop k) a x)) hm ?_ ?_ ?_
  · have none_ : ∀ j, (Array.replicate l.toArray.size false).getD j false = false := fun j => by
      rw [Array.getD_eq_getD_getElem?, Array.getElem?_replicate]
      split <;> rfl
    refine Or.inl ⟨fun _ => undef, fun _ => (0, 0), rfl, rfl, fun _ _ => rfl, (Q.refl w).drew, by simp, fun k h1 h2 => ?_, fun j o hj _ => ?_, fun i t sp _ _ hl => ?_, fun i _ hl => ?_, fun i j _ _ _ hl => ?_⟩
    · rw [Array.getD_eq_getD_getElem?, Array.getElem?_replicate, if_pos (by simpa using h2)]; rfl
    · rw [none_] at hj; cases hj
    · rw [none_] at hl; cases hl
    · rw [none_] at hl; cases hl
    · rw [none_] at hl; cases hl
  · intro lst a x i o hI ho hl hdep
    rw [get] at ho
    obtain ⟨hg, hdl, hall'⟩ := regB_at hB ho
    have hil : i < l.length := (List.getElem?_eq_some_iff.1 ho).1
    refine ⟨hg, ?_⟩
    rcases hI with ⟨val, iv, T⟩ | ⟨k, hk1, hk2, hls, hk3, hk4, hkc, hw⟩
    · by_cases hin : i < n
      · obtain ⟨t, ht⟩ : ∃ t, s[i]? = some t := ⟨_, List.getElem?_eq_getElem (by omega)⟩
        obtain ⟨sp, hsp⟩ : ∃ sp, L[i]? = some sp := ⟨_, List.getElem?_eq_getElem (by omega)⟩
        have hts : t ∈ s := List.mem_of_getElem? ht
        have inj : ∀ j t', s[j]? = some t' → j ≠ i → t ≠ t' := fun j t' hj hne e => hne (by
          subst e
          obtain ⟨h1, h2⟩ := List.getElem?_eq_some_iff.1 hj
          obtain ⟨h3, h4⟩ := List.getElem?_eq_some_iff.1 ht
          exact (List.getElem_inj hd).1 (h2.trans h4.symm))
        obtain ⟨hdst, hdp⟩ := at_ i o hin ho
        have hd0 : lst.getD i false = false := not_got hl
        have hrun := hop i t o sp a x val ht ho hsp T.q T.other (fun e he hb s' t' hs' ht' => ⟨(T.facts e.on t' s' ht' hs' (hdep e he hb)).1, _, _, (T.facts e.on t' s' ht' hs' (hdep e he hb)).2⟩)
        refine Oper.wp_mono ?_ hrun.out
        rintro a' x' ⟨v, rfl, q', hf⟩
        refine Or.inl ⟨upd val i v, upd iv i (x.heap.size, x'.heap.size), ?_, T.defers, fun j hj => ?_, T.q.trans q', by rw [Array.size_setIfInBounds]; exact T.ls, fun k h1 h2 => ?_, closed_set ho T.closed hdep, fun j t' sj ht' hsj hlj => ?_, fun j hj hlj => ?_, fun j k hj hk hjk hlj hlk => ?_⟩
        · exact (Array.size_setIfInBounds).trans T.size
        · exact (Array.getElem?_setIfInBounds_ne (fun e => hj (by rw [← e]; exact hts))).trans (T.other j hj)
        · rw [set_ne (by omega)]; exact T.post k h1 h2
        · by_cases e : j = i
          · subst e
            rw [ht] at ht'
            injection ht' with ht'
            subst ht'
            rw [hsp] at hsj
            injection hsj with hsj
            subst hsj
            refine ⟨?_, ?_⟩
            · rw [upd_eq]; exact Array.getElem?_setIfInBounds_self_of_lt (by rw [T.size]; exact hmax t hts)
            · rw [upd_eq, upd_eq]
              refine sp.st hf (Q.refl x') (fun k hk => upd_ne _ _ ?_)
              rw [depsD j sp hsp] at hk
              have := (hdp k hk).1
              omega
          · rw [set_ne (fun e' => e e'.symm)] at hlj
            obtain ⟨h1, h2⟩ := T.facts j t' sj ht' hsj hlj
            rw [upd_ne _ _ e, upd_ne _ _ e]
            refine ⟨(Array.getElem?_setIfInBounds_ne (inj j t' ht' e)).trans h1, sj.st h2 q' (fun k hk => upd_ne _ _ ?_)⟩
            rw [depsD j sj hsj] at hk
            have hjn : j < n := by have := (List.getElem?_eq_some_iff.1 hsj).1; omega
            have hjl : l[j]? = some (l[j]'(by omega)) := List.getElem?_eq_getElem (by omega)
            obtain ⟨_, e2, he2, hb2, hk2⟩ := (at_ j _ hjn hjl).2 k hk
            have := T.closed j _ hlj hjl e2 he2 hb2
            intro ek
            rw [hk2, ek, hd0] at this
            cases this
        · by_cases e : j = i
          · subst e; rw [upd_eq]; exact ⟨T.q.1.size, Nat.le_refl _⟩
          · rw [set_ne (fun e' => e e'.symm)] at hlj
            rw [upd_ne _ _ e]
            have := T.lt j hj hlj
            have := q'.1.size
            omega
        · by_cases e : j = i
          · subst e
            have ek : k ≠ j := fun h => hjk h.symm
            rw [set_ne (fun e' => ek e'.symm)] at hlk
            rw [upd_eq, upd_ne _ _ ek]
            have := T.lt k hk hlk
            exact Or.inr this.2
          · rw [set_ne (fun e' => e e'.symm)] at hlj
            rw [upd_ne _ _ e]
            by_cases ek : k = i
            · subst ek
              rw [upd_eq]
              have := T.lt j hj hlj
              exact Or.inl this.2
            · rw [set_ne (fun e' => ek e'.symm)] at hlk
              rw [upd_ne _ _ ek]
              exact T.apart j k hj hk hjk hlj hlk
      · have hie : i = n := by
          rcases Nat.lt_or_ge n i with h | h
          · have h1 := deps_got T.closed hdep n (hall' (by omega) n h)
            have h2 := not_got (T.post n (Nat.le_refl _) (by omega))
            rw [h1] at h2
            cases h2
          · omega
        subst hie
        have hallg : ∀ j, j < i → lst.getD j false = true := fun j hj => deps_got T.closed hdep j (hall' (Nat.le_refl _) j hj)
        have hE := hend a x val iv T.q T.size T.defers T.other (fun j t sp ht hsp => T.facts j t sp ht hsp (hallg j (by have := (List.getElem?_eq_some_iff.1 hsp).1; omega))) (fun j hj => T.lt j hj (hallg j hj)) (fun j k hj hk hjk => T.apart j k hj hk hjk (hallg j hj) (hallg k hk))
        have hdr : l.drop i = o :: l.drop (i + 1) := by
          obtain ⟨h1, h2⟩ := List.getElem?_eq_some_iff.1 ho
          rw [List.drop_eq_getElem_cons h1, h2]
        rw [hdr] at hE
        refine Oper.wp_mono (fun a' x' h => Or.inr ⟨i + 1, by omega, by omega, by rw [Array.size_setIfInBounds]; exact T.ls, fun j hj => ?_, fun j h1 h2 => ?_, closed_set ho T.closed hdep, ⟨h⟩⟩) hE.out
        · by_cases e : i = j
          · subst e; exact set_eq (by rw [T.ls]; omega)
          · rw [set_ne e]
            have := hallg j (by omega)
            rw [Array.getD_eq_getD_getElem?] at this ⊢
            cases g : lst[j]? with
            | none => rfl
            | some b => rw [g] at this; exact this
        · rw [set_ne (by omega)]; exact T.post j (by omega) h2
    · have hie : i = k := by
        rcases Nat.lt_trichotomy i k with h | h | h
        · have := hk3 i h; rw [hl] at this; cases this
        · exact h
        · have h1 := deps_got hkc hdep k (hall' (by omega) k h)
          have h2 := not_got (hk4 k (Nat.le_refl _) (by omega))
          rw [h1] at h2
          cases h2
      subst hie
      have hdr : l.drop i = o :: l.drop (i + 1) := by
        obtain ⟨h1, h2⟩ := List.getElem?_eq_some_iff.1 ho
        rw [List.drop_eq_getElem_cons h1, h2]
      rw [hdr] at hw
      refine Oper.wp_mono (fun a' x' h => Or.inr ⟨i + 1, by omega, by omega, by rw [Array.size_setIfInBounds]; exact hls, fun j hj => ?_, fun j h1 h2 => ?_, closed_set ho hkc hdep, ⟨h⟩⟩) hw.out
      · by_cases e : i = j
        · subst e; exact set_eq (by rw [hls]; omega)
        · rw [set_ne e]; exact hk3 j (by omega)
      · rw [set_ne (by omega)]; exact hk4 j (by omega) h2
  · intro lst a x hI hno
    rcases hI with ⟨val, iv, T⟩ | ⟨k, hk1, hk2, hls, hk3, hk4, hkc, hw⟩
    · have all : ∀ j, j < n → lst.getD j false = true := by
        intro j
        induction j using Nat.strongRecOn with
        | ind j ih =>
          intro hj
          obtain ⟨o, ho⟩ : ∃ o, l[j]? = some o := ⟨_, List.getElem?_eq_getElem (by omega)⟩
          refine got_of (hno j o (by rw [get]; exact ho) (fun e he hb => ?_)) (by rw [T.ls]; omega)
          have := (regB_at hB ho).2.1 e he hb
          exact ih e.on this (by omega)
      by_cases hnl : n < l.length
      · exfalso
        obtain ⟨o, ho⟩ : ∃ o, l[n]? = some o := ⟨_, List.getElem?_eq_getElem hnl⟩
        have := hno n o (by rw [get]; exact ho) (fun e he hb => all e.on ((regB_at hB ho).2.1 e he hb))
        rw [T.post n (Nat.le_refl _) hnl] at this
        cases this
      · have hE := hend a x val iv T.q T.size T.defers T.other (fun j t sp ht hsp => T.facts j t sp ht hsp (all j (by have := (List.getElem?_eq_some_iff.1 hsp).1; omega))) (fun j hj => T.lt j hj (all j hj)) (fun j k hj hk hjk => T.apart j k hj hk hjk (all j hj) (all k hk))
        rw [List.drop_eq_nil_of_le (by omega)] at hE
        exact hE.out
    · by_cases hkl : k < l.length
      · exfalso
        obtain ⟨o, ho⟩ : ∃ o, l[k]? = some o := ⟨_, List.getElem?_eq_getElem hkl⟩
        have := hno k o (by rw [get]; exact ho) (fun e he hb => got_of (hk3 e.on ((regB_at hB ho).2.1 e he hb)) (by rw [hls]; have := (regB_at hB ho).2.1 e he hb; omega))
        rw [hk4 k (Nat.le_refl _) hkl] at this
        cases this
      · rw [List.drop_eq_nil_of_le (by omega)] at hw
        exact hw.out
end Go.Proofs.Ytnlphjekillciaa
/- span: the least place of all taps, and one more than the greatest one. -/
namespace Go.Proofs.Ytnlphjekillciaa
open Go.RowKit
set_option linter.unusedVariables false
set_option linter.unusedSimpArgs false

def headP (L : List (Int × Int)) : Int := (L.getD 0 (0, 0)).1
def lastP (L : List (Int × Int)) : Int := (L.getD (L.length - 1) (0, 0)).1
def fstS (Ls : List (List (Int × Int))) : Nat → Int
  | 0 => 1024
  | k + 1 => min (fstS Ls k) (headP (Ls.getD k []))
def endS (Ls : List (List (Int × Int))) : Nat → Int
  | 0 => 0
  | k + 1 => max (endS Ls k) (lastP (Ls.getD k []) + 1)
theorem pl_at {L : List (Int × Int)} {i : Nat} (hi : i < L.length) : (L.map Prod.fst).getD i 0 = (L.getD i (0, 0)).1 := by
  rw [List.getD_eq_getElem?_getD, List.getElem?_map, List.getD_eq_getElem?_getD, List.getElem?_eq_getElem hi]; rfl
theorem getD_mem {L : List (Int × Int)} {i : Nat} (hi : i < L.length) : L.getD i (0, 0) ∈ L := by
  rw [List.getD_eq_getElem?_getD, List.getElem?_eq_getElem hi]; exact List.getElem_mem hi
set_option maxHeartbeats 4000000 in
set_option maxRecDepth 100000 in
theorem span_any (v : Value) (Ls : List (List (Int × Int))) (m : Nat) (w : World) (hv : LnX w v Ls) (hn : Ls.length ≤ 100000) (hm : m ≤ 1024) (hL : ∀ L ∈ Ls, TOk m L) :
    Calls Try.prog 38 #[v] w fun e w' => e = .returned (.tuple #[.int .i64 (fstS Ls Ls.length), .int .i64 (endS Ls Ls.length)]) ∧ Q w w' := by
  obtain ⟨b, g, ⟨rfl, hbx, hr⟩⟩ := hv
  have HT : Hid (∀ (i : Nat) (L : List (Int × Int)) (W : World), Q w W → Ls[i]? = some L → Calls Try.prog 46 #[.int .i64 (i : Int), .pointer (some ⟨b, 0, none⟩)] W fun e w' => ∃ v, e = .returned v ∧ BlV w' v L ∧ Q W w') := fun i L W q hi => line_taps Ls b g i L W (q.cell hbx) (hr.next q) hi
  have HO : Hid (∀ L ∈ Ls, TOk m L) := hL
  have HBd : Hid (∀ k, k ≤ Ls.length → -1 ≤ fstS Ls k ∧ fstS Ls k ≤ 1024 ∧ 0 ≤ endS Ls k ∧ endS Ls k ≤ 1024) := fun k hk => by
    induction k with
    | zero => simp [fstS, endS]
    | succ k ih =>
      have := ih (by omega)
      have hmem : Ls.getD k [] ∈ Ls := by rw [List.getD_eq_getElem?_getD, List.getElem?_eq_getElem (by omega)]; exact List.getElem_mem _
      have ok := hL _ hmem
      have h1 := ok.pl _ (getD_mem (L := Ls.getD k []) (i := 0) (by have := ok.one; omega))
      have h2 := ok.pl _ (getD_mem (L := Ls.getD k []) (i := (Ls.getD k []).length - 1) (by have := ok.one; omega))
      unfold fstS endS headP lastP
      omega
  obtain ⟨N, hN⟩ : ∃ N, Ls.length = N := ⟨_, rfl⟩
  have HL : Hid (Ls.length = N) := hN
  rw [hN] at hn HBd ⊢
  obtain ⟨w1, hw1⟩ : ∃ w1, w.alloc (.cells #[.int .i64 (N : Int), .func (.func 46) #[] #[.pointer (some ⟨b, 0, none⟩)]] 63) = w1 := ⟨_, rfl⟩
  have q1 : Q w w1 := by rw [← hw1]; exact (Q.refl w).cells _ _
  have HQ1 : Hid (Q w w1) := q1
  have k0 : w1.cell? ⟨w.heap.size, 0, none⟩ = some (.int .i64 (N : Int)) := by rw [← hw1]; simp [go_sem]
  have k1 : w1.cell? ⟨w.heap.size, 1, none⟩ = some (.func (.func 46) #[] #[.pointer (some ⟨b, 0, none⟩)]) := by rw [← hw1]; simp [go_sem]
  have HK1 : Hid _ := k1
  clear hbx hr hL hN q1
  go_enter Try.func38, Try.ntmps38
  go_wp2_with fail
  go_loopg [2, 3, 4, 5, 8] N (fun gh s2 s3 s4 s5 s8 wr => ∃ (k : Nat) (f e : Int), s2 = .int .i64 f ∧ s3 = .int .i64 e ∧ s8 = .int .i64 (k : Int) ∧ k ≤ N ∧ gh = N - k ∧ Hid (f = fstS Ls k ∧ e = endS Ls k) ∧ Hid (Q w1 wr))
  case atStart => exact ⟨0, 1024, 0, rfl, rfl, rfl, Nat.zero_le _, rfl, ⟨rfl, rfl⟩, Q.refl _⟩
  case round =>
    obtain ⟨k, f, e, rfl, rfl, rfl, hk, rfl, HE, HQ⟩ := hrel
    by_cases hlt : k < N
    · have hltz : (k : Int) < (N : Int) := by omega
      obtain ⟨L, hLk⟩ : ∃ L, Ls[k]? = some L := ⟨_, List.getElem?_eq_getElem (by rw [HL.out]; exact hlt)⟩
      have C1 := HT.out k L wr (HQ1.out.trans HQ.out) hLk
      have kk := HQ.out.cell HK1.out
      have ok := HO.out L (List.mem_of_getElem? hLk)
      have hgL : Ls.getD k [] = L := by rw [List.getD_eq_getElem?_getD, hLk]; rfl
      have HE2 : Hid (min f (headP L) = fstS Ls (k + 1) ∧ max e (lastP L + 1) = endS Ls (k + 1)) := by
        show min f (headP L) = min (fstS Ls k) (headP (Ls.getD k [])) ∧ max e (lastP L + 1) = max (endS Ls k) (lastP (Ls.getD k []) + 1)
        rw [hgL, HE.out.1, HE.out.2]
        exact ⟨rfl, rfl⟩
      clear hLk hgL
      go_wp2_with fail
      refine C1.mono ?_
      rintro e1 w5 ⟨v5, rfl, ⟨vp, vw, rfl, hp, hvw⟩, q5⟩
      obtain ⟨aw, cw, rfl⟩ := hvw.form
      clear hvw
      obtain ⟨g1, o1, d1, rfl, hI1⟩ := hp.some (by rw [List.length_map]; exact ok.one)
      obtain ⟨n, hn'⟩ : ∃ n, L.length = n := ⟨_, rfl⟩
      obtain ⟨n', hn''⟩ : ∃ n', n = n' + 1 := ⟨n - 1, by have := ok.one; omega⟩
      rw [List.length_map, hn'] at hI1 ⊢
      have c0 := hI1 0 (by omega)
      have c1 := hI1 n' (by omega)
      rw [pl_at (by omega)] at c0 c1
      have e0 : (L.getD 0 (0, 0)).1 = headP L := rfl
      have e1 : (L.getD n' (0, 0)).1 = lastP L := by unfold lastP; rw [hn', hn'']; rfl
      rw [e0] at c0
      rw [e1] at c1
      have b0 := ok.pl _ (getD_mem (L := L) (i := n') (by omega))
      rw [e1] at b0
      generalize headP L = p0 at *
      generalize lastP L = p1 at *
      rw [Nat.add_zero] at c0
      have en : (n : Int) - 1 = (n' : Int) := by omega
      have hn2 : (n' : Int) < (n : Int) := by omega
      have hn3 : n' < n := by omega
      have hn4 : (0 : Int) < (n : Int) := by omega
      have hn5 : 0 < n := by omega
      have hmn : ∀ (ts : Array TypeId) (t : TypeId) (w : World), (Builtin.min_ ts t #[.int .i64 f, .int .i64 p0]).run Try.prog w = .ok (.int .i64 (min f p0)) w := fun ts t w => run_mn2 ts t _ _ w
      have hmx : ∀ (ts : Array TypeId) (t : TypeId) (w : World), (Builtin.max_ ts t #[.int .i64 e, .int .i64 (p1 + 1)]).run Try.prog w = .ok (.int .i64 (max e (p1 + 1))) w := fun ts t w => run_mx2 ts t _ _ w
      generalize min f p0 = f2 at *
      obtain ⟨p2, hp2⟩ : ∃ p2, p1 + 1 = p2 := ⟨_, rfl⟩
      have wp2 : IntKind.i64.wrap p2 = p2 := by rw [IntKind.wrap_i64]; omega
      have wn' : IntKind.i64.wrap (n' : Int) = (n' : Int) := by rw [IntKind.wrap_i64]; have := ok.few; omega
      have hnb : n ≤ 64 := by have := ok.few; omega
      rw [hp2] at hmx HE2
      generalize max e p2 = e2 at *
      have HQ5 : Hid (Q w1 w5) := HQ.out.trans q5
      generalize (L.map Prod.snd).length = ln at *
      have hfd : ∀ W : World, (Instr.field 88 (.agg #[.slice (some ⟨g1, o1, none⟩) n d1, .slice aw ln cw]) 0).run Try.prog W = .ok (.slice (some ⟨g1, o1, none⟩) n d1) W := fun _ => by kernel_rfl
      have n0 := qw_some w5
      have f0 := qw_cell c0
      have f1 := qw_cell c1
      clear C1 hp hI1 e0 e1 b0 hn' hn'' q5 HQ kk ok HE
      go_wp2_with fail
      refine wp_region_quiet_Q (by kernel_rfl) (by kernel_rfl) ?_
      repeat (first | go_big_quiet_step (fail) | quiet_step (fail))
      refine wpQuiet_nil ?_
      intro w6 hw6
      have HQ6 : Hid (Q w1 w6) := HQ5.out.trans (qw_out hw6)
      clear hw6 f0 f1 n0 c0 c1 hmn hmx
      go_wp2_with fail
      go_roundg (N - (k + 1))
      case measure => go_light; omega
      case rel => go_light; exact ⟨k + 1, f2, e2, rfl, rfl, by simp, by omega, rfl, HE2, HQ6⟩
    · have hge : ¬ (k : Int) < (N : Int) := by omega
      obtain rfl : k = N := by omega
      have HQ2 : Hid (Q w wr) := HQ1.out.trans HQ.out
      go_wp2_with fail
      go_ret2
      exact ⟨by rw [← HE.out.1, ← HE.out.2]; rfl, HQ2.out⟩
/-- All places lie in the span. -/
theorem span_in {Ls : List (List (Int × Int))} {m : Nat} (hL : ∀ L ∈ Ls, TOk m L ∧ L.Pairwise (fun x y => x.1 < y.1)) : ∀ k, k ≤ Ls.length → ∀ i L, i < k → Ls[i]? = some L → ∀ e ∈ L, fstS Ls k ≤ e.1 ∧ e.1 < endS Ls k := by
  intro k
  induction k with
  | zero => intro _ i L hi; omega
  | succ k ih =>
    intro hk i L hi hLi e he
    unfold fstS endS
    by_cases hik : i = k
    · subst hik
      have hg : Ls.getD i [] = L := by rw [List.getD_eq_getElem?_getD, hLi]; rfl
      rw [hg]
      obtain ⟨ok, hp⟩ := hL L (List.mem_of_getElem? hLi)
      obtain ⟨j, hj⟩ := List.getElem?_of_mem he
      obtain ⟨hjl, hje⟩ := List.getElem?_eq_some_iff.1 hj
      have h1 : headP L ≤ e.1 := by
        unfold headP
        rw [List.getD_eq_getElem?_getD, List.getElem?_eq_getElem (by omega)]
        rcases Nat.eq_zero_or_pos j with c | c
        · subst c; rw [← hje]; exact Int.le_refl _
        · have := List.pairwise_iff_getElem.1 hp 0 j (by omega) hjl c
          rw [hje] at this
          exact Int.le_of_lt this
      have h2 : e.1 ≤ lastP L := by
        unfold lastP
        rw [List.getD_eq_getElem?_getD, List.getElem?_eq_getElem (by omega)]
        rcases Nat.lt_or_ge j (L.length - 1) with c | c
        · have := List.pairwise_iff_getElem.1 hp j (L.length - 1) hjl (by omega) c
          rw [hje] at this
          exact Int.le_of_lt this
        · have : j = L.length - 1 := by omega
          subst this
          rw [← hje]; exact Int.le_refl _
      omega
    · have := ih (by omega) i L (by omega) hLi e he
      omega
theorem span_bd {Ls : List (List (Int × Int))} {m : Nat} (hL : ∀ L ∈ Ls, TOk m L) (hm : m ≤ 1024) : ∀ k, k ≤ Ls.length → 0 ≤ fstS Ls k ∧ endS Ls k ≤ (m : Int) ∧ 0 ≤ endS Ls k ∧ fstS Ls k ≤ 1024
  | 0, _ => ⟨(show (0 : Int) ≤ 1024 by decide), (show (0 : Int) ≤ (m : Int) by omega), (show (0 : Int) ≤ 0 by decide), (show (1024 : Int) ≤ 1024 by decide)⟩
  | k + 1, hk => by
    have ih := span_bd hL hm k (by omega)
    have hmem : Ls.getD k [] ∈ Ls := by rw [List.getD_eq_getElem?_getD, List.getElem?_eq_getElem (by omega)]; exact List.getElem_mem _
    have ok := hL _ hmem
    have h1 := ok.pl _ (getD_mem (L := Ls.getD k []) (i := 0) (by have := ok.one; omega))
    have h2 := ok.pl _ (getD_mem (L := Ls.getD k []) (i := (Ls.getD k []).length - 1) (by have := ok.one; omega))
    unfold fstS endS headP lastP
    refine ⟨by omega, by omega, by omega, by omega⟩
end Go.Proofs.Ytnlphjekillciaa

/- The statement RankPart: its walk. -/
import Derived.Test.YtikhmlcmmabapaaG57fae988
import Derived.Test.YtikhmlcmmabapaaG0b701d3b
import Derived.Test.YtikhmlcmmabapaaGf6c126f4
import Derived.Test.YtikhmlcmmabapaaGf4379e6c
import Derived.Test.YtikhmlcmmabapaaG744dc338
namespace Go.Proofs.Ytikhmlcmmabapaa
open Go.RowKit
set_option linter.unusedVariables false
set_option linter.unusedSimpArgs false

theorem pd_join {wx wy wz w' : World} {E0 : Int} {c d : Nat} {V : Nat → Nat} {a b a' b' : Int} {ad ad' : Option Addr} {m cc m' cc' : Nat} {E E' : Int} (D : Dans wx wy E0 c d V a b ad m cc E) (P : Pans wz w' E0 c d V a' b' ad' m' cc' E') (q : Qb wy w') (hB : E0 = 0 → c * d ≤ 65536) : ∃ S, a' = a ∧ b' = b ∧ m' = m ∧ USl w' (.slice ad' m' cc') S ∧ USl w' (.slice ad m cc) S ∧ S.length ≤ 65536 := by
  by_cases h : E0 = 0
  · obtain ⟨rfl, rfl, rfl, u⟩ := D.good h
    obtain ⟨g, rfl, rfl, rfl, rfl, rfl, v, _, _⟩ := P.good h
    refine ⟨prtL V (c * d), rfl, rfl, rfl, ?_, u.nextB q, by rw [prtL_len]; exact hB h⟩
    have hI : UIs w' g 0 (prtL V (c * d)) := fun i hi => by
      rw [prtL_len] at hi
      rw [Nat.zero_add, v.cell i hi]
      simp [prtL, List.getD_eq_getElem?_getD, hi]
    have := hI.usl (cap := c * d) (by rw [prtL_len]; exact Nat.le_refl _)
    rw [prtL_len] at this
    exact this
  · obtain ⟨rfl, rfl, rfl, rfl, rfl⟩ := D.bad h
    obtain ⟨rfl, rfl, rfl, rfl, rfl⟩ := P.bad h
    exact ⟨[], rfl, rfl, rfl, Or.inr ⟨_, _, rfl, rfl⟩, Or.inr ⟨_, _, rfl, rfl⟩, by decide⟩
end Go.Proofs.Ytikhmlcmmabapaa
/- The document's Plane of a rank. -/
namespace Go.Proofs.Ytikhmlcmmabapaa
open Go.RowKit
set_option linter.unusedVariables false
set_option linter.unusedSimpArgs false

theorem usl_put3 {x : World} {b : Nat} {v v0 v1 v2 : Value} {L : List Nat} (hb : ∀ o u, x.cell? ⟨b, o, none⟩ = some u → ∀ s : Int, u ≠ .int .u32 s) (h : USl x v L) : USl (put3 x b v0 v1 v2) v L := by
  rcases h with ⟨g, o, cap, rfl, hc, hI⟩ | h2
  · refine Or.inl ⟨g, o, cap, rfl, hc, fun i hi => ?_⟩
    have h1 := hI i hi
    have hne : b ≠ g := fun e => by subst e; exact hb _ _ h1 _ rfl
    unfold put3
    rw [World.cell?_setCell_other _ _ _ _ (fun e => hne (by injection e)), World.cell?_setCell_other _ _ _ _ (fun e => hne (by injection e)), World.cell?_setCell_other _ _ _ _ (fun e => hne (by injection e))]
    exact h1
  · exact Or.inr h2
set_option maxHeartbeats 8000000 in
set_option maxRecDepth 100000 in
theorem rdplane12_any (pw ph : Int) (ad : Option Addr) (n c : Nat) (S : List Nat) (bd W H k : Int) (w : World) (hU : USl w (.slice ad n c) S) (hS : S.length = n) (hSb : ∀ i, S.getD i 0 < 4294967296) (hn : n ≤ 9223372036854775807) :
    Calls Try.prog 8 #[.agg #[.int .i64 pw, .int .i64 ph, .slice ad n c], .int .i64 bd, .int .i64 W, .int .i64 H, .int .i64 k] w fun e w' => ∃ a b ad' m cc E, e = .returned (.tuple #[.agg #[.int .i64 a, .int .i64 b, .slice ad' m cc], .int .i64 E]) ∧ Dans w w' (rkE pw ph n bd W H k) pw.toNat ph.toNat (fun i => rnkV S pw.toNat ph.toNat bd.toNat W.toNat H.toNat k.toNat (i % pw.toNat) (i / pw.toNat)) a b ad' m cc E := by
  obtain ⟨w1, hw1⟩ : ∃ w1, w.alloc (.cells #[.int .i64 pw, .int .i64 ph, .slice ad n c] 24) = w1 := ⟨_, rfl⟩
  obtain ⟨w2, hw2⟩ : ∃ w2, w1.alloc (.cells #[.int .i64 0, .int .i64 0, .slice none 0 0] 24) = w2 := ⟨_, rfl⟩
  have q1 : Q w w1 := by rw [← hw1]; exact (Q.refl w).cells _ _
  have q2 : Q w1 w2 := by rw [← hw2]; exact (Q.refl w1).cells _ _
  have s1 : w1.heap.size = w.heap.size + 1 := by rw [← hw1]; simp
  have s2 : w2.heap.size = w1.heap.size + 1 := by rw [← hw2]; simp
  have p0 : w2.cell? ⟨w.heap.size, 0, none⟩ = some (.int .i64 pw) := q2.cell (by rw [← hw1]; simp [go_sem])
  have p1 : w2.cell? ⟨w.heap.size, 1, none⟩ = some (.int .i64 ph) := q2.cell (by rw [← hw1]; simp [go_sem])
  have p2 : w2.cell? ⟨w.heap.size, 2, none⟩ = some (.slice ad n c) := q2.cell (by rw [← hw1]; simp [go_sem])
  have HO : Hid ((w2.cell? ⟨w1.heap.size, 0, none⟩ = some (.int .i64 0) ∧ w2.cell? ⟨w1.heap.size, 1, none⟩ = some (.int .i64 0) ∧ w2.cell? ⟨w1.heap.size, 2, none⟩ = some (.slice none 0 0) ∧ ∀ j, w2.frozen? ⟨w1.heap.size, j, none⟩ = false) ∧ Q w w2 ∧ w.heap.size < w1.heap.size ∧ w1.heap.size < w2.heap.size) := by
    refine ⟨?_, q1.trans q2, by omega, by omega⟩
    rw [← hw2]
    exact ⟨by simp [go_sem], by simp [go_sem], by simp [go_sem], fun j => by simp [go_sem]⟩
  have HX : Hid (∀ x, Q w2 x → ∀ o u, x.cell? ⟨w1.heap.size, o, none⟩ = some u → ∀ s : Int, u ≠ .int .u32 s) := by
    intro x q o u h s e
    subst e
    rw [q.1.cell (p := ⟨w1.heap.size, o, none⟩) (by show w1.heap.size < _; omega), ← hw2] at h
    match o, h with
    | 0, h => simp [go_sem] at h
    | 1, h => simp [go_sem] at h
    | 2, h => simp [go_sem] at h
    | o + 3, h => simp [go_sem] at h
  have HR : Hid _ := rcheck12_any pw ph ad n c bd W H k hn w2
  have HU : Hid (USl w (.slice ad n c) S ∧ S.length = n ∧ ∀ i, S.getD i 0 < 4294967296) := ⟨hU, hS, hSb⟩
  have HA : Hid _ := fun x (q : Q w x) => rpart12_any pw ph ad n c S bd W H k 0 0 pw ph x (HU.out.1.next q) HU.out.2.1 HU.out.2.2 hn
  clear q1 q2 s1 s2 hU hS hSb
  by_cases hE : rkE pw ph n bd W H k = 0
  rotate_left
  · generalize (fun i => rnkV S pw.toNat ph.toNat bd.toNat W.toNat H.toNat k.toNat (i % pw.toNat) (i / pw.toNat)) = V
    obtain ⟨E, hEe⟩ : ∃ E, rkE pw ph n bd W H k = E := ⟨_, rfl⟩
    rw [hEe] at HR hE
    rw [hEe]
    have hEb : (E == 0) = false := by simp [hE]
    have hEn : (E != 0) = true := by simp [hE]
    have HE0 : Hid (E ≠ 0) := hE
    clear hEe hE HA
    go_enter Try.func8, Try.ntmps8
    go_wp2_with fail
    refine Calls.mono HR.out ?_
    rintro e w3 ⟨rfl, q3⟩
    have q2x := q3
    have o0 := q2x.cell HO.out.1.1
    have o1 := q2x.cell HO.out.1.2.1
    have o2 := q2x.cell HO.out.1.2.2.1
    have fo : ∀ j, w3.frozen? ⟨w1.heap.size, j, none⟩ = false := fun j => (q2x.2 _).trans (HO.out.1.2.2.2 j)
    have fo0 := fo 0
    have fo1 := fo 1
    have fo2 := fo 2
    have v0 := put3_c0 (v0 := (.int .i64 0)) (v1 := (.int .i64 0)) (v2 := (.slice none 0 0)) o0
    have v1 := put3_c1 (v0 := (.int .i64 0)) (v1 := (.int .i64 0)) (v2 := (.slice none 0 0)) o1
    have v2 := put3_c2 (v0 := (.int .i64 0)) (v1 := (.int .i64 0)) (v2 := (.slice none 0 0)) o2
    have HW : Hid (Q w (put3 w3 w1.heap.size (.int .i64 0) (.int .i64 0) (.slice none 0 0))) := put3_q (HO.out.2.1.trans q2x) (by have := HO.out.2.2.1; omega) _ _ _
    obtain ⟨w9, hw9⟩ : ∃ w9, put3 w3 w1.heap.size (.int .i64 0) (.int .i64 0) (.slice none 0 0) = w9 := ⟨_, rfl⟩
    rw [hw9] at HW v0 v1 v2
    have HW9 : Hid (put3 w3 w1.heap.size (.int .i64 0) (.int .i64 0) (.slice none 0 0) = w9) := hw9
    clear q2x q3 fo hw9
    go_wp2_with fail
    have h9 : ((w3.setCell ⟨w1.heap.size, 0, none⟩ (.int .i64 0)).setCell ⟨w1.heap.size, 1, none⟩ (.int .i64 0)).setCell ⟨w1.heap.size, 2, none⟩ (.slice none 0 0) = w9 := HW9.out
    rw [h9]
    exact bodyPost_ret (v := .tuple #[.agg #[(.int .i64 0), (.int .i64 0), (.slice none 0 0)], (.int .i64 E)]) (by simp [results, Try.results8, go_sem, v0, v1, v2]) rfl ⟨_, _, _, _, _, _, rfl, ⟨HW.out, rfl, fun _ => ⟨rfl, rfl, rfl, rfl, rfl⟩, fun e => absurd e HE0.out⟩⟩
  have hpe : paE pw ph n bd W H k 0 0 pw ph = 0 := by
    obtain ⟨pa, pb, b, wa, ha, kk, rfl, rfl, rfl, rfl, rfl, rfl, hsz, _⟩ := rkE_ok hE
    unfold paE
    rw [if_pos hE, if_pos]
    have h1 := hsz.a1
    have h2 := hsz.b1
    simp [spnB]
    omega
  rw [hpe] at HA
  rw [hE] at HR
  rw [hE]
  simp only [Int.sub_zero, Int.toNat_zero, Nat.zero_add] at HA
  generalize (fun i => rnkV S pw.toNat ph.toNat bd.toNat W.toNat H.toNat k.toNat (i % pw.toNat) (i / pw.toNat)) = V at HA ⊢
  clear hpe hE
  go_enter Try.func8, Try.ntmps8
  go_wp2_with fail
  refine Calls.mono HR.out ?_
  rintro e w3 ⟨rfl, q3⟩
  have p0 := q3.cell p0
  have p1 := q3.cell p1
  have p2 := q3.cell p2
  have HQ3 : Hid (Q w2 w3) := q3
  clear q3
  go_wp2_with fail
  refine Calls.mono (HA.out _ (HO.out.2.1.trans HQ3.out)) ?_
  rintro e w4 ⟨a, b, ad4, m, cc, E, rfl, D4⟩
  obtain rfl := D4.e
  have q2x : Q w2 w4 := HQ3.out.trans D4.q
  have HG : Hid (a = (pw.toNat : Int) ∧ b = (ph.toNat : Int) ∧ m = pw.toNat * ph.toNat ∧ USl (put3 w4 w1.heap.size (.int .i64 a) (.int .i64 b) (.slice ad4 m cc)) (.slice ad4 m cc) (prtL V (pw.toNat * ph.toNat))) := by
    obtain ⟨g1, g2, g3, g4⟩ := D4.good rfl
    exact ⟨g1, g2, g3, usl_put3 (HX.out _ q2x) g4⟩
  clear D4
  have o0 := q2x.cell HO.out.1.1
  have o1 := q2x.cell HO.out.1.2.1
  have o2 := q2x.cell HO.out.1.2.2.1
  have fo : ∀ j, w4.frozen? ⟨w1.heap.size, j, none⟩ = false := fun j => (q2x.2 _).trans (HO.out.1.2.2.2 j)
  have fo0 := fo 0
  have fo1 := fo 1
  have fo2 := fo 2
  have v0 := put3_c0 (v0 := (.int .i64 a)) (v1 := (.int .i64 b)) (v2 := (.slice ad4 m cc)) o0
  have v1 := put3_c1 (v0 := (.int .i64 a)) (v1 := (.int .i64 b)) (v2 := (.slice ad4 m cc)) o1
  have v2 := put3_c2 (v0 := (.int .i64 a)) (v1 := (.int .i64 b)) (v2 := (.slice ad4 m cc)) o2
  have HW : Hid (Q w (put3 w4 w1.heap.size (.int .i64 a) (.int .i64 b) (.slice ad4 m cc))) := put3_q (HO.out.2.1.trans q2x) (by have := HO.out.2.2.1; omega) _ _ _
  obtain ⟨w9, hw9⟩ : ∃ w9, put3 w4 w1.heap.size (.int .i64 a) (.int .i64 b) (.slice ad4 m cc) = w9 := ⟨_, rfl⟩
  rw [hw9] at HW v0 v1 v2 HG
  have HW9 : Hid (put3 w4 w1.heap.size (.int .i64 a) (.int .i64 b) (.slice ad4 m cc) = w9) := hw9
  clear q2x fo hw9
  go_wp2_with fail
  have h9 : ((w4.setCell ⟨w1.heap.size, 0, none⟩ (.int .i64 a)).setCell ⟨w1.heap.size, 1, none⟩ (.int .i64 b)).setCell ⟨w1.heap.size, 2, none⟩ (.slice ad4 m cc) = w9 := HW9.out
  rw [h9]
  exact bodyPost_ret (v := .tuple #[.agg #[(.int .i64 a), (.int .i64 b), (.slice ad4 m cc)], (.int .i64 0)]) (by simp [results, Try.results8, go_sem, v0, v1, v2]) rfl ⟨_, _, _, _, _, _, rfl, ⟨HW.out, rfl, fun e => absurd rfl e, fun _ => HG.out⟩⟩
end Go.Proofs.Ytikhmlcmmabapaa
/- Regions that draw their order, whose last operation waits for all others: one walk in the order of the text, and then the last operation. -/
namespace Go.Proofs.Ytikhmlcmmabapaa
open Go.RowKit
set_option linter.unusedVariables false

/-- The last operation waits for all others; each of these waits for earlier ones alone; none is guarded. -/
def lastB (pre : List Oper) (st : Oper) : Bool :=
  ((List.range pre.length).all fun k => match pre[k]? with
    | some o => o.guard.isNone && o.after.toList.all fun e => !(Region.binds .any e) || decide (e.on < k)
    | none => true) &&
  ((st.guard.isNone && st.after.toList.all fun e => !(Region.binds .any e) || decide (e.on < pre.length)) && (List.range pre.length).all fun k => st.after.toList.any fun e => Region.binds .any e && (e.on == k))
theorem lastB_pre {pre : List Oper} {st : Oper} (h : lastB pre st = true) {k : Nat} {o : Oper} (hk : pre[k]? = some o) : o.guard = none ∧ ∀ e ∈ o.after, Region.binds .any e = true → e.on < k := by
  unfold lastB at h
  rw [Bool.and_eq_true] at h
  have hlt : k < pre.length := (List.getElem?_eq_some_iff.1 hk).1
  have h1 := List.all_eq_true.1 h.1 k (List.mem_range.2 hlt)
  rw [hk] at h1
  simp only [Bool.and_eq_true] at h1
  refine ⟨by simpa using h1.1, fun e he hb => ?_⟩
  have h2 := List.all_eq_true.1 h1.2 e (by simpa using he)
  rw [hb] at h2
  simpa using h2
theorem lastB_st {pre : List Oper} {st : Oper} (h : lastB pre st = true) : st.guard = none ∧ (∀ k, k < pre.length → ∃ e ∈ st.after, Region.binds .any e = true ∧ e.on = k) ∧ ∀ e ∈ st.after, Region.binds .any e = true → e.on < pre.length := by
  unfold lastB at h
  simp only [Bool.and_eq_true] at h
  refine ⟨by simpa using h.2.1.1, fun k hk => ?_, fun e he hb => ?_⟩
  rotate_left
  · have h2 := List.all_eq_true.1 h.2.1.2 e (by simpa using he)
    rw [hb] at h2
    simpa using h2
  have h1 := List.all_eq_true.1 h.2.2 k (List.mem_range.2 hk)
  obtain ⟨e, he, h2⟩ := List.any_eq_true.1 h1
  rw [Bool.and_eq_true] at h2
  exact ⟨e, by simpa using he, h2.1, by simpa using h2.2⟩
theorem push_getD_lt (l : Array Bool) (d : Bool) {i : Nat} (h : i < l.size) : (l.push false).getD i d = l.getD i d := by
  rw [Array.getD_eq_getD_getElem?, Array.getD_eq_getD_getElem?, Array.getElem?_push_lt h, Array.getElem?_eq_getElem h]
theorem push_getD_eq (l : Array Bool) (d : Bool) : (l.push false).getD l.size d = false := by
  rw [Array.getD_eq_getD_getElem?, Array.getElem?_push_size]; rfl
theorem ops_lt {pre : List Oper} {st : Oper} {i : Nat} (h : i < pre.length) : (pre ++ [st]).toArray[i]? = pre.toArray[i]? := by
  simp [List.getElem?_append_left h]
theorem ready_lt {pre : List Oper} {st : Oper} (hB : lastB pre st = true) {listed : Array Bool} (hs : listed.size = pre.length) {i : Nat} (hi : i ∈ Region.ready .any (pre ++ [st]).toArray (listed.push false)) :
    (i < pre.length ∧ i ∈ Region.ready .any pre.toArray listed) ∨ (i = pre.length ∧ ∀ k, k < pre.length → listed.getD k false = true) := by
  obtain ⟨h1, o, ho, h2⟩ := mem_ready.1 hi
  rcases Nat.lt_trichotomy i pre.length with h | h | h
  · left
    refine ⟨h, mem_ready.2 ⟨?_, o, ?_, fun e he hb => ?_⟩⟩
    · rw [← push_getD_lt listed true (by omega)]; exact h1
    · rw [← ops_lt (st := st) h]; exact ho
    · have hk : pre[i]? = some o := by rw [ops_lt h] at ho; simpa using ho
      have := (lastB_pre hB hk).2 e he hb
      rw [← push_getD_lt listed false (by omega)]
      exact h2 e he hb
  · right
    refine ⟨h, fun k hk => ?_⟩
    have hst : o = st := by
      rw [h] at ho
      simp at ho
      exact ho.symm
    subst hst
    obtain ⟨e, he, hb, rfl⟩ := (lastB_st hB).2.1 k hk
    rw [← push_getD_lt listed false (by omega)]
    exact h2 e he hb
  · exfalso
    rw [List.getElem?_toArray, List.getElem?_eq_none (by simp; omega)] at ho
    cases ho
theorem ready_back {pre : List Oper} {st : Oper} (hB : lastB pre st = true) {listed : Array Bool} (hs : listed.size = pre.length) {i : Nat} (hi : i ∈ Region.ready .any pre.toArray listed) : i ∈ Region.ready .any (pre ++ [st]).toArray (listed.push false) := by
  obtain ⟨h1, o, ho, h2⟩ := mem_ready.1 hi
  have h : i < pre.length := by
    have := (List.getElem?_eq_some_iff.1 (show pre[i]? = some o by simpa using ho)).1
    exact this
  refine mem_ready.2 ⟨?_, o, ?_, fun e he hb => ?_⟩
  · rw [push_getD_lt listed true (by omega)]; exact h1
  · rw [ops_lt h]; exact ho
  · have hk : pre[i]? = some o := by simpa using ho
    have := (lastB_pre hB hk).2 e he hb
    rw [push_getD_lt listed false (by omega)]
    exact h2 e he hb
theorem ready_nil {pre : List Oper} {st : Oper} (hB : lastB pre st = true) {listed : Array Bool} (hs : listed.size = pre.length) (hr : Region.ready .any pre.toArray listed = []) : ∀ k, k < pre.length → listed.getD k false = true := by
  intro k
  induction k using Nat.strongRecOn with
  | ind k ih =>
    intro hk
    have hk' : k < listed.size := by omega
    cases hl : listed.getD k false with
    | true => rfl
    | false =>
      exfalso
      obtain ⟨o, ho⟩ : ∃ o, pre[k]? = some o := ⟨_, List.getElem?_eq_getElem hk⟩
      have : k ∈ Region.ready .any pre.toArray listed := by
        refine mem_ready.2 ⟨?_, o, by simpa using ho, fun e he hb => ?_⟩
        · rw [Array.getD_eq_getD_getElem?, Array.getElem?_eq_getElem hk'] at hl ⊢; exact hl
        · have := (lastB_pre hB ho).2 e he hb
          exact ih e.on this (by omega)
      rw [hr] at this
      cases this
theorem push_set (l : Array Bool) {i : Nat} (h : i < l.size) : (l.push false).setIfInBounds i true = (l.setIfInBounds i true).push false := by
  apply Array.ext_getElem?
  intro j
  rw [Array.getElem?_setIfInBounds, Array.getElem?_push, Array.getElem?_push, Array.getElem?_setIfInBounds]
  simp only [Array.size_push, Array.size_setIfInBounds]
  by_cases e : i = j
  · subst e
    have h3 : ¬ i = l.size := by omega
    have h4 : i < l.size + 1 := by omega
    simp [h, h3, h4]
  · simp [e]
theorem wpAny_done {P : Program} {ops : Array Oper} {Q' : Exit → Act → World → Prop} {listed : Array Bool} (hr : Region.ready .any ops listed = []) {a : Act} {w : World} (h : Q' .normal a w) : ∀ f, wpAny P .any ops Q' f listed a w
  | 0 => ⟨hr, h⟩
  | f + 1 => ⟨fun _ => h, fun i hi => by rw [hr] at hi; cases hi⟩
theorem wpAny_last {P : Program} {pre : List Oper} {st : Oper} {C : World → Prop} {Q : Act → Prop} {Q' : Exit → Act → World → Prop} (hB : lastB pre st = true)
    (hQ : ∀ a w, C w → Q a → st.wp P a w (fun a' w' => Q' .normal a' w') Q') : ∀ (fuel : Nat) (listed : Array Bool) (a : Act) (w : World), listed.size = pre.length → C w →
    wpAnyQ P .any pre.toArray C Q fuel listed a → wpAny P .any (pre ++ [st]).toArray Q' (fuel + 1) (listed.push false) a w := by
  have done : ∀ (fuel : Nat) (listed : Array Bool) (a : Act) (w : World), listed.size = pre.length → C w → (∀ k, k < pre.length → listed.getD k false = true) → Q a → wpAny P .any (pre ++ [st]).toArray Q' (fuel + 1) (listed.push false) a w := by
    intro fuel listed a w hs hC hall hq
    obtain ⟨g1, g2, g3⟩ := lastB_st hB
    have hrn : pre.length ∈ Region.ready .any (pre ++ [st]).toArray (listed.push false) := by
      refine mem_ready.2 ⟨?_, st, by simp, fun e he hb => ?_⟩
      · rw [← hs]; exact push_getD_eq _ _
      · have := g3 e he hb
        rw [push_getD_lt listed false (by omega)]
        exact hall _ this
    refine ⟨fun hr => (by rw [hr] at hrn; cases hrn), fun i hi => ?_⟩
    have hin : i = pre.length := by
      rcases ready_lt hB hs hi with ⟨h1, h2⟩ | ⟨h1, _⟩
      · exfalso
        obtain ⟨h3, _⟩ := mem_ready.1 h2
        have h4 := hall i h1
        rw [Array.getD_eq_getD_getElem?, Array.getElem?_eq_getElem (by omega)] at h3 h4
        simp at h3 h4
        rw [h4] at h3
        cases h3
      · exact h1
    subst hin
    unfold wpOp
    have hget : (pre ++ [st]).toArray[pre.length]? = some st := by simp
    rw [hget]
    simp only
    rw [if_pos (by unfold Region.wanted; rw [g1])]
    refine Or.inl (Oper.wp_mono (fun a' w' h => ?_) (hQ a w hC hq))
    refine wpAny_done ?_ h fuel
    cases hrr : Region.ready .any (pre ++ [st]).toArray ((listed.push false).setIfInBounds pre.length true) with
    | nil => rfl
    | cons j js =>
      exfalso
      have hj : j ∈ Region.ready .any (pre ++ [st]).toArray ((listed.push false).setIfInBounds pre.length true) := by rw [hrr]; exact List.mem_cons_self
      obtain ⟨h3, o, ho, _⟩ := mem_ready.1 hj
      have hj2 : j < (pre ++ [st]).length := by
        have := (List.getElem?_eq_some_iff.1 (show (pre ++ [st])[j]? = some o by simpa using ho)).1
        exact this
      rw [List.length_append, List.length_singleton] at hj2
      rw [Array.getD_eq_getD_getElem?, Array.getElem?_setIfInBounds] at h3
      by_cases e : pre.length = j
      · rw [if_pos e, if_pos (by rw [Array.size_push]; omega)] at h3
        cases h3
      · rw [if_neg e, Array.getElem?_push_lt (by omega)] at h3
        have h4 := hall j (by omega)
        rw [Array.getD_eq_getD_getElem?, Array.getElem?_eq_getElem (by omega)] at h4
        simp at h3 h4
        rw [h4] at h3
        cases h3
  intro fuel
  induction fuel with
  | zero =>
    intro listed a w hs hC h
    exact done 0 listed a w hs hC (ready_nil hB hs h.1) h.2
  | succ fuel ih =>
    intro listed a w hs hC h
    cases hr : Region.ready .any pre.toArray listed with
    | nil => exact done (fuel + 1) listed a w hs hC (ready_nil hB hs hr) (h.1 hr)
    | cons j js =>
      have hj : j ∈ Region.ready .any pre.toArray listed := by rw [hr]; exact List.mem_cons_self
      refine ⟨fun hn => (by have := ready_back (st := st) hB hs hj; rw [hn] at this; cases this), fun i hi => ?_⟩
      rcases ready_lt hB hs hi with ⟨h1, h2⟩ | ⟨_, h2⟩
      · have hq := h.2 i h2
        obtain ⟨o, ho⟩ : ∃ o, pre[i]? = some o := ⟨_, List.getElem?_eq_getElem h1⟩
        have hg := (lastB_pre hB ho).1
        unfold qOp at hq
        unfold wpOp
        rw [ops_lt h1]
        rw [show pre.toArray[i]? = some o by simpa using ho] at hq ⊢
        simp only at hq ⊢
        have hwt : ∀ y, Region.wanted o y = true := fun y => by unfold Region.wanted; rw [hg]
        rw [if_pos (hwt _)] at hq ⊢
        refine Or.inl (Oper.wp_of_quiet hC (fun a' w' hC' hk => ?_) hq)
        rw [push_set listed (by omega)]
        exact ih (listed.setIfInBounds i true) a' w' (by simpa using hs) hC' hk
      · exfalso
        obtain ⟨h3, o, ho, _⟩ := mem_ready.1 hj
        have hj2 : j < pre.length := (List.getElem?_eq_some_iff.1 (show pre[j]? = some o by simpa using ho)).1
        have h4 := h2 j hj2
        rw [Array.getD_eq_getD_getElem?, Array.getElem?_eq_getElem (by omega)] at h3 h4
        simp at h3 h4
        rw [h4] at h3
        cases h3
/-- The region's wp: the walk of all operations but the last, each quiet in the worlds that differ by new blocks; then the last one. -/
theorem wp_region_last {P : Program} {id : Nat} {R : Exit → Act → World → Prop} {a : Act} {w : World} {l : List Oper} (pre : List Oper) (st : Oper) (hl : l = pre ++ [st]) (hm : P.follows .mixedOrders = true) (hB : Region.lexB .any pre.toArray = true) (hL : lastB pre st = true)
    (h : wpQuiet P pre.toArray (fun w' => ∃ n : QW w, w' = n.x) (fun a' => ∀ (n : QW w) (K : Act → World → Prop), (∀ a'' w'', R .normal a'' w'' → K a'' w'') → st.wp P a' n.x K R) pre a) : (Code.region id l.toArray true).wp P R a w := by
  subst hl
  refine wp_region_any hm ?_
  have hq := wpAnyQ_lex (C := fun w' => ∃ n : QW w, w' = n.x) (md := .any) (by simp only [Region.lexB, Bool.and_eq_true] at hB; exact hB.1) pre 0 (Array.replicate pre.length false) a (by simp) (by simp only [Region.lexB, Bool.and_eq_true] at hB; simpa using hB.2) h
  have := wpAny_last (Q' := R) hL (fun a' w' hC hq => by obtain ⟨n, rfl⟩ := hC; exact hq n _ (fun _ _ h => h)) pre.length (Array.replicate pre.length false) a w.drew (by simp) ⟨⟨w.drew, (Q.refl w).drew⟩, rfl⟩ hq
  have e : (Array.replicate pre.length false).push false = Array.replicate (pre ++ [st]).toArray.size false := by
    rw [show (pre ++ [st]).toArray.size = pre.length + 1 by simp, Array.replicate_succ]
  rw [e] at this
  simpa using this
theorem wp_region_lastn {P : Program} {id : Nat} {R : Exit → Act → World → Prop} {a : Act} {w : World} {l : List Oper} (n : Nat) (hn : l.length = n + 1) (st : Oper) (hst : l[n]? = some st) (hm : P.follows .mixedOrders = true) (hB : Region.lexB .any (l.take n).toArray = true) (hL : lastB (l.take n) st = true)
    (h : wpQuiet P (l.take n).toArray (fun w' => ∃ n : QW w, w' = n.x) (fun a' => ∀ (n : QW w) (K : Act → World → Prop), (∀ a'' w'', R .normal a'' w'' → K a'' w'') → st.wp P a' n.x K R) (l.take n) a) : (Code.region id l.toArray true).wp P R a w := by
  refine wp_region_last (l.take n) st ?_ hm hB hL h
  have h1 : n < l.length := by omega
  have h2 : l[n] = st := by rw [List.getElem?_eq_getElem h1] at hst; injection hst
  rw [← h2, List.take_append_getElem h1, List.take_of_length_le (by omega)]
end Go.Proofs.Ytikhmlcmmabapaa
/- halidehelp.Spoil over a list of the caller's own. -/
namespace Go.Proofs.Ytikhmlcmmabapaa
open Go.RowKit
set_option linter.unusedVariables false
set_option linter.unusedSimpArgs false

/-- A list of samples, whatever they are, in a block that is newer than a world. -/
structure Spo (u x : World) (g n : Nat) : Prop where
  cell : ∀ i, i < n → ∃ z : Int, x.cell? ⟨g, i, none⟩ = some (.int .u32 z)
  free : ∀ j, x.frozen? ⟨g, j, none⟩ = false
  new : u.heap.size ≤ g
  q : Qb u x
theorem Spo.set {u x : World} {g n i : Nat} (h : Spo u x g n) (z : Int) : Spo u (x.setCell ⟨g, i, none⟩ (.int .u32 z)) g n := by
  refine ⟨fun j hj => ?_, fun j => by rw [World.frozen?_setCell]; exact h.free j, h.new, h.q.set h.new _⟩
  obtain ⟨y, hy⟩ := h.cell j hj
  by_cases e : j = i
  · subst e; exact ⟨z, World.cell?_setCell_same _ _ _ hy⟩
  · exact ⟨y, (World.cell?_setCell_other _ _ _ _ (fun k => e (by injection k with _ k; exact k.symm))).trans hy⟩
theorem Spo.next {u x x' : World} {g n : Nat} (h : Spo u x g n) (q : Q x x') : Spo u x' g n :=
  ⟨fun i hi => by obtain ⟨z, hz⟩ := h.cell i hi; exact ⟨z, q.cell hz⟩, fun j => by rw [q.2]; exact h.free j, h.new, h.q.trans q.qb⟩
/-- Spoil, of a list that is empty or lies in a block newer than a world. -/
def SpoA (u x : World) (ad : Option Addr) (n : Nat) : Prop := Qb u x ∧ (1 ≤ n → ∃ g, ad = some ⟨g, 0, none⟩ ∧ g < x.heap.size ∧ Spo u x g n)
set_option maxHeartbeats 4000000 in
set_option maxRecDepth 100000 in
theorem spoil_any (u w : World) (a b : Int) (ad : Option Addr) (n c : Nat) (h : SpoA u w ad n) (hn : n ≤ 9223372036854775807) :
    Calls Try.prog 11 #[.agg #[.int .i64 a, .int .i64 b, .slice ad n c]] w fun e w' => e = .returned (.tuple #[]) ∧ Qb u w' := by
  obtain ⟨w1, hw1⟩ : ∃ w1, w.alloc (.cells #[.int .i64 a, .int .i64 b, .slice ad n c] 24) = w1 := ⟨_, rfl⟩
  have q1 : Q w w1 := by rw [← hw1]; exact (Q.refl w).cells _ _
  have p2 : w1.cell? ⟨w.heap.size, 2, none⟩ = some (.slice ad n c) := by rw [← hw1]; simp [go_sem]
  obtain ⟨B, hB⟩ : ∃ B, w.heap.size = B := ⟨_, rfl⟩
  have HX : Hid ((Qb u w1 ∧ (1 ≤ n → ∃ g, ad = some ⟨g, 0, none⟩ ∧ g < B ∧ Spo u w1 g n)) ∧ w1.cell? ⟨B, 2, none⟩ = some (.slice ad n c)) := by
    refine ⟨⟨h.1.trans q1.qb, fun h1 => ?_⟩, by rw [← hB]; exact p2⟩
    obtain ⟨g, h2, h3, h4⟩ := h.2 h1
    exact ⟨g, h2, by omega, h4.next q1⟩
  rw [hB] at p2
  clear q1 h
  go_enter Try.func11, Try.ntmps11
  go_wp2_with fail
  clear hw1 hB
  go_loopg [2] n (fun m s2 wr => ∃ i : Nat, s2 = .int .i64 (i : Int) ∧ i + m = n ∧ Hid ((Qb u wr ∧ (1 ≤ n → ∃ g, ad = some ⟨g, 0, none⟩ ∧ g < B ∧ Spo u wr g n)) ∧ wr.cell? ⟨B, 2, none⟩ = some (.slice ad n c)))
  case atStart => exact ⟨0, rfl, by omega, HX⟩
  case round =>
    clear HX p2
    obtain ⟨i, rfl, hi, HX⟩ := hrel
    have p2 := HX.out.2
    by_cases hlt : i < n
    · have hlt' : (i : Int) < (n : Int) := by omega
      obtain ⟨g, rfl, hg, hs⟩ := HX.out.1.2 (by omega)
      obtain ⟨z, hz⟩ := hs.cell i hlt
      have fr := hs.free i
      have HS : Hid (Spo u wr g n ∧ g < B) := ⟨hs, hg⟩
      clear hs hg
      go_wp2_with fail
      have n0 := qw_some wr
      have f0 := qw_cell p2
      have f1 := qw_cell hz
      refine wp_region_lastn 10 rfl _ rfl (by kernel_rfl) (by kernel_rfl) (by kernel_rfl) ?_
      simp only [List.take_succ_cons, List.take_zero]
      repeat (first | go_big_quiet_step (fail) | quiet_step (fail))
      refine wpQuiet_nil ?_
      intro nn K hK
      have cz := nn.q.cell hz
      have fz : nn.x.frozen? ⟨g, i, none⟩ = false := by rw [nn.q.2]; exact fr
      have HY : Hid ((Qb u (nn.x.setCell ⟨g, i, none⟩ (.int .u32 (bits BinOp.xor IntKind.u32 z 1515870810))) ∧ (1 ≤ n → ∃ g', some (⟨g, 0, none⟩ : Addr) = some ⟨g', 0, none⟩ ∧ g' < B ∧ Spo u (nn.x.setCell ⟨g, i, none⟩ (.int .u32 (bits BinOp.xor IntKind.u32 z 1515870810))) g' n)) ∧ (nn.x.setCell ⟨g, i, none⟩ (.int .u32 (bits BinOp.xor IntKind.u32 z 1515870810))).cell? ⟨B, 2, none⟩ = some (.slice (some ⟨g, 0, none⟩) n c)) := by
        have hs := (HS.out.1.next nn.q).set (i := i) (bits BinOp.xor IntKind.u32 z 1515870810)
        refine ⟨⟨hs.q, fun _ => ⟨g, rfl, HS.out.2, hs⟩⟩, ?_⟩
        exact (World.cell?_setCell_other _ _ _ _ (fun e => by injection e with e1 e2; have := HS.out.2; omega)).trans (nn.q.cell p2)
      clear n0 f0 f1
      generalize bits BinOp.xor IntKind.u32 z 1515870810 = y at HY ⊢
      go_wp2_with fail
      generalize nn.x.setCell ⟨g, i, none⟩ (.int .u32 y) = w8 at HY ⊢
      go_roundg (n - (i + 1))
      case measure => go_light; omega
      case rel => go_light; exact ⟨i + 1, by go_num, by omega, HY⟩
    · obtain rfl : i = n := by omega
      have hge : ¬ (i : Int) < (i : Int) := by omega
      go_wp2_with fail
      go_end0
      exact ⟨rfl, HX.out.1.1⟩
end Go.Proofs.Ytikhmlcmmabapaa
/- The statement RankPlane: its walk. -/
namespace Go.Proofs.Ytikhmlcmmabapaa
open Go.RowKit
set_option linter.unusedVariables false
set_option linter.unusedSimpArgs false

/-- A copy, empty or not. -/
theorem hcopy_all (w : World) (pw ph : Int) (ad : Option Addr) (n c : Nat) (S : List Nat) (hS : S.length = n) (hU : USl w (.slice ad n c) S) (h2 : n ≤ 1000000) :
    Calls Try.prog 7 #[.agg #[.int .i64 pw, .int .i64 ph, .slice ad n c]] w fun e w' => ∃ ad' c', e = .returned (.agg #[.int .i64 pw, .int .i64 ph, .slice ad' n c']) ∧ USl w' (.slice ad' n c') S ∧ Q w w' := by
  rcases Nat.lt_or_ge 0 n with h1 | h1
  · obtain ⟨g, o, cap, hv, hc, hI⟩ := hU.some (by omega)
    injection hv with hv1 _ _
    subst hv1
    refine (hcopy_some w pw ph g o n c S hS hI h1 h2).mono ?_
    rintro e w' ⟨v, rfl, b, cap', rfl, hc', hb, hO⟩
    refine ⟨_, _, rfl, ?_, hO.q⟩
    have := hO.cells.usl (cap := cap') (by omega)
    rw [hS] at this
    exact this
  · obtain rfl : n = 0 := by omega
    obtain rfl : S = [] := List.length_eq_zero_iff.1 hS
    refine (hcopy_none w pw ph ad c).mono ?_
    rintro e w' ⟨v, rfl, rfl, q⟩
    exact ⟨_, _, rfl, Or.inr ⟨_, _, rfl, rfl⟩, q⟩
/-- What is told of a plane, by the program and by the document. -/
def RPE (E0 : Int) (c d : Nat) (V : Nat → Nat) (w : World) (e : Ending) (w' : World) : Prop := ∃ a b ad' m cc E, e = .returned (.tuple #[.agg #[.int .i64 a, .int .i64 b, .slice ad' m cc], .int .i64 E]) ∧ Pans w w' E0 c d V a b ad' m cc E
def RDE (E0 : Int) (c d : Nat) (V : Nat → Nat) (w : World) (e : Ending) (w' : World) : Prop := ∃ a b ad' m cc E, e = .returned (.tuple #[.agg #[.int .i64 a, .int .i64 b, .slice ad' m cc], .int .i64 E]) ∧ Dans w w' E0 c d V a b ad' m cc E
theorem Dans.swap {w w' : World} {E0 : Int} {c d : Nat} {V V' : Nat → Nat} {a b : Int} {ad : Option Addr} {m cc : Nat} {E : Int} (h : Dans w w' E0 c d V a b ad m cc E) (hV : E0 = 0 → V = V') : Dans w w' E0 c d V' a b ad m cc E :=
  ⟨h.q, h.e, h.bad, fun e => by rw [← hV e]; exact h.good e⟩
theorem rkE_swap {pw ph : Int} {n : Nat} {bd W H K K' : Int} (h : cntV W H ≠ 0 → K = K') : rkE pw ph n bd W H K = rkE pw ph n bd W H K' ∧ (rkE pw ph n bd W H K = 0 → K = K') := by
  by_cases hc : cntV W H = 0
  · unfold rkE
    simp only [hc, if_true]
    refine ⟨trivial, fun h0 => ?_⟩
    split at h0
    · cases h0
    · rename_i h1; exact absurd h0 h1
  · rw [h hc]
    exact ⟨rfl, fun _ => rfl⟩
theorem cntV_wrap {W H : Int} (h : cntV W H ≠ 0) : wrap64 (W * H) = cntV W H ∧ 1 ≤ cntV W H ∧ cntV W H ≤ 225 := by
  obtain ⟨a, b, rfl, rfl, a1, a2, b1, b2, hc⟩ := cntV_pos h
  have h1 := win_area (a := (a : Int)) (b := (b : Int)) (by omega) (by omega)
  have h2 : ((a * b : Nat) : Int) = (a : Int) * (b : Int) := Int.natCast_mul a b
  rw [hc, h2]
  exact ⟨Go.IntWalk.wrap64_in _ (by omega), h1.1, h1.2⟩
theorem rk_room (pw ph bd W H : Int) (n : Nat) {K : Int} : rkE pw ph n bd W H K = 0 → pw.toNat * ph.toNat ≤ 65536 := by
  intro h
  obtain ⟨pa, pb, b, wa, ha, kk, rfl, rfl, rfl, rfl, rfl, rfl, hsz, _⟩ := rkE_ok h
  exact hsz.ab
section
variable (pw ph bd W H : Int) (S : List Nat) (n : Nat) (hS : S.length = n) (hSb : ∀ i, S.getD i 0 < 4294967296) (hn : n ≤ 9223372036854775807)
include hS hSb hn
theorem rk_pair0 (K : Int) : ∃ E0 c d V, (E0 = 0 → c * d ≤ 65536) ∧ (∀ ad cc x, USl x (.slice ad n cc) S → Calls Try.prog 9 #[.agg #[.int .i64 pw, .int .i64 ph, .slice ad n cc], .int .i64 bd, .int .i64 W, .int .i64 H, .int .i64 K] x (RPE E0 c d V x)) ∧
    (∀ ad cc x, USl x (.slice ad n cc) S → Calls Try.prog 8 #[.agg #[.int .i64 pw, .int .i64 ph, .slice ad n cc], .int .i64 bd, .int .i64 W, .int .i64 H, .int .i64 K] x (RDE E0 c d V x)) :=
  ⟨_, _, _, _, rk_room pw ph bd W H n, fun ad cc x u => rplane_any pw ph ad n cc S bd W H K x u hS hSb hn, fun ad cc x u => rdplane12_any pw ph ad n cc S bd W H K x u hS hSb hn⟩
theorem rk_med (K : Int) (hK : cntV W H ≠ 0 → cntV W H / 2 = K) : ∃ E0 c d V, (E0 = 0 → c * d ≤ 65536) ∧ (∀ ad cc x, USl x (.slice ad n cc) S → Calls Try.prog 12 #[.agg #[.int .i64 pw, .int .i64 ph, .slice ad n cc], .int .i64 bd, .int .i64 W, .int .i64 H] x (RPE E0 c d V x)) ∧
    (∀ ad cc x, USl x (.slice ad n cc) S → Calls Try.prog 8 #[.agg #[.int .i64 pw, .int .i64 ph, .slice ad n cc], .int .i64 bd, .int .i64 W, .int .i64 H, .int .i64 K] x (RDE E0 c d V x)) := by
  have hs := rkE_swap (pw := pw) (ph := ph) (n := n) (bd := bd) hK
  refine ⟨_, _, _, _, rk_room pw ph bd W H n, fun ad cc x u => median_any pw ph ad n cc S bd W H x u hS hSb hn, fun ad cc x u => (rdplane12_any pw ph ad n cc S bd W H K x u hS hSb hn).mono ?_⟩
  rintro e w' ⟨a, b, ad', m, cc', E, rfl, D⟩
  rw [← hs.1] at D
  exact ⟨a, b, ad', m, cc', E, rfl, D.swap fun h0 => by rw [← hs.2 h0]⟩
theorem rk_ero (K : Int) (hK : cntV W H ≠ 0 → 0 = K) : ∃ E0 c d V, (E0 = 0 → c * d ≤ 65536) ∧ (∀ ad cc x, USl x (.slice ad n cc) S → Calls Try.prog 13 #[.agg #[.int .i64 pw, .int .i64 ph, .slice ad n cc], .int .i64 bd, .int .i64 W, .int .i64 H] x (RPE E0 c d V x)) ∧
    (∀ ad cc x, USl x (.slice ad n cc) S → Calls Try.prog 8 #[.agg #[.int .i64 pw, .int .i64 ph, .slice ad n cc], .int .i64 bd, .int .i64 W, .int .i64 H, .int .i64 K] x (RDE E0 c d V x)) := by
  have hs := rkE_swap (pw := pw) (ph := ph) (n := n) (bd := bd) hK
  refine ⟨_, _, _, _, rk_room pw ph bd W H n, fun ad cc x u => erode_any pw ph ad n cc S bd W H x u hS hSb hn, fun ad cc x u => (rdplane12_any pw ph ad n cc S bd W H K x u hS hSb hn).mono ?_⟩
  rintro e w' ⟨a, b, ad', m, cc', E, rfl, D⟩
  rw [← hs.1] at D
  exact ⟨a, b, ad', m, cc', E, rfl, D.swap fun h0 => by rw [← hs.2 h0]; rfl⟩
theorem rk_dil (K : Int) (hK : cntV W H ≠ 0 → cntV W H - 1 = K) : ∃ E0 c d V, (E0 = 0 → c * d ≤ 65536) ∧ (∀ ad cc x, USl x (.slice ad n cc) S → Calls Try.prog 14 #[.agg #[.int .i64 pw, .int .i64 ph, .slice ad n cc], .int .i64 bd, .int .i64 W, .int .i64 H] x (RPE E0 c d V x)) ∧
    (∀ ad cc x, USl x (.slice ad n cc) S → Calls Try.prog 8 #[.agg #[.int .i64 pw, .int .i64 ph, .slice ad n cc], .int .i64 bd, .int .i64 W, .int .i64 H, .int .i64 K] x (RDE E0 c d V x)) := by
  have hs := rkE_swap (pw := pw) (ph := ph) (n := n) (bd := bd) hK
  refine ⟨_, _, _, _, rk_room pw ph bd W H n, fun ad cc x u => dilate_any pw ph ad n cc S bd W H x u hS hSb hn, fun ad cc x u => (rdplane12_any pw ph ad n cc S bd W H K x u hS hSb hn).mono ?_⟩
  rintro e w' ⟨a, b, ad', m, cc', E, rfl, D⟩
  rw [← hs.1] at D
  exact ⟨a, b, ad', m, cc', E, rfl, D.swap fun h0 => by rw [← hs.2 h0]⟩
end
theorem usl_len {w : World} {ad : Option Addr} {m c : Nat} {L : List Nat} (h : USl w (.slice ad m c) L) : m = L.length := by
  obtain ⟨a, cap, e⟩ := h.form
  injection e
theorem pd_joinx {wx wy wz w' x : World} {E0 : Int} {c d : Nat} {V : Nat → Nat} {a b a' b' : Int} {ad ad' : Option Addr} {m cc m' cc' : Nat} {E E' : Int} (D : Dans wx wy E0 c d V a b ad m cc E) (P : Pans wz w' E0 c d V a' b' ad' m' cc' E') (q : Qb wy x) (q' : Qb w' x) (hB : E0 = 0 → c * d ≤ 65536) : ∃ S, a' = a ∧ b' = b ∧ m' = m ∧ USl x (.slice ad' m' cc') S ∧ USl x (.slice ad m cc) S ∧ S.length ≤ 65536 := by
  by_cases h : E0 = 0
  · obtain ⟨rfl, rfl, rfl, u⟩ := D.good h
    obtain ⟨g, rfl, rfl, rfl, rfl, rfl, v, _, _⟩ := P.good h
    refine ⟨prtL V (c * d), rfl, rfl, rfl, ?_, u.nextB q, by rw [prtL_len]; exact hB h⟩
    have hI : UIs x g 0 (prtL V (c * d)) := fun i hi => by
      rw [prtL_len] at hi
      rw [Nat.zero_add, q'.cell (v.cell i hi)]
      simp [prtL, List.getD_eq_getElem?_getD, hi]
    have := hI.usl (cap := c * d) (by rw [prtL_len]; exact Nat.le_refl _)
    rw [prtL_len] at this
    exact this
  · obtain ⟨rfl, rfl, rfl, rfl, rfl⟩ := D.bad h
    obtain ⟨rfl, rfl, rfl, rfl, rfl⟩ := P.bad h
    exact ⟨[], rfl, rfl, rfl, Or.inr ⟨_, _, rfl, rfl⟩, Or.inr ⟨_, _, rfl, rfl⟩, by decide⟩
theorem Pans.spo {u x w : World} {E0 : Int} {c d : Nat} {V : Nat → Nat} {a b : Int} {ad : Option Addr} {m cc : Nat} {E : Int} (P : Pans u x E0 c d V a b ad m cc E) (q : Qb x w) : SpoA u w ad m := by
  refine ⟨P.q.trans q, fun hm => ?_⟩
  by_cases h : E0 = 0
  · obtain ⟨g, _, _, rfl, rfl, _, v, h1, h2⟩ := P.good h
    exact ⟨g, rfl, Nat.lt_of_lt_of_le h2 q.sz, fun i hi => ⟨_, q.cell (v.cell i hi)⟩, fun j => by rw [q.frozen (p := ⟨g, j, none⟩) h2]; exact v.free j, h1, P.q.trans q⟩
  · obtain ⟨_, _, _, rfl, _⟩ := P.bad h
    omega
set_option maxHeartbeats 8000000 in
set_option maxRecDepth 100000 in
theorem rplane_walk (W0 : World) (pw ph bd W H k : Int) (sv : Value) (S : List Nat) (us : USl W0 sv S) (hSb : ∀ i, S.getD i 0 < 4294967296) (hml : S.length ≤ 9223372036854775807) :
    Calls Try.prog 3 #[.agg #[.int .i64 pw, .int .i64 ph, sv], .int .i64 bd, .int .i64 W, .int .i64 H, .int .i64 k] W0 fun e w' => e = .returned (.bool true) ∧ Qb W0 w' := by
  obtain ⟨ad, c, rfl⟩ := us.form
  obtain ⟨n, hn⟩ : ∃ n, S.length = n := ⟨_, rfl⟩
  rw [hn] at us hml
  rw [hn]
  obtain ⟨w1, hw1⟩ : ∃ w1, W0.alloc (.cells #[.int .i64 pw, .int .i64 ph, .slice ad n c] 24) = w1 := ⟨_, rfl⟩
  have q1 : Q W0 w1 := by rw [← hw1]; exact (Q.refl W0).cells _ _
  have p0 : w1.cell? ⟨W0.heap.size, 0, none⟩ = some (.int .i64 pw) := by rw [← hw1]; simp [go_sem]
  have p1 : w1.cell? ⟨W0.heap.size, 1, none⟩ = some (.int .i64 ph) := by rw [← hw1]; simp [go_sem]
  have p2 : w1.cell? ⟨W0.heap.size, 2, none⟩ = some (.slice ad n c) := by rw [← hw1]; simp [go_sem]
  obtain ⟨bp, hbp⟩ : ∃ bp, W0.heap.size = bp := ⟨_, rfl⟩
  rw [hbp] at p0 p1 p2
  have HK : Hid _ := fun x => known12_any x
  have HM : Hid _ := fun x => small12_any pw ph ad n c x
  have HCy : Hid _ := fun x u h2 => hcopy_all x pw ph ad n c S hn u h2
  have HPl : Hid _ := fun ad' c' x u u' => hplanes_yes pw ph ad' ad n c' c S x u u' (by omega)
  obtain ⟨E1, c1, d1, V1, r1, f1, g1⟩ := rk_pair0 pw ph bd W H S n hn hSb hml k
  obtain ⟨E2, c2, d2, V2, r2, f2, g2⟩ := rk_med pw ph bd W H S n hn hSb hml (wrap64 (Int.tdiv (wrap64 (W * H)) 2)) (fun h => by have := cntV_wrap h; rw [this.1, Int.tdiv_eq_ediv_of_nonneg (by omega), Go.IntWalk.wrap64_in _ (by omega)])
  obtain ⟨E3, c3, d3, V3, r3, f3, g3⟩ := rk_ero pw ph bd W H S n hn hSb hml 0 (fun _ => rfl)
  obtain ⟨E4, c4, d4, V4, r4, f4, g4⟩ := rk_dil pw ph bd W H S n hn hSb hml (wrap64 (wrap64 (W * H) - 1)) (fun h => by have := cntV_wrap h; rw [this.1, Go.IntWalk.wrap64_in _ (by omega)])
  have HF1 : Hid _ := f1
  have HG1 : Hid _ := g1
  have HR1 : Hid (E1 = 0 → c1 * d1 ≤ 65536) := r1
  clear f1 g1 r1
  have HF2 : Hid _ := f2
  have HG2 : Hid _ := g2
  have HR2 : Hid (E2 = 0 → c2 * d2 ≤ 65536) := r2
  clear f2 g2 r2
  have HF3 : Hid _ := f3
  have HG3 : Hid _ := g3
  have HR3 : Hid (E3 = 0 → c3 * d3 ≤ 65536) := r3
  clear f3 g3 r3
  have HF4 : Hid _ := f4
  have HG4 : Hid _ := g4
  have HR4 : Hid (E4 = 0 → c4 * d4 ≤ 65536) := r4
  clear f4 g4 r4
  have HU : Hid (USl W0 (.slice ad n c) S) := us
  have HN : Hid (n ≤ 9223372036854775807) := hml
  have HS2 : Hid (smlR pw ph n = true → n ≤ 2000) := fun h => by unfold smlR at h; simp only [Bool.and_eq_true, decide_eq_true_eq] at h; omega
  obtain ⟨sb, hsb⟩ : ∃ sb, smlR pw ph n = sb := ⟨_, rfl⟩
  rw [hsb] at HM HS2
  have HQ1 : Hid (Qb W0 w1) := q1.qb
  clear us hn hSb hml q1 hsb
  go_enter Try.func3, Try.ntmps3
  go_wp2_with fail
  clear hw1 hbp
  refine Calls.mono (HK.out _) ?_
  rintro e w2 ⟨rfl, q2⟩
  have p0 := q2.cell p0
  have p1 := q2.cell p1
  have p2 := q2.cell p2
  have HQ2 : Hid (Qb W0 w2) := HQ1.out.trans q2
  clear q2
  go_wp2_with fail
  refine Calls.mono (HM.out _) ?_
  rintro e w3 ⟨rfl, q3⟩
  have p0 := q3.cell p0
  have p1 := q3.cell p1
  have p2 := q3.cell p2
  have HQ3 : Hid (Qb W0 w3) := HQ2.out.trans q3.qb
  clear q3 HQ1 HQ2
  cases sb
  · go_wp2_with fail
    go_ret
    exact ⟨rfl, HQ3.out⟩
  go_wp2_with fail
  refine Calls.mono (HCy.out _ (HU.out.nextB HQ3.out) (by have := HS2.out (by first | rfl | trivial); omega)) ?_
  rintro e w4 ⟨ad5, c5, rfl, u4, q4⟩
  obtain ⟨w5, hw5⟩ : ∃ w5, w4.alloc (.cells #[.int .i64 pw, .int .i64 ph, .slice ad5 n c5] 24) = w5 := ⟨_, rfl⟩
  have q45 : Q w4 w5 := by rw [← hw5]; exact (Q.refl w4).cells _ _
  have q35 : Q w3 w5 := q4.trans q45
  have HI : Hid (USl w5 (.slice ad5 n c5) S) := u4.next q45
  have HQ5 : Hid (Qb W0 w5) := HQ3.out.trans q35.qb
  have i0 : w5.cell? ⟨w4.heap.size, 0, none⟩ = some (.int .i64 pw) := by rw [← hw5]; simp [go_sem]
  have i1 : w5.cell? ⟨w4.heap.size, 1, none⟩ = some (.int .i64 ph) := by rw [← hw5]; simp [go_sem]
  have i2 : w5.cell? ⟨w4.heap.size, 2, none⟩ = some (.slice ad5 n c5) := by rw [← hw5]; simp [go_sem]
  have p0 := q35.cell p0
  have p1 := q35.cell p1
  have p2 := q35.cell p2
  clear q4 q45 q35 u4
  go_wp2_with fail
  clear hw5
  generalize w4.heap.size = bi at *
  refine Calls.mono (HG1.out _ _ _ (HU.out.nextB HQ5.out)) ?_
  rintro e w6 ⟨a, b, ad6, m, cc, E, rfl, D6⟩
  obtain ⟨w7, hw7⟩ : ∃ w7, w6.alloc (.cells #[.int .i64 a, .int .i64 b, .slice ad6 m cc] 24) = w7 := ⟨_, rfl⟩
  have q67 : Q w6 w7 := by rw [← hw7]; exact (Q.refl w6).cells _ _
  have q57 : Q w5 w7 := D6.q.trans q67
  obtain ⟨b7, hb7⟩ : ∃ b7, w6.heap.size = b7 := ⟨_, rfl⟩
  have t0 : w7.cell? ⟨w6.heap.size, 0, none⟩ = some (.int .i64 a) := by rw [← hw7]; simp [go_sem]
  have t1 : w7.cell? ⟨w6.heap.size, 1, none⟩ = some (.int .i64 b) := by rw [← hw7]; simp [go_sem]
  have t2 : w7.cell? ⟨w6.heap.size, 2, none⟩ = some (.slice ad6 m cc) := by rw [← hw7]; simp [go_sem]
  rw [hb7] at t0 t1 t2
  have p0 := q57.cell p0
  have p1 := q57.cell p1
  have p2 := q57.cell p2
  have i0 := q57.cell i0
  have i1 := q57.cell i1
  have i2 := q57.cell i2
  have HC7 : Hid ((w7.cell? ⟨bp, 0, none⟩ = some (.int .i64 pw) ∧ w7.cell? ⟨bp, 1, none⟩ = some (.int .i64 ph) ∧ w7.cell? ⟨bp, 2, none⟩ = some (.slice ad n c)) ∧ (w7.cell? ⟨bi, 0, none⟩ = some (.int .i64 pw) ∧ w7.cell? ⟨bi, 1, none⟩ = some (.int .i64 ph) ∧ w7.cell? ⟨bi, 2, none⟩ = some (.slice ad5 n c5)) ∧ (w7.cell? ⟨b7, 0, none⟩ = some (.int .i64 a) ∧ w7.cell? ⟨b7, 1, none⟩ = some (.int .i64 b) ∧ w7.cell? ⟨b7, 2, none⟩ = some (.slice ad6 m cc))) := ⟨⟨p0, p1, p2⟩, ⟨i0, i1, i2⟩, ⟨t0, t1, t2⟩⟩
  have HQ7 : Hid (Qb W0 w7) := HQ5.out.trans q57.qb
  have HU7 : Hid (USl w7 (.slice ad n c) S) := HU.out.nextB HQ7.out
  have HI7 : Hid (USl w7 (.slice ad5 n c5) S) := HI.out.next q57
  have HD : Hid (Dans w5 w6 E1 c1 d1 V1 a b ad6 m cc E ∧ Qb w6 w7) := ⟨D6, q67.qb⟩
  obtain rfl := D6.e
  clear q67 q57 D6 HI HU HQ5 HQ3 HG1
  go_wp2_with fail
  clear hw7 hb7
  go_loopg [14] 2 (fun mm s14 wr => ∃ i : Nat, s14 = .int .i64 (i : Int) ∧ i + mm = 2 ∧ Hid (Qb w7 wr))
  case atStart => exact ⟨0, rfl, by omega, Qb.refl _⟩
  case round =>
    obtain ⟨i, rfl, hi, HQ⟩ := hrel
    clear p0 p1 p2 i0 i1 i2 t0 t1 t2
    by_cases hlt : i < 2
    · have hlt' : (i : Int) < 2 := by omega
      have i0 := HQ.out.cell HC7.out.2.1.1
      have i1 := HQ.out.cell HC7.out.2.1.2.1
      have i2 := HQ.out.cell HC7.out.2.1.2.2
      go_wp2_with fail
      refine Calls.mono (HF1.out _ _ _ (HI7.out.nextB HQ.out)) ?_
      rintro e x1 ⟨a', b', ad8, m', cc', E', rfl, P8⟩
      obtain ⟨L, rfl, rfl, rfl, u1, u2, hL⟩ := pd_join HD.out.1 P8 (HD.out.2.trans (HQ.out.trans P8.q)) HR1.out
      obtain ⟨x2, hx2⟩ : ∃ x2, x1.alloc (.cells #[.int .i64 a', .int .i64 b', .slice ad8 m' cc'] 24) = x2 := ⟨_, rfl⟩
      have q2 : Q x1 x2 := by rw [← hx2]; exact (Q.refl x1).cells _ _
      have HQ2 : Hid (Qb w7 x2) := HQ.out.trans (P8.q.trans q2.qb)
      have HP8 : Hid (Pans wr x1 E c1 d1 V1 a' b' ad8 m' cc' E' ∧ Q x1 x2) := ⟨P8, q2⟩
      obtain ⟨b8, hb8⟩ : ∃ b8, x1.heap.size = b8 := ⟨_, rfl⟩
      have y0 : x2.cell? ⟨x1.heap.size, 0, none⟩ = some (.int .i64 a') := by rw [← hx2]; simp [go_sem]
      have y1 : x2.cell? ⟨x1.heap.size, 1, none⟩ = some (.int .i64 b') := by rw [← hx2]; simp [go_sem]
      have y2 : x2.cell? ⟨x1.heap.size, 2, none⟩ = some (.slice ad8 m' cc') := by rw [← hx2]; simp [go_sem]
      rw [hb8] at y0 y1 y2
      have HL : Hid (USl x2 (.slice ad8 m' cc') L ∧ USl x2 (.slice ad6 m' cc) L ∧ L.length ≤ 65536) := ⟨u1.next q2, u2.next q2, hL⟩
      have HE : Hid (E' = E) := P8.e
      clear u1 u2 hL q2 i0 i1 i2 P8
      have t0 := HQ2.out.cell HC7.out.2.2.1
      have t1 := HQ2.out.cell HC7.out.2.2.2.1
      have t2 := HQ2.out.cell HC7.out.2.2.2.2
      go_wp2_with fail
      clear hx2 hb8
      refine Calls.mono (hplanes_yes a' b' ad8 ad6 m' cc' cc L x2 HL.out.1 HL.out.2.1 (by have := HL.out.2.2; omega)) ?_
      rintro e x3 ⟨rfl, q3⟩
      have HQ3 : Hid (Qb w7 x3) := HQ2.out.trans q3.qb
      have y0 := q3.cell y0
      have y1 := q3.cell y1
      have y2 := q3.cell y2
      have HQ23 : Hid (Q x2 x3) := q3
      clear q3 t0 t1 t2
      have ne : (E' != E) = false := by rw [HE.out]; simp
      have ne2 : (E' == E) = true := by rw [HE.out]; simp
      have p0 := HQ3.out.cell HC7.out.1.1
      have p1 := HQ3.out.cell HC7.out.1.2.1
      have p2 := HQ3.out.cell HC7.out.1.2.2
      have i0 := HQ3.out.cell HC7.out.2.1.1
      have i1 := HQ3.out.cell HC7.out.2.1.2.1
      have i2 := HQ3.out.cell HC7.out.2.1.2.2
      go_wp2_with fail
      refine Calls.mono (HPl.out _ _ _ (HI7.out.nextB HQ3.out) (HU7.out.nextB HQ3.out)) ?_
      rintro e x4 ⟨rfl, q4⟩
      have y0 := q4.cell y0
      have y1 := q4.cell y1
      have y2 := q4.cell y2
      have HQ4 : Hid (Qb x1 x4) := HP8.out.2.qb.trans (HQ23.out.trans q4).qb
      clear q4 p0 p1 p2 i0 i1 i2
      go_wp2_with fail
      refine Calls.mono (spoil_any wr x4 a' b' ad8 m' cc' (HP8.out.1.spo HQ4.out) (by have := usl_len HL.out.1; have := HL.out.2.2; omega)) ?_
      rintro e x5 ⟨rfl, q5⟩
      have HQ5 : Hid (Qb w7 x5) := HQ.out.trans q5
      clear q5 y0 y1 y2 ne ne2 HP8 HL HQ2 HQ3 HQ4 HQ23
      go_wp2_with fail
      go_roundg (2 - (i + 1))
      case measure => go_light; omega
      case rel => go_light; exact ⟨i + 1, by go_num, by omega, HQ5⟩
    · obtain rfl : i = 2 := by omega
      have hge : ¬ ((2 : Nat) : Int) < 2 := by omega
      have i0 := HQ.out.cell HC7.out.2.1.1
      have i1 := HQ.out.cell HC7.out.2.1.2.1
      have i2 := HQ.out.cell HC7.out.2.1.2.2
      go_wp2_with fail
      refine Calls.mono (HF2.out _ _ _ (HI7.out.nextB HQ.out)) ?_
      rintro e x1 ⟨a1, b1, ad1, m1, cc1, F1, rfl, PD1⟩
      obtain ⟨y1, hy1⟩ : ∃ y1, x1.alloc (.cells #[.int .i64 a1, .int .i64 b1, .slice ad1 m1 cc1] 24) = y1 := ⟨_, rfl⟩
      have q1 : Q x1 y1 := by rw [← hy1]; exact (Q.refl x1).cells _ _
      obtain ⟨B1, hB1⟩ : ∃ B1, x1.heap.size = B1 := ⟨_, rfl⟩
      have HB1 : Hid (y1.cell? ⟨B1, 0, none⟩ = some (.int .i64 a1) ∧ y1.cell? ⟨B1, 1, none⟩ = some (.int .i64 b1) ∧ y1.cell? ⟨B1, 2, none⟩ = some (.slice ad1 m1 cc1)) := by
        rw [← hB1, ← hy1]
        exact ⟨by simp [go_sem], by simp [go_sem], by simp [go_sem]⟩
      have HQ1 : Hid (Qb w7 y1) := HQ.out.trans (PD1.q.trans q1.qb)
      have HX1 : Hid (Qb x1 y1) := q1.qb
      have HY1 : Hid (Qb wr y1) := PD1.q.trans q1.qb
      have HPD1 : Hid _ := PD1
      clear PD1 q1 i0 i1 i2
      have i0 := HQ1.out.cell HC7.out.2.1.1
      have i1 := HQ1.out.cell HC7.out.2.1.2.1
      have i2 := HQ1.out.cell HC7.out.2.1.2.2
      go_wp2_with fail
      clear hy1 hB1
      refine Calls.mono (HF3.out _ _ _ (HI7.out.nextB HQ1.out)) ?_
      rintro e x2 ⟨a2, b2, ad2, m2, cc2, F2, rfl, PD2⟩
      obtain ⟨y2, hy2⟩ : ∃ y2, x2.alloc (.cells #[.int .i64 a2, .int .i64 b2, .slice ad2 m2 cc2] 24) = y2 := ⟨_, rfl⟩
      have q2 : Q x2 y2 := by rw [← hy2]; exact (Q.refl x2).cells _ _
      obtain ⟨B2, hB2⟩ : ∃ B2, x2.heap.size = B2 := ⟨_, rfl⟩
      have HB2 : Hid (y2.cell? ⟨B2, 0, none⟩ = some (.int .i64 a2) ∧ y2.cell? ⟨B2, 1, none⟩ = some (.int .i64 b2) ∧ y2.cell? ⟨B2, 2, none⟩ = some (.slice ad2 m2 cc2)) := by
        rw [← hB2, ← hy2]
        exact ⟨by simp [go_sem], by simp [go_sem], by simp [go_sem]⟩
      have HQ2 : Hid (Qb w7 y2) := HQ1.out.trans (PD2.q.trans q2.qb)
      have HX2 : Hid (Qb x2 y2) := q2.qb
      have HY2 : Hid (Qb y1 y2) := PD2.q.trans q2.qb
      have HPD2 : Hid _ := PD2
      clear PD2 q2 i0 i1 i2
      have i0 := HQ2.out.cell HC7.out.2.1.1
      have i1 := HQ2.out.cell HC7.out.2.1.2.1
      have i2 := HQ2.out.cell HC7.out.2.1.2.2
      go_wp2_with fail
      clear hy2 hB2
      refine Calls.mono (HF4.out _ _ _ (HI7.out.nextB HQ2.out)) ?_
      rintro e x3 ⟨a3, b3, ad3, m3, cc3, F3, rfl, PD3⟩
      obtain ⟨y3, hy3⟩ : ∃ y3, x3.alloc (.cells #[.int .i64 a3, .int .i64 b3, .slice ad3 m3 cc3] 24) = y3 := ⟨_, rfl⟩
      have q3 : Q x3 y3 := by rw [← hy3]; exact (Q.refl x3).cells _ _
      obtain ⟨B3, hB3⟩ : ∃ B3, x3.heap.size = B3 := ⟨_, rfl⟩
      have HB3 : Hid (y3.cell? ⟨B3, 0, none⟩ = some (.int .i64 a3) ∧ y3.cell? ⟨B3, 1, none⟩ = some (.int .i64 b3) ∧ y3.cell? ⟨B3, 2, none⟩ = some (.slice ad3 m3 cc3)) := by
        rw [← hB3, ← hy3]
        exact ⟨by simp [go_sem], by simp [go_sem], by simp [go_sem]⟩
      have HQ3 : Hid (Qb w7 y3) := HQ2.out.trans (PD3.q.trans q3.qb)
      have HX3 : Hid (Qb x3 y3) := q3.qb
      have HY3 : Hid (Qb y2 y3) := PD3.q.trans q3.qb
      have HPD3 : Hid _ := PD3
      clear PD3 q3 i0 i1 i2
      have p0 := HQ3.out.cell HC7.out.1.1
      have p1 := HQ3.out.cell HC7.out.1.2.1
      have p2 := HQ3.out.cell HC7.out.1.2.2
      go_wp2_with fail
      clear hy3 hB3
      refine Calls.mono (HG2.out _ _ _ (HU7.out.nextB HQ3.out)) ?_
      rintro e x4 ⟨a4, b4, ad4, m4, cc4, F4, rfl, PD4⟩
      obtain ⟨y4, hy4⟩ : ∃ y4, x4.alloc (.cells #[.int .i64 a4, .int .i64 b4, .slice ad4 m4 cc4] 24) = y4 := ⟨_, rfl⟩
      have q4 : Q x4 y4 := by rw [← hy4]; exact (Q.refl x4).cells _ _
      obtain ⟨B4, hB4⟩ : ∃ B4, x4.heap.size = B4 := ⟨_, rfl⟩
      have HB4 : Hid (y4.cell? ⟨B4, 0, none⟩ = some (.int .i64 a4) ∧ y4.cell? ⟨B4, 1, none⟩ = some (.int .i64 b4) ∧ y4.cell? ⟨B4, 2, none⟩ = some (.slice ad4 m4 cc4)) := by
        rw [← hB4, ← hy4]
        exact ⟨by simp [go_sem], by simp [go_sem], by simp [go_sem]⟩
      have HQ4 : Hid (Qb w7 y4) := HQ3.out.trans (PD4.q.qb.trans q4.qb)
      have HX4 : Hid (Qb x4 y4) := q4.qb
      have HY4 : Hid (Qb y3 y4) := PD4.q.qb.trans q4.qb
      have HPD4 : Hid _ := PD4
      clear PD4 q4 p0 p1 p2
      have p0 := HQ4.out.cell HC7.out.1.1
      have p1 := HQ4.out.cell HC7.out.1.2.1
      have p2 := HQ4.out.cell HC7.out.1.2.2
      go_wp2_with fail
      clear hy4 hB4
      refine Calls.mono (HG3.out _ _ _ (HU7.out.nextB HQ4.out)) ?_
      rintro e x5 ⟨a5, b5, ad5, m5, cc5, F5, rfl, PD5⟩
      obtain ⟨y5, hy5⟩ : ∃ y5, x5.alloc (.cells #[.int .i64 a5, .int .i64 b5, .slice ad5 m5 cc5] 24) = y5 := ⟨_, rfl⟩
      have q5 : Q x5 y5 := by rw [← hy5]; exact (Q.refl x5).cells _ _
      obtain ⟨B5, hB5⟩ : ∃ B5, x5.heap.size = B5 := ⟨_, rfl⟩
      have HB5 : Hid (y5.cell? ⟨B5, 0, none⟩ = some (.int .i64 a5) ∧ y5.cell? ⟨B5, 1, none⟩ = some (.int .i64 b5) ∧ y5.cell? ⟨B5, 2, none⟩ = some (.slice ad5 m5 cc5)) := by
        rw [← hB5, ← hy5]
        exact ⟨by simp [go_sem], by simp [go_sem], by simp [go_sem]⟩
      have HQ5 : Hid (Qb w7 y5) := HQ4.out.trans (PD5.q.qb.trans q5.qb)
      have HX5 : Hid (Qb x5 y5) := q5.qb
      have HY5 : Hid (Qb y4 y5) := PD5.q.qb.trans q5.qb
      have HPD5 : Hid _ := PD5
      clear PD5 q5 p0 p1 p2
      have p0 := HQ5.out.cell HC7.out.1.1
      have p1 := HQ5.out.cell HC7.out.1.2.1
      have p2 := HQ5.out.cell HC7.out.1.2.2
      go_wp2_with fail
      clear hy5 hB5
      refine Calls.mono (HG4.out _ _ _ (HU7.out.nextB HQ5.out)) ?_
      rintro e x6 ⟨a6, b6, ad6, m6, cc6, F6, rfl, PD6⟩
      obtain ⟨y6, hy6⟩ : ∃ y6, x6.alloc (.cells #[.int .i64 a6, .int .i64 b6, .slice ad6 m6 cc6] 24) = y6 := ⟨_, rfl⟩
      have q6 : Q x6 y6 := by rw [← hy6]; exact (Q.refl x6).cells _ _
      obtain ⟨B6, hB6⟩ : ∃ B6, x6.heap.size = B6 := ⟨_, rfl⟩
      have HB6 : Hid (y6.cell? ⟨B6, 0, none⟩ = some (.int .i64 a6) ∧ y6.cell? ⟨B6, 1, none⟩ = some (.int .i64 b6) ∧ y6.cell? ⟨B6, 2, none⟩ = some (.slice ad6 m6 cc6)) := by
        rw [← hB6, ← hy6]
        exact ⟨by simp [go_sem], by simp [go_sem], by simp [go_sem]⟩
      have HQ6 : Hid (Qb w7 y6) := HQ5.out.trans (PD6.q.qb.trans q6.qb)
      have HX6 : Hid (Qb x6 y6) := q6.qb
      have HY6 : Hid (Qb y5 y6) := PD6.q.qb.trans q6.qb
      have HPD6 : Hid _ := PD6
      clear PD6 q6 p0 p1 p2
      obtain ⟨L1, ea1, eb1, em1, u1, v1, l1⟩ := pd_joinx HPD4.out HPD1.out ((HX4.out.trans HY5.out).trans HY6.out) (((((HX1.out.trans HY2.out).trans HY3.out).trans HY4.out).trans HY5.out).trans HY6.out) HR2.out
      have HL1 : Hid (USl y6 (.slice ad1 m1 cc1) L1 ∧ USl y6 (.slice ad4 m4 cc4) L1 ∧ L1.length ≤ 65536) := ⟨u1, v1, l1⟩
      have ne1 : (F1 == F4) = true := by rw [HPD1.out.e, HPD4.out.e]; simp
      subst ea1 eb1 em1
      clear u1 v1 l1
      obtain ⟨L2, ea2, eb2, em2, u2, v2, l2⟩ := pd_joinx HPD5.out HPD2.out (HX5.out.trans HY6.out) ((((HX2.out.trans HY3.out).trans HY4.out).trans HY5.out).trans HY6.out) HR3.out
      have HL2 : Hid (USl y6 (.slice ad2 m2 cc2) L2 ∧ USl y6 (.slice ad5 m5 cc5) L2 ∧ L2.length ≤ 65536) := ⟨u2, v2, l2⟩
      have ne2 : (F2 == F5) = true := by rw [HPD2.out.e, HPD5.out.e]; simp
      subst ea2 eb2 em2
      clear u2 v2 l2
      obtain ⟨L3, ea3, eb3, em3, u3, v3, l3⟩ := pd_joinx HPD6.out HPD3.out HX6.out (((HX3.out.trans HY4.out).trans HY5.out).trans HY6.out) HR4.out
      have HL3 : Hid (USl y6 (.slice ad3 m3 cc3) L3 ∧ USl y6 (.slice ad6 m6 cc6) L3 ∧ L3.length ≤ 65536) := ⟨u3, v3, l3⟩
      have ne3 : (F3 == F6) = true := by rw [HPD3.out.e, HPD6.out.e]; simp
      subst ea3 eb3 em3
      clear u3 v3 l3
      clear HPD1 HPD2 HPD3 HPD4 HPD5 HPD6
      have k10 := (((((HY2.out.trans HY3.out).trans HY4.out).trans HY5.out).trans HY6.out)).cell HB1.out.1
      have k11 := (((((HY2.out.trans HY3.out).trans HY4.out).trans HY5.out).trans HY6.out)).cell HB1.out.2.1
      have k12 := (((((HY2.out.trans HY3.out).trans HY4.out).trans HY5.out).trans HY6.out)).cell HB1.out.2.2
      have k20 := ((((HY3.out.trans HY4.out).trans HY5.out).trans HY6.out)).cell HB2.out.1
      have k21 := ((((HY3.out.trans HY4.out).trans HY5.out).trans HY6.out)).cell HB2.out.2.1
      have k22 := ((((HY3.out.trans HY4.out).trans HY5.out).trans HY6.out)).cell HB2.out.2.2
      have k30 := (((HY4.out.trans HY5.out).trans HY6.out)).cell HB3.out.1
      have k31 := (((HY4.out.trans HY5.out).trans HY6.out)).cell HB3.out.2.1
      have k32 := (((HY4.out.trans HY5.out).trans HY6.out)).cell HB3.out.2.2
      have k40 := ((HY5.out.trans HY6.out)).cell HB4.out.1
      have k41 := ((HY5.out.trans HY6.out)).cell HB4.out.2.1
      have k42 := ((HY5.out.trans HY6.out)).cell HB4.out.2.2
      have k50 := (HY6.out).cell HB5.out.1
      have k51 := (HY6.out).cell HB5.out.2.1
      have k52 := (HY6.out).cell HB5.out.2.2
      have k60 := (Qb.refl _).cell HB6.out.1
      have k61 := (Qb.refl _).cell HB6.out.2.1
      have k62 := (Qb.refl _).cell HB6.out.2.2
      have i0 := HQ6.out.cell HC7.out.2.1.1
      have i1 := HQ6.out.cell HC7.out.2.1.2.1
      have i2 := HQ6.out.cell HC7.out.2.1.2.2
      have p0 := HQ6.out.cell HC7.out.1.1
      have p1 := HQ6.out.cell HC7.out.1.2.1
      have p2 := HQ6.out.cell HC7.out.1.2.2
      have HZ0 : Hid (Qb y6 y6) := Qb.refl _
      go_wp2_with fail
      clear hy6 hB6
      refine Calls.mono (hplanes_yes a1 b1 ad1 ad4 m1 cc1 cc4 L1 _ (HL1.out.1.nextB HZ0.out) (HL1.out.2.1.nextB HZ0.out) (by have := HL1.out.2.2; omega)) ?_
      rintro e z1 ⟨rfl, q1⟩
      have HZ1 : Hid (Qb y6 z1) := HZ0.out.trans q1.qb
      have k10 := q1.cell k10
      have k11 := q1.cell k11
      have k12 := q1.cell k12
      have k20 := q1.cell k20
      have k21 := q1.cell k21
      have k22 := q1.cell k22
      have k30 := q1.cell k30
      have k31 := q1.cell k31
      have k32 := q1.cell k32
      have k40 := q1.cell k40
      have k41 := q1.cell k41
      have k42 := q1.cell k42
      have k50 := q1.cell k50
      have k51 := q1.cell k51
      have k52 := q1.cell k52
      have k60 := q1.cell k60
      have k61 := q1.cell k61
      have k62 := q1.cell k62
      have i0 := q1.cell i0
      have i1 := q1.cell i1
      have i2 := q1.cell i2
      have p0 := q1.cell p0
      have p1 := q1.cell p1
      have p2 := q1.cell p2
      clear q1
      go_wp2_with fail
      refine Calls.mono (hplanes_yes a2 b2 ad2 ad5 m2 cc2 cc5 L2 _ (HL2.out.1.nextB HZ1.out) (HL2.out.2.1.nextB HZ1.out) (by have := HL2.out.2.2; omega)) ?_
      rintro e z2 ⟨rfl, q2⟩
      have HZ2 : Hid (Qb y6 z2) := HZ1.out.trans q2.qb
      have k10 := q2.cell k10
      have k11 := q2.cell k11
      have k12 := q2.cell k12
      have k20 := q2.cell k20
      have k21 := q2.cell k21
      have k22 := q2.cell k22
      have k30 := q2.cell k30
      have k31 := q2.cell k31
      have k32 := q2.cell k32
      have k40 := q2.cell k40
      have k41 := q2.cell k41
      have k42 := q2.cell k42
      have k50 := q2.cell k50
      have k51 := q2.cell k51
      have k52 := q2.cell k52
      have k60 := q2.cell k60
      have k61 := q2.cell k61
      have k62 := q2.cell k62
      have i0 := q2.cell i0
      have i1 := q2.cell i1
      have i2 := q2.cell i2
      have p0 := q2.cell p0
      have p1 := q2.cell p1
      have p2 := q2.cell p2
      clear q2
      go_wp2_with fail
      refine Calls.mono (hplanes_yes a3 b3 ad3 ad6 m3 cc3 cc6 L3 _ (HL3.out.1.nextB HZ2.out) (HL3.out.2.1.nextB HZ2.out) (by have := HL3.out.2.2; omega)) ?_
      rintro e z3 ⟨rfl, q3⟩
      have HZ3 : Hid (Qb y6 z3) := HZ2.out.trans q3.qb
      have k10 := q3.cell k10
      have k11 := q3.cell k11
      have k12 := q3.cell k12
      have k20 := q3.cell k20
      have k21 := q3.cell k21
      have k22 := q3.cell k22
      have k30 := q3.cell k30
      have k31 := q3.cell k31
      have k32 := q3.cell k32
      have k40 := q3.cell k40
      have k41 := q3.cell k41
      have k42 := q3.cell k42
      have k50 := q3.cell k50
      have k51 := q3.cell k51
      have k52 := q3.cell k52
      have k60 := q3.cell k60
      have k61 := q3.cell k61
      have k62 := q3.cell k62
      have i0 := q3.cell i0
      have i1 := q3.cell i1
      have i2 := q3.cell i2
      have p0 := q3.cell p0
      have p1 := q3.cell p1
      have p2 := q3.cell p2
      clear q3
      go_wp2_with fail
      refine Calls.mono (HPl.out _ _ _ (HI7.out.nextB (HQ6.out.trans HZ3.out)) (HU7.out.nextB (HQ6.out.trans HZ3.out))) ?_
      rintro e z4 ⟨rfl, q4⟩
      have HZ4 : Hid (Qb W0 z4) := HQ7.out.trans ((HQ6.out.trans HZ3.out).trans q4.qb)
      clear q4
      go_wp2_with fail
      go_ret
      exact ⟨rfl, HZ4.out⟩
end Go.Proofs.Ytikhmlcmmabapaa

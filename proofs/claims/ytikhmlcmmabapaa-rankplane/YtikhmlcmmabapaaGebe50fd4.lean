/- The statement RankPart: its walk. -/
import Derived.Test.YtikhmlcmmabapaaG57fae988
import Derived.Test.YtikhmlcmmabapaaG0b701d3b
import Derived.Test.YtikhmlcmmabapaaGf6c126f4
import Derived.Test.YtikhmlcmmabapaaGf4379e6c
import Derived.Test.YtikhmlcmmabapaaG744dc338
namespace Go.Proofs.Ytikhmlcmmabapaa
open Go.RowKit
set_option linter.unusedVariables false
set_option linter.unusedSimpArgs false

theorem pd_join {wx wy wz w' : World} {E0 : Int} {c d : Nat} {V : Nat → Nat} {a b a' b' : Int} {ad ad' : Option Addr} {m cc m' cc' : Nat} {E E' : Int} (D : Dans wx wy E0 c d V a b ad m cc E) (P : Pans wz w' E0 c d V a' b' ad' m' cc' E') (q : Qb wy w') (hB : E0 = 0 → c * d ≤ 65536) : ∃ S, a' = a ∧ b' = b ∧ m' = m ∧ USl w' (.slice ad' m' cc') S ∧ USl w' (.slice ad m cc) S ∧ S.length ≤ 65536 := by
  by_cases h : E0 = 0
  · obtain ⟨rfl, rfl, rfl, u⟩ := D.good h
    obtain ⟨g, rfl, rfl, rfl, rfl, rfl, v, _, _⟩ := P.good h
    refine ⟨prtL V (c * d), rfl, rfl, rfl, ?_, u.nextB q, by rw [prtL_len]; exact hB h⟩
    have hI : UIs w' g 0 (prtL V (c * d)) := fun i hi => by
      rw [prtL_len] at hi
      rw [Nat.zero_add, v.cell i hi]
      simp [prtL, List.getD_eq_getElem?_getD, hi]
    have := hI.usl (cap := c * d) (by rw [prtL_len]; exact Nat.le_refl _)
    rw [prtL_len] at this
    exact this
  · obtain ⟨rfl, rfl, rfl, rfl, rfl⟩ := D.bad h
    obtain ⟨rfl, rfl, rfl, rfl, rfl⟩ := P.bad h
    exact ⟨[], rfl, rfl, rfl, Or.inr ⟨_, _, rfl, rfl⟩, Or.inr ⟨_, _, rfl, rfl⟩, by decide⟩
end Go.Proofs.Ytikhmlcmmabapaa
/- The document's Plane of a rank. -/
namespace Go.Proofs.Ytikhmlcmmabapaa
open Go.RowKit
set_option linter.unusedVariables false
set_option linter.unusedSimpArgs false

theorem usl_put3 {x : World} {b : Nat} {v v0 v1 v2 : Value} {L : List Nat} (hb : ∀ o u, x.cell? ⟨b, o, none⟩ = some u → ∀ s : Int, u ≠ .int .u32 s) (h : USl x v L) : USl (put3 x b v0 v1 v2) v L := by
  rcases h with ⟨g, o, cap, rfl, hc, hI⟩ | h2
  · refine Or.inl ⟨g, o, cap, rfl, hc, fun i hi => ?_⟩
    have h1 := hI i hi
    have hne : b ≠ g := fun e => by subst e; exact hb _ _ h1 _ rfl
    unfold put3
    rw [World.cell?_setCell_other _ _ _ _ (fun e => hne (by injection e)), World.cell?_setCell_other _ _ _ _ (fun e => hne (by injection e)), World.cell?_setCell_other _ _ _ _ (fun e => hne (by injection e))]
    exact h1
  · exact Or.inr h2
set_option maxHeartbeats 8000000 in
set_option maxRecDepth 100000 in
theorem rdplane12_any (pw ph : Int) (ad : Option Addr) (n c : Nat) (S : List Nat) (bd W H k : Int) (w : World) (hU : USl w (.slice ad n c) S) (hS : S.length = n) (hSb : ∀ i, S.getD i 0 < 4294967296) (hn : n ≤ 9223372036854775807) :
    Calls Try.prog 8 #[.agg #[.int .i64 pw, .int .i64 ph, .slice ad n c], .int .i64 bd, .int .i64 W, .int .i64 H, .int .i64 k] w fun e w' => ∃ a b ad' m cc E, e = .returned (.tuple #[.agg #[.int .i64 a, .int .i64 b, .slice ad' m cc], .int .i64 E]) ∧ Dans w w' (rkE pw ph n bd W H k) pw.toNat ph.toNat (fun i => rnkV S pw.toNat ph.toNat bd.toNat W.toNat H.toNat k.toNat (i % pw.toNat) (i / pw.toNat)) a b ad' m cc E := by
  obtain ⟨w1, hw1⟩ : ∃ w1, w.alloc (.cells #[.int .i64 pw, .int .i64 ph, .slice ad n c] 24) = w1 := ⟨_, rfl⟩
  obtain ⟨w2, hw2⟩ : ∃ w2, w1.alloc (.cells #[.int .i64 0, .int .i64 0, .slice none 0 0] 24) = w2 := ⟨_, rfl⟩
  have q1 : Q w w1 := by rw [← hw1]; exact (Q.refl w).cells _ _
  have q2 : Q w1 w2 := by rw [← hw2]; exact (Q.refl w1).cells _ _
  have s1 : w1.heap.size = w.heap.size + 1 := by rw [← hw1]; simp
  have s2 : w2.heap.size = w1.heap.size + 1 := by rw [← hw2]; simp
  have p0 : w2.cell? ⟨w.heap.size, 0, none⟩ = some (.int .i64 pw) := q2.cell (by rw [← hw1]; simp [go_sem])
  have p1 : w2.cell? ⟨w.heap.size, 1, none⟩ = some (.int .i64 ph) := q2.cell (by rw [← hw1]; simp [go_sem])
  have p2 : w2.cell? ⟨w.heap.size, 2, none⟩ = some (.slice ad n c) := q2.cell (by rw [← hw1]; simp [go_sem])
  have HO : Hid ((w2.cell? ⟨w1.heap.size, 0, none⟩ = some (.int .i64 0) ∧ w2.cell? ⟨w1.heap.size, 1, none⟩ = some (.int .i64 0) ∧ w2.cell? ⟨w1.heap.size, 2, none⟩ = some (.slice none 0 0) ∧ ∀ j, w2.frozen? ⟨w1.heap.size, j, none⟩ = false) ∧ Q w w2 ∧ w.heap.size < w1.heap.size ∧ w1.heap.size < w2.heap.size) := by
    refine ⟨?_, q1.trans q2, by omega, by omega⟩
    rw [← hw2]
    exact ⟨by simp [go_sem], by simp [go_sem], by simp [go_sem], fun j => by simp [go_sem]⟩
  have HX : Hid (∀ x, Q w2 x → ∀ o u, x.cell? ⟨w1.heap.size, o, none⟩ = some u → ∀ s : Int, u ≠ .int .u32 s) := by
    intro x q o u h s e
    subst e
    rw [q.1.cell (p := ⟨w1.heap.size, o, none⟩) (by show w1.heap.size < _; omega), ← hw2] at h
    match o, h with
    | 0, h => simp [go_sem] at h
    | 1, h => simp [go_sem] at h
    | 2, h => simp [go_sem] at h
    | o + 3, h => simp [go_sem] at h
  have HR : Hid _ := rcheck12_any pw ph ad n c bd W H k hn w2
  have HU : Hid (USl w (.slice ad n c) S ∧ S.length = n ∧ ∀ i, S.getD i 0 < 4294967296) := ⟨hU, hS, hSb⟩
  have HA : Hid _ := fun x (q : Q w x) => rpart12_any pw ph ad n c S bd W H k 0 0 pw ph x (HU.out.1.next q) HU.out.2.1 HU.out.2.2 hn
  clear q1 q2 s1 s2 hU hS hSb
  by_cases hE : rkE pw ph n bd W H k = 0
  rotate_left
  · generalize (fun i => rnkV S pw.toNat ph.toNat bd.toNat W.toNat H.toNat k.toNat (i % pw.toNat) (i / pw.toNat)) = V
    obtain ⟨E, hEe⟩ : ∃ E, rkE pw ph n bd W H k = E := ⟨_, rfl⟩
    rw [hEe] at HR hE
    rw [hEe]
    have hEb : (E == 0) = false := by simp [hE]
    have hEn : (E != 0) = true := by simp [hE]
    have HE0 : Hid (E ≠ 0) := hE
    clear hEe hE HA
    go_enter Try.func8, Try.ntmps8
    go_wp2_with fail
    refine Calls.mono HR.out ?_
    rintro e w3 ⟨rfl, q3⟩
    have q2x := q3
    have o0 := q2x.cell HO.out.1.1
    have o1 := q2x.cell HO.out.1.2.1
    have o2 := q2x.cell HO.out.1.2.2.1
    have fo : ∀ j, w3.frozen? ⟨w1.heap.size, j, none⟩ = false := fun j => (q2x.2 _).trans (HO.out.1.2.2.2 j)
    have fo0 := fo 0
    have fo1 := fo 1
    have fo2 := fo 2
    have v0 := put3_c0 (v0 := (.int .i64 0)) (v1 := (.int .i64 0)) (v2 := (.slice none 0 0)) o0
    have v1 := put3_c1 (v0 := (.int .i64 0)) (v1 := (.int .i64 0)) (v2 := (.slice none 0 0)) o1
    have v2 := put3_c2 (v0 := (.int .i64 0)) (v1 := (.int .i64 0)) (v2 := (.slice none 0 0)) o2
    have HW : Hid (Q w (put3 w3 w1.heap.size (.int .i64 0) (.int .i64 0) (.slice none 0 0))) := put3_q (HO.out.2.1.trans q2x) (by have := HO.out.2.2.1; omega) _ _ _
    obtain ⟨w9, hw9⟩ : ∃ w9, put3 w3 w1.heap.size (.int .i64 0) (.int .i64 0) (.slice none 0 0) = w9 := ⟨_, rfl⟩
    rw [hw9] at HW v0 v1 v2
    have HW9 : Hid (put3 w3 w1.heap.size (.int .i64 0) (.int .i64 0) (.slice none 0 0) = w9) := hw9
    clear q2x q3 fo hw9
    go_wp2_with fail
    have h9 : ((w3.setCell ⟨w1.heap.size, 0, none⟩ (.int .i64 0)).setCell ⟨w1.heap.size, 1, none⟩ (.int .i64 0)).setCell ⟨w1.heap.size, 2, none⟩ (.slice none 0 0) = w9 := HW9.out
    rw [h9]
    exact bodyPost_ret (v := .tuple #[.agg #[(.int .i64 0), (.int .i64 0), (.slice none 0 0)], (.int .i64 E)]) (by simp [results, Try.results8, go_sem, v0, v1, v2]) rfl ⟨_, _, _, _, _, _, rfl, ⟨HW.out, rfl, fun _ => ⟨rfl, rfl, rfl, rfl, rfl⟩, fun e => absurd e HE0.out⟩⟩
  have hpe : paE pw ph n bd W H k 0 0 pw ph = 0 := by
    obtain ⟨pa, pb, b, wa, ha, kk, rfl, rfl, rfl, rfl, rfl, rfl, hsz, _⟩ := rkE_ok hE
    unfold paE
    rw [if_pos hE, if_pos]
    have h1 := hsz.a1
    have h2 := hsz.b1
    simp [spnB]
    omega
  rw [hpe] at HA
  rw [hE] at HR
  rw [hE]
  simp only [Int.sub_zero, Int.toNat_zero, Nat.zero_add] at HA
  generalize (fun i => rnkV S pw.toNat ph.toNat bd.toNat W.toNat H.toNat k.toNat (i % pw.toNat) (i / pw.toNat)) = V at HA ⊢
  clear hpe hE
  go_enter Try.func8, Try.ntmps8
  go_wp2_with fail
  refine Calls.mono HR.out ?_
  rintro e w3 ⟨rfl, q3⟩
  have p0 := q3.cell p0
  have p1 := q3.cell p1
  have p2 := q3.cell p2
  have HQ3 : Hid (Q w2 w3) := q3
  clear q3
  go_wp2_with fail
  refine Calls.mono (HA.out _ (HO.out.2.1.trans HQ3.out)) ?_
  rintro e w4 ⟨a, b, ad4, m, cc, E, rfl, D4⟩
  obtain rfl := D4.e
  have q2x : Q w2 w4 := HQ3.out.trans D4.q
  have HG : Hid (a = (pw.toNat : Int) ∧ b = (ph.toNat : Int) ∧ m = pw.toNat * ph.toNat ∧ USl (put3 w4 w1.heap.size (.int .i64 a) (.int .i64 b) (.slice ad4 m cc)) (.slice ad4 m cc) (prtL V (pw.toNat * ph.toNat))) := by
    obtain ⟨g1, g2, g3, g4⟩ := D4.good rfl
    exact ⟨g1, g2, g3, usl_put3 (HX.out _ q2x) g4⟩
  clear D4
  have o0 := q2x.cell HO.out.1.1
  have o1 := q2x.cell HO.out.1.2.1
  have o2 := q2x.cell HO.out.1.2.2.1
  have fo : ∀ j, w4.frozen? ⟨w1.heap.size, j, none⟩ = false := fun j => (q2x.2 _).trans (HO.out.1.2.2.2 j)
  have fo0 := fo 0
  have fo1 := fo 1
  have fo2 := fo 2
  have v0 := put3_c0 (v0 := (.int .i64 a)) (v1 := (.int .i64 b)) (v2 := (.slice ad4 m cc)) o0
  have v1 := put3_c1 (v0 := (.int .i64 a)) (v1 := (.int .i64 b)) (v2 := (.slice ad4 m cc)) o1
  have v2 := put3_c2 (v0 := (.int .i64 a)) (v1 := (.int .i64 b)) (v2 := (.slice ad4 m cc)) o2
  have HW : Hid (Q w (put3 w4 w1.heap.size (.int .i64 a) (.int .i64 b) (.slice ad4 m cc))) := put3_q (HO.out.2.1.trans q2x) (by have := HO.out.2.2.1; omega) _ _ _
  obtain ⟨w9, hw9⟩ : ∃ w9, put3 w4 w1.heap.size (.int .i64 a) (.int .i64 b) (.slice ad4 m cc) = w9 := ⟨_, rfl⟩
  rw [hw9] at HW v0 v1 v2 HG
  have HW9 : Hid (put3 w4 w1.heap.size (.int .i64 a) (.int .i64 b) (.slice ad4 m cc) = w9) := hw9
  clear q2x fo hw9
  go_wp2_with fail
  have h9 : ((w4.setCell ⟨w1.heap.size, 0, none⟩ (.int .i64 a)).setCell ⟨w1.heap.size, 1, none⟩ (.int .i64 b)).setCell ⟨w1.heap.size, 2, none⟩ (.slice ad4 m cc) = w9 := HW9.out
  rw [h9]
  exact bodyPost_ret (v := .tuple #[.agg #[(.int .i64 a), (.int .i64 b), (.slice ad4 m cc)], (.int .i64 0)]) (by simp [results, Try.results8, go_sem, v0, v1, v2]) rfl ⟨_, _, _, _, _, _, rfl, ⟨HW.out, rfl, fun e => absurd rfl e, fun _ => HG.out⟩⟩
end Go.Proofs.Ytikhmlcmmabapaa
/- Regions that draw their order, whose last operation waits for all others: one walk in the order of the text, and then the last operation. -/
namespace Go.Proofs.Ytikhmlcmmabapaa
open Go.RowKit
set_option linter.unusedVariables false

/-- The last operation waits for all others; each of these waits for earlier ones alone; none is guarded. -/
def lastB (pre : List Oper) (st : Oper) : Bool :=
  ((List.range pre.length).all fun k => match pre[k]? with
    | some o => o.guard.isNone && o.after.toList.all fun e => !(Region.binds .any e) || decide (e.on < k)
    | none => true) &&
  ((st.guard.isNone && st.after.toList.all fun e => !(Region.binds .any e) || decide (e.on < pre.length)) && (List.range pre.length).all fun k => st.after.toList.any fun e => Region.binds .any e && (e.on == k))
theorem lastB_pre {pre : List Oper} {st : Oper} (h : lastB pre st = true) {k : Nat} {o : Oper} (hk : pre[k]? = some o) : o.guard = none ∧ ∀ e ∈ o.after, Region.binds .any e = true → e.on < k := by
  unfold lastB at h
  rw [Bool.and_eq_true] at h
  have hlt : k < pre.length := (List.getElem?_eq_some_iff.1 hk).1
  have h1 := List.all_eq_true.1 h.1 k (List.mem_range.2 hlt)
  rw [hk] at h1
  simp only [Bool.and_eq_true] at h1
  refine ⟨by simpa using h1.1, fun e he hb => ?_⟩
  have h2 := List.all_eq_true.1 h1.2 e (by simpa using he)
  rw [hb] at h2
  simpa using h2
theorem lastB_st {pre : List Oper} {st : Oper} (h : lastB pre st = true) : st.guard = none ∧ (∀ k, k < pre.length → ∃ e ∈ st.after, Region.binds .any e = true ∧ e.on = k) ∧ ∀ e ∈ st.after, Region.binds .any e = true → e.on < pre.length := by
  unfold lastB at h
  simp only [Bool.and_eq_true] at h
  refine ⟨by simpa using h.2.1.1, fun k hk => ?_, fun e he hb => ?_⟩
  rotate_left
  · have h2 := List.all_eq_true.1 h.2.1.2 e (by simpa using he)
    rw [hb] at h2
    simpa using h2
  have h1 := List.all_eq_true.1 h.2.2 k (List.mem_range.2 hk)
  obtain ⟨e, he, h2⟩ := List.any_eq_true.1 h1
  rw [Bool.and_eq_true] at h2
  exact ⟨e, by simpa using he, h2.1, by simpa using h2.2⟩
theorem push_getD_lt (l : Array Bool) (d : Bool) {i : Nat} (h : i < l.size) : (l.push false).getD i d = l.getD i d := by
  rw [Array.getD_eq_getD_getElem?, Array.getD_eq_getD_getElem?, Array.getElem?_push_lt h, Array.getElem?_eq_getElem h]
theorem push_getD_eq (l : Array Bool) (d : Bool) : (l.push false).getD l.size d = false := by
  rw [Array.getD_eq_getD_getElem?, Array.getElem?_push_size]; rfl
theorem ops_lt {pre : List Oper} {st : Oper} {i : Nat} (h : i < pre.length) : (pre ++ [st]).toArray[i]? = pre.toArray[i]? := by
  simp [List.getElem?_append_left h]
theorem ready_lt {pre : List Oper} {st : Oper} (hB : lastB pre st = true) {listed : Array Bool} (hs : listed.size = pre.length) {i : Nat} (hi : i ∈ Region.ready .any (pre ++ [st]).toArray (listed.push false)) :
    (i < pre.length ∧ i ∈ Region.ready .any pre.toArray listed) ∨ (i = pre.length ∧ ∀ k, k < pre.length → listed.getD k false = true) := by
  obtain ⟨h1, o, ho, h2⟩ := mem_ready.1 hi
  rcases Nat.lt_trichotomy i pre.length with h | h | h
  · left
    refine ⟨h, mem_ready.2 ⟨?_, o, ?_, fun e he hb => ?_⟩⟩
    · rw [← push_getD_lt listed true (by omega)]; exact h1
    · rw [← ops_lt (st := st) h]; exact ho
    · have hk : pre[i]? = some o := by rw [ops_lt h] at ho; simpa using ho
      have := (lastB_pre hB hk).2 e he hb
      rw [← push_getD_lt listed false (by omega)]
      exact h2 e he hb
  · right
    refine ⟨h, fun k hk => ?_⟩
    have hst : o = st := by
      rw [h] at ho
      simp at ho
      exact ho.symm
    subst hst
    obtain ⟨e, he, hb, rfl⟩ := (lastB_st hB).2.1 k hk
    rw [← push_getD_lt listed false (by omega)]
    exact h2 e he hb
  · exfalso
    rw [List.getElem?_toArray, List.getElem?_eq_none (by simp; omega)] at ho
    cases ho
theorem ready_back {pre : List Oper} {st : Oper} (hB : lastB pre st = true) {listed : Array Bool} (hs : listed.size = pre.length) {i : Nat} (hi : i ∈ Region.ready .any pre.toArray listed) : i ∈ Region.ready .any (pre ++ [st]).toArray (listed.push false) := by
  obtain ⟨h1, o, ho, h2⟩ := mem_ready.1 hi
  have h : i < pre.length := by
    have := (List.getElem?_eq_some_iff.1 (show pre[i]? = some o by simpa using ho)).1
    exact this
  refine mem_ready.2 ⟨?_, o, ?_, fun e he hb => ?_⟩
  · rw [push_getD_lt listed true (by omega)]; exact h1
  · rw [ops_lt h]; exact ho
  · have hk : pre[i]? = some o := by simpa using ho
    have := (lastB_pre hB hk).2 e he hb
    rw [push_getD_lt listed false (by omega)]
    exact h2 e he hb
theorem ready_nil {pre : List Oper} {st : Oper} (hB : lastB pre st = true) {listed : Array Bool} (hs : listed.size = pre.length) (hr : Region.ready .any pre.toArray listed = []) : ∀ k, k < pre.length → listed.getD k false = true := by
  intro k
  induction k using Nat.strongRecOn with
  | ind k ih =>
    intro hk
    have hk' : k < listed.size := by omega
    cases hl : listed.getD k false with
    | true => rfl
    | false =>
      exfalso
      obtain ⟨o, ho⟩ : ∃ o, pre[k]? = some o := ⟨_, List.getElem?_eq_getElem hk⟩
      have : k ∈ Region.ready .any pre.toArray listed := by
        refine mem_ready.2 ⟨?_, o, by simpa using ho, fun e he hb => ?_⟩
        · rw [Array.getD_eq_getD_getElem?, Array.getElem?_eq_getElem hk'] at hl ⊢; exact hl
        · have := (lastB_pre hB ho).2 e he hb
          exact ih e.on this (by omega)
      rw [hr] at this
      cases this
theorem push_set (l : Array Bool) {i : Nat} (h : i < l.size) : (l.push false).setIfInBounds i true = (l.setIfInBounds i true).push false := by
  apply Array.ext_getElem?
  intro j
  rw [Array.getElem?_setIfInBounds, Array.getElem?_push, Array.getElem?_push, Array.getElem?_setIfInBounds]
  simp only [Array.size_push, Array.size_setIfInBounds]
  by_cases e : i = j
  · subst e
    have h3 : ¬ i = l.size := by omega
    have h4 : i < l.size + 1 := by omega
    simp [h, h3, h4]
  · simp [e]
theorem wpAny_done {P : Program} {ops : Array Oper} {Q' : Exit → Act → World → Prop} {listed : Array Bool} (hr : Region.ready .any ops listed = []) {a : Act} {w : World} (h : Q' .normal a w) : ∀ f, wpAny P .any ops Q' f listed a w
  | 0 => ⟨hr, h⟩
  | f + 1 => ⟨fun _ => h, fun i hi => by rw [hr] at hi; cases hi⟩
theorem wpAny_last {P : Program} {pre : List Oper} {st : Oper} {C : World → Prop} {Q : Act → Prop} {Q' : Exit → Act → World → Prop} (hB : lastB pre st = true)
    (hQ : ∀ a w, C w → Q a → st.wp P a w (fun a' w' => Q' .normal a' w') Q') : ∀ (fuel : Nat) (listed : Array Bool) (a : Act) (w : World), listed.size = pre.length → C w →
    wpAnyQ P .any pre.toArray C Q fuel listed a → wpAny P .any (pre ++ [st]).toArray Q' (fuel + 1) (listed.push false) a w := by
  have done : ∀ (fuel : Nat) (listed : Array Bool) (a : Act) (w : World), listed.size = pre.length → C w → (∀ k, k < pre.length → listed.getD k false = true) → Q a → wpAny P .any (pre ++ [st]).toArray Q' (fuel + 1) (listed.push false) a w := by
    intro fuel listed a w hs hC hall hq
    obtain ⟨g1, g2, g3⟩ := lastB_st hB
    have hrn : pre.length ∈ Region.ready .any (pre ++ [st]).toArray (listed.push false) := by
      refine mem_ready.2 ⟨?_, st, by simp, fun e he hb => ?_⟩
      · rw [← hs]; exact push_getD_eq _ _
      · have := g3 e he hb
        rw [push_getD_lt listed false (by omega)]
        exact hall _ this
    refine ⟨fun hr => (by rw [hr] at hrn; cases hrn), fun i hi => ?_⟩
    have hin : i = pre.length := by
      rcases ready_lt hB hs hi with ⟨h1, h2⟩ | ⟨h1, _⟩
      · exfalso
        obtain ⟨h3, _⟩ := mem_ready.1 h2
        have h4 := hall i h1
        rw [Array.getD_eq_getD_getElem?, Array.getElem?_eq_getElem (by omega)] at h3 h4
        simp at h3 h4
        rw [h4] at h3
        cases h3
      · exact h1
    subst hin
    unfold wpOp
    have hget : (pre ++ [st]).toArray[pre.length]? = some st := by simp
    rw [hget]
    simp only
    rw [if_pos (by unfold Region.wanted; rw [g1])]
    refine Or.inl (Oper.wp_mono (fun a' w' h => ?_) (hQ a w hC hq))
    refine wpAny_done ?_ h fuel
    cases hrr : Region.ready .any (pre ++ [st]).toArray ((listed.push false).setIfInBounds pre.length true) with
    | nil => rfl
    | cons j js =>
      exfalso
      have hj : j ∈ Region.ready .any (pre ++ [st]).toArray ((listed.push false).setIfInBounds pre.length true) := by rw [hrr]; exact List.mem_cons_self
      obtain ⟨h3, o, ho, _⟩ := mem_ready.1 hj
      have hj2 : j < (pre ++ [st]).length := by
        have := (List.getElem?_eq_some_iff.1 (show (pre ++ [st])[j]? = some o by simpa using ho)).1
        exact this
      rw [List.length_append, List.length_singleton] at hj2
      rw [Array.getD_eq_getD_getElem?, Array.getElem?_setIfInBounds] at h3
      by_cases e : pre.length = j
      · rw [if_pos e, if_pos (by rw [Array.size_push]; omega)] at h3
        cases h3
      · rw [if_neg e, Array.getElem?_push_lt (by omega)] at h3
        have h4 := hall j (by omega)
        rw [Array.getD_eq_getD_getElem?, Array.getElem?_eq_getElem (by omega)] at h4
        simp at h3 h4
        rw [h4] at h3
        cases h3
  intro fuel
  induction fuel with
  | zero =>
    intro listed a w hs hC h
    exact done 0 listed a w hs hC (ready_nil hB hs h.1) h.2
  | succ fuel ih =>
    intro listed a w hs hC h
    cases hr : Region.ready .any pre.toArray listed with
    | nil => exact done (fuel + 1) listed a w hs hC (ready_nil hB hs hr) (h.1 hr)
    | cons j js =>
      have hj : j ∈ Region.ready .any pre.toArray listed := by rw [hr]; exact List.mem_cons_self
      refine ⟨fun hn => (by have := ready_back (st := st) hB hs hj; rw [hn] at this; cases this), fun i hi => ?_⟩
      rcases ready_lt hB hs hi with ⟨h1, h2⟩ | ⟨_, h2⟩
      · have hq := h.2 i h2
        obtain ⟨o, ho⟩ : ∃ o, pre[i]? = some o := ⟨_, List.getElem?_eq_getElem h1⟩
        have hg := (lastB_pre hB ho).1
        unfold qOp at hq
        unfold wpOp
        rw [ops_lt h1]
        rw [show pre.toArray[i]? = some o by simpa using ho] at hq ⊢
        simp only at hq ⊢
        have hwt : ∀ y, Region.wanted o y = true := fun y => by unfold Region.wanted; rw [hg]
        rw [if_pos (hwt _)] at hq ⊢
        refine Or.inl (Oper.wp_of_quiet hC (fun a' w' hC' hk => ?_) hq)
        rw [push_set listed (by omega)]
        exact ih (listed.setIfInBounds i true) a' w' (by simpa using hs) hC' hk
      · exfalso
        obtain ⟨h3, o, ho, _⟩ := mem_ready.1 hj
        have hj2 : j < pre.length := (List.getElem?_eq_some_iff.1 (show pre[j]? = some o by simpa using ho)).1
        have h4 := h2 j hj2
        rw [Array.getD_eq_getD_getElem?, Array.getElem?_eq_getElem (by omega)] at h3 h4
        simp at h3 h4
        rw [h4] at h3
        cases h3
/-- The region's wp: the walk of all operations but the last, each quiet in the worlds that differ by new blocks; then the last one. -/
theorem wp_region_last {P : Program} {id : Nat} {R : Exit → Act → World → Prop} {a : Act} {w : World} {l : List Oper} (pre : List Oper) (st : Oper) (hl : l = pre ++ [st]) (hm : P.follows .mixedOrders = true) (hB : Region.lexB .any pre.toArray = true) (hL : lastB pre st = true)
    (h : wpQuiet P pre.toArray (fun w' => ∃ n : QW w, w' = n.x) (fun a' => ∀ (n : QW w) (K : Act → World → Prop), (∀ a'' w'', R .normal a'' w'' → K a'' w'') → st.wp P a' n.x K R) pre a) : (Code.region id l.toArray true).wp P R a w := by
  subst hl
  refine wp_region_any hm ?_
  have hq := wpAnyQ_lex (C := fun w' => ∃ n : QW w, w' = n.x) (md := .any) (by simp only [Region.lexB, Bool.and_eq_true] at hB; exact hB.1) pre 0 (Array.replicate pre.length false) a (by simp) (by simp only [Region.lexB, Bool.and_eq_true] at hB; simpa using hB.2) h
  have := wpAny_last (Q' := R) hL (fun a' w' hC hq => by obtain ⟨n, rfl⟩ := hC; exact hq n _ (fun _ _ h => h)) pre.length (Array.replicate pre.length false) a w.drew (by simp) ⟨⟨w.drew, (Q.refl w).drew⟩, rfl⟩ hq
  have e : (Array.replicate pre.length false).push false = Array.replicate (pre ++ [st]).toArray.size false := by
    rw [show (pre ++ [st]).toArray.size = pre.length + 1 by simp, Array.replicate_succ]
  rw [e] at this
  simpa using this
theorem wp_region_lastn {P : Program} {id : Nat} {R : Exit → Act → World → Prop} {a : Act} {w : World} {l : List Oper} (n : Nat) (hn : l.length = n + 1) (st : Oper) (hst : l[n]? = some st) (hm : P.follows .mixedOrders = true) (hB : Region.lexB .any (l.take n).toArray = true) (hL : lastB (l.take n) st = true)
    (h : wpQuiet P (l.take n).toArray (fun w' => ∃ n : QW w, w' = n.x) (fun a' => ∀ (n : QW w) (K : Act → World → Prop), (∀ a'' w'', R .normal a'' w'' → K a'' w'') → st.wp P a' n.x K R) (l.take n) a) : (Code.region id l.toArray true).wp P R a w := by
  refine wp_region_last (l.take n) st ?_ hm hB hL h
  have h1 : n < l.length := by omega
  have h2 : l[n] = st := by rw [List.getElem?_eq_getElem h1] at hst; injection hst
  rw [← h2, List.take_append_getElem h1, List.take_of_length_le (by omega)]
end Go.Proofs.Ytikhmlcmmabapaa
/- halidehelp.Spoil over a list of the caller's own. -/
namespace Go.Proofs.Ytikhmlcmmabapaa
open Go.RowKit
set_option linter.unusedVariables false
set_option linter.unusedSimpArgs false

/-- A list of samples, whatever they are, in a block that is newer than a world. -/
structure Spo (u x : World) (g n : Nat) : Prop where
  cell : ∀ i, i < n → ∃ z : Int, x.cell? ⟨g, i, none⟩ = some (.int .u32 z)
  free : ∀ j, x.frozen? ⟨g, j, none⟩ = false
  new : u.heap.size ≤ g
  q : Qb u x
theorem Spo.set {u x : World} {g n i : Nat} (h : Spo u x g n) (z : Int) : Spo u (x.setCell ⟨g, i, none⟩ (.int .u32 z)) g n := by
  refine ⟨fun j hj => ?_, fun j => by rw [World.frozen?_setCell]; exact h.free j, h.new, h.q.set h.new _⟩
  obtain ⟨y, hy⟩ := h.cell j hj
  by_cases e : j = i
  · subst e; exact ⟨z, World.cell?_setCell_same _ _ _ hy⟩
  · exact ⟨y, (World.cell?_setCell_other _ _ _ _ (fun k => e (by injection k with _ k; exact k.symm))).trans hy⟩
theorem Spo.next {u x x' : World} {g n : Nat} (h : Spo u x g n) (q : Q x x') : Spo u x' g n :=
  ⟨fun i hi => by obtain ⟨z, hz⟩ := h.cell i hi; exact ⟨z, q.cell hz⟩, fun j => by rw [q.2]; exact h.free j, h.new, h.q.trans q.qb⟩
/-- Spoil, of a list that is empty or lies in a block newer than a world. -/
def SpoA (u x : World) (ad : Option Addr) (n : Nat) : Prop := Qb u x ∧ (1 ≤ n → ∃ g, ad = some ⟨g, 0, none⟩ ∧ g < x.heap.size ∧ Spo u x g n)
set_option maxHeartbeats 4000000 in
set_option maxRecDepth 100000 in
theorem spoil_any (u w : World) (a b : Int) (ad : Option Addr) (n c : Nat) (h : SpoA u w ad n) (hn : n ≤ 9223372036854775807) :
    Calls Try.prog 11 #[.agg #[.int .i64 a, .int .i64 b, .slice ad n c]] w fun e w' => e = .returned (.tuple #[]) ∧ Qb u w' := by
  obtain ⟨w1, hw1⟩ : ∃ w1, w.alloc (.cells #[.int .i64 a, .int .i64 b, .slice ad n c] 24) = w1 := ⟨_, rfl⟩
  have q1 : Q w w1 := by rw [← hw1]; exact (Q.refl w).cells _ _
  have p2 : w1.cell? ⟨w.heap.size, 2, none⟩ = some (.slice ad n c) := by rw [← hw1]; simp [go_sem]
  obtain ⟨B, hB⟩ : ∃ B, w.heap.size = B := ⟨_, rfl⟩
  have HX : Hid ((Qb u w1 ∧ (1 ≤ n → ∃ g, ad = some ⟨g, 0, none⟩ ∧ g < B ∧ Spo u w1 g n)) ∧ w1.cell? ⟨B, 2, none⟩ = some (.slice ad n c)) := by
    refine ⟨⟨h.1.trans q1.qb, fun h1 => ?_⟩, by rw [← hB]; exact p2⟩
    obtain ⟨g, h2, h3, h4⟩ := h.2 h1
    exact ⟨g, h2, by omega, h4.next q1⟩
  rw [hB] at p2
  clear q1 h
  go_enter Try.func11, Try.ntmps11
  go_wp2_with fail
  clear hw1 hB
  go_loopg [2] n (fun m s2 wr => ∃ i : Nat, s2 = .int .i64 (i : Int) ∧ i + m = n ∧ Hid ((Qb u wr ∧ (1 ≤ n → ∃ g, ad = some ⟨g, 0, none⟩ ∧ g < B ∧ Spo u wr g n)) ∧ wr.cell? ⟨B, 2, none⟩ = some (.slice ad n c)))
  case atStart => exact ⟨0, rfl, by omega, HX⟩
  case round =>
    clear HX p2
    obtain ⟨i, rfl, hi, HX⟩ := hrel
    have p2 := HX.out.2
    by_cases hlt : i < n
    · have hlt' : (i : Int) < (n : Int) := by omega
      obtain ⟨g, rfl, hg, hs⟩ := HX.out.1.2 (by omega)
      obtain ⟨z, hz⟩ := hs.cell i hlt
      have fr := hs.free i
      have HS : Hid (Spo u wr g n ∧ g < B) := ⟨hs, hg⟩
      clear hs hg
      go_wp2_with fail
      have n0 := qw_some wr
      have f0 := qw_cell p2
      have f1 := qw_cell hz
      refine wp_region_lastn 10 rfl _ rfl (by kernel_rfl) (by kernel_rfl) (by kernel_rfl) ?_
      simp only [List.take_succ_cons, List.take_zero]
      repeat (first | go_big_quiet_step (fail) | quiet_step (fail))
      refine wpQuiet_nil ?_
      intro nn K hK
      have cz := nn.q.cell hz
      have fz : nn.x.frozen? ⟨g, i, none⟩ = false := by rw [nn.q.2]; exact fr
      have HY : Hid ((Qb u (nn.x.setCell ⟨g, i, none⟩ (.int .u32 (bits BinOp.xor IntKind.u32 z 1515870810))) ∧ (1 ≤ n → ∃ g', some (⟨g, 0, none⟩ : Addr) = some ⟨g', 0, none⟩ ∧ g' < B ∧ Spo u (nn.x.setCell ⟨g, i, none⟩ (.int .u32 (bits BinOp.xor IntKind.u32 z 1515870810))) g' n)) ∧ (nn.x.setCell ⟨g, i, none⟩ (.int .u32 (bits BinOp.xor IntKind.u32 z 1515870810))).cell? ⟨B, 2, none⟩ = some (.slice (some ⟨g, 0, none⟩) n c)) := by
        have hs := (HS.out.1.next nn.q).set (i := i) (bits BinOp.xor IntKind.u32 z 1515870810)
        refine ⟨⟨hs.q, fun _ => ⟨g, rfl, HS.out.2, hs⟩⟩, ?_⟩
        exact (World.cell?_setCell_other _ _ _ _ (fun e => by injection e with e1 e2; have := HS.out.2; omega)).trans (nn.q.cell p2)
      clear n0 f0 f1
      generalize bits BinOp.xor IntKind.u32 z 1515870810 = y at HY ⊢
      go_wp2_with fail
      generalize nn.x.setCell ⟨g, i, none⟩ (.int .u32 y) = w8 at HY ⊢
      go_roundg (n - (i + 1))
      case measure => go_light; omega
      case rel => go_light; exact ⟨i + 1, by go_num, by omega, HY⟩
    · obtain rfl : i = n := by omega
      have hge : ¬ (i : Int) < (i : Int) := by omega
      go_wp2_with fail
      go_end0
      exact ⟨rfl, HX.out.1.1⟩
end Go.Proofs.Ytikhmlcmmabapaa

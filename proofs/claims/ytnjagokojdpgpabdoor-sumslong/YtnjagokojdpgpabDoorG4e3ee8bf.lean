/- Regions that draw their order, whose last operation waits for all others: one walk in the order of the text, and then the last operation. -/
import Derived.Test.YtnjagokojdpgpabDoorGc90101b1
import Derived.Test.YtnjagokojdpgpabDoorG02079777
namespace Go.Proofs.YtnjagokojdpgpabDoor
open Go.RowKit
set_option linter.unusedVariables false

/-- The last operation waits for all others; each of these waits for earlier ones alone; none is guarded. -/
def lastB (pre : List Oper) (st : Oper) : Bool :=
  ((List.range pre.length).all fun k => match pre[k]? with
    | some o => o.guard.isNone && o.after.toList.all fun e => !(Region.binds .any e) || decide (e.on < k)
    | none => true) &&
  ((st.guard.isNone && st.after.toList.all fun e => !(Region.binds .any e) || decide (e.on < pre.length)) && (List.range pre.length).all fun k => st.after.toList.any fun e => Region.binds .any e && (e.on == k))
theorem lastB_pre {pre : List Oper} {st : Oper} (h : lastB pre st = true) {k : Nat} {o : Oper} (hk : pre[k]? = some o) : o.guard = none ∧ ∀ e ∈ o.after, Region.binds .any e = true → e.on < k := by
  unfold lastB at h
  rw [Bool.and_eq_true] at h
  have hlt : k < pre.length := (List.getElem?_eq_some_iff.1 hk).1
  have h1 := List.all_eq_true.1 h.1 k (List.mem_range.2 hlt)
  rw [hk] at h1
  simp only [Bool.and_eq_true] at h1
  refine ⟨by simpa using h1.1, fun e he hb => ?_⟩
  have h2 := List.all_eq_true.1 h1.2 e (by simpa using he)
  rw [hb] at h2
  simpa using h2
theorem lastB_st {pre : List Oper} {st : Oper} (h : lastB pre st = true) : st.guard = none ∧ (∀ k, k < pre.length → ∃ e ∈ st.after, Region.binds .any e = true ∧ e.on = k) ∧ ∀ e ∈ st.after, Region.binds .any e = true → e.on < pre.length := by
  unfold lastB at h
  simp only [Bool.and_eq_true] at h
  refine ⟨by simpa using h.2.1.1, fun k hk => ?_, fun e he hb => ?_⟩
  rotate_left
  · have h2 := List.all_eq_true.1 h.2.1.2 e (by simpa using he)
    rw [hb] at h2
    simpa using h2
  have h1 := List.all_eq_true.1 h.2.2 k (List.mem_range.2 hk)
  obtain ⟨e, he, h2⟩ := List.any_eq_true.1 h1
  rw [Bool.and_eq_true] at h2
  exact ⟨e, by simpa using he, h2.1, by simpa using h2.2⟩
theorem push_getD_lt (l : Array Bool) (d : Bool) {i : Nat} (h : i < l.size) : (l.push false).getD i d = l.getD i d := by
  rw [Array.getD_eq_getD_getElem?, Array.getD_eq_getD_getElem?, Array.getElem?_push_lt h, Array.getElem?_eq_getElem h]
theorem push_getD_eq (l : Array Bool) (d : Bool) : (l.push false).getD l.size d = false := by
  rw [Array.getD_eq_getD_getElem?, Array.getElem?_push_size]; rfl
theorem ops_lt {pre : List Oper} {st : Oper} {i : Nat} (h : i < pre.length) : (pre ++ [st]).toArray[i]? = pre.toArray[i]? := by
  simp [List.getElem?_append_left h]
theorem ready_lt {pre : List Oper} {st : Oper} (hB : lastB pre st = true) {listed : Array Bool} (hs : listed.size = pre.length) {i : Nat} (hi : i ∈ Region.ready .any (pre ++ [st]).toArray (listed.push false)) :
    (i < pre.length ∧ i ∈ Region.ready .any pre.toArray listed) ∨ (i = pre.length ∧ ∀ k, k < pre.length → listed.getD k false = true) := by
  obtain ⟨h1, o, ho, h2⟩ := mem_ready.1 hi
  rcases Nat.lt_trichotomy i pre.length with h | h | h
  · left
    refine ⟨h, mem_ready.2 ⟨?_, o, ?_, fun e he hb => ?_⟩⟩
    · rw [← push_getD_lt listed true (by omega)]; exact h1
    · rw [← ops_lt (st := st) h]; exact ho
    · have hk : pre[i]? = some o := by rw [ops_lt h] at ho; simpa using ho
      have := (lastB_pre hB hk).2 e he hb
      rw [← push_getD_lt listed false (by omega)]
      exact h2 e he hb
  · right
    refine ⟨h, fun k hk => ?_⟩
    have hst : o = st := by
      rw [h] at ho
      simp at ho
      exact ho.symm
    subst hst
    obtain ⟨e, he, hb, rfl⟩ := (lastB_st hB).2.1 k hk
    rw [← push_getD_lt listed false (by omega)]
    exact h2 e he hb
  · exfalso
    rw [List.getElem?_toArray, List.getElem?_eq_none (by simp; omega)] at ho
    cases ho
theorem ready_back {pre : List Oper} {st : Oper} (hB : lastB pre st = true) {listed : Array Bool} (hs : listed.size = pre.length) {i : Nat} (hi : i ∈ Region.ready .any pre.toArray listed) : i ∈ Region.ready .any (pre ++ [st]).toArray (listed.push false) := by
  obtain ⟨h1, o, ho, h2⟩ := mem_ready.1 hi
  have h : i < pre.length := by
    have := (List.getElem?_eq_some_iff.1 (show pre[i]? = some o by simpa using ho)).1
    exact this
  refine mem_ready.2 ⟨?_, o, ?_, fun e he hb => ?_⟩
  · rw [push_getD_lt listed true (by omega)]; exact h1
  · rw [ops_lt h]; exact ho
  · have hk : pre[i]? = some o := by simpa using ho
    have := (lastB_pre hB hk).2 e he hb
    rw [push_getD_lt listed false (by omega)]
    exact h2 e he hb
theorem ready_nil {pre : List Oper} {st : Oper} (hB : lastB pre st = true) {listed : Array Bool} (hs : listed.size = pre.length) (hr : Region.ready .any pre.toArray listed = []) : ∀ k, k < pre.length → listed.getD k false = true := by
  intro k
  induction k using Nat.strongRecOn with
  | ind k ih =>
    intro hk
    have hk' : k < listed.size := by omega
    cases hl : listed.getD k false with
    | true => rfl
    | false =>
      exfalso
      obtain ⟨o, ho⟩ : ∃ o, pre[k]? = some o := ⟨_, List.getElem?_eq_getElem hk⟩
      have : k ∈ Region.ready .any pre.toArray listed := by
        refine mem_ready.2 ⟨?_, o, by simpa using ho, fun e he hb => ?_⟩
        · rw [Array.getD_eq_getD_getElem?, Array.getElem?_eq_getElem hk'] at hl ⊢; exact hl
        · have := (lastB_pre hB ho).2 e he hb
          exact ih e.on this (by omega)
      rw [hr] at this
      cases this
theorem push_set (l : Array Bool) {i : Nat} (h : i < l.size) : (l.push false).setIfInBounds i true = (l.setIfInBounds i true).push false := by
  apply Array.ext_getElem?
  intro j
  rw [Array.getElem?_setIfInBounds, Array.getElem?_push, Array.getElem?_push, Array.getElem?_setIfInBounds]
  simp only [Array.size_push, Array.size_setIfInBounds]
  by_cases e : i = j
  · subst e
    have h3 : ¬ i = l.size := by omega
    have h4 : i < l.size + 1 := by omega
    simp [h, h3, h4]
  · simp [e]
theorem wpAny_done {P : Program} {ops : Array Oper} {Q' : Exit → Act → World → Prop} {listed : Array Bool} (hr : Region.ready .any ops listed = []) {a : Act} {w : World} (h : Q' .normal a w) : ∀ f, wpAny P .any ops Q' f listed a w
  | 0 => ⟨hr, h⟩
  | f + 1 => ⟨fun _ => h, fun i hi => by rw [hr] at hi; cases hi⟩
theorem wpAny_last {P : Program} {pre : List Oper} {st : Oper} {C : World → Prop} {Q : Act → Prop} {Q' : Exit → Act → World → Prop} (hB : lastB pre st = true)
    (hQ : ∀ a w, C w → Q a → st.wp P a w (fun a' w' => Q' .normal a' w') Q') : ∀ (fuel : Nat) (listed : Array Bool) (a : Act) (w : World), listed.size = pre.length → C w →
    wpAnyQ P .any pre.toArray C Q fuel listed a → wpAny P .any (pre ++ [st]).toArray Q' (fuel + 1) (listed.push false) a w := by
  have done : ∀ (fuel : Nat) (listed : Array Bool) (a : Act) (w : World), listed.size = pre.length → C w → (∀ k, k < pre.length → listed.getD k false = true) → Q a → wpAny P .any (pre ++ [st]).toArray Q' (fuel + 1) (listed.push false) a w := by
    intro fuel listed a w hs hC hall hq
    obtain ⟨g1, g2, g3⟩ := lastB_st hB
    have hrn : pre.length ∈ Region.ready .any (pre ++ [st]).toArray (listed.push false) := by
      refine mem_ready.2 ⟨?_, st, by simp, fun e he hb => ?_⟩
      · rw [← hs]; exact push_getD_eq _ _
      · have := g3 e he hb
        rw [push_getD_lt listed false (by omega)]
        exact hall _ this
    refine ⟨fun hr => (by rw [hr] at hrn; cases hrn), fun i hi => ?_⟩
    have hin : i = pre.length := by
      rcases ready_lt hB hs hi with ⟨h1, h2⟩ | ⟨h1, _⟩
      · exfalso
        obtain ⟨h3, _⟩ := mem_ready.1 h2
        have h4 := hall i h1
        rw [Array.getD_eq_getD_getElem?, Array.getElem?_eq_getElem (by omega)] at h3 h4
        simp at h3 h4
        rw [h4] at h3
        cases h3
      · exact h1
    subst hin
    unfold wpOp
    have hget : (pre ++ [st]).toArray[pre.length]? = some st := by simp
    rw [hget]
    simp only
    rw [if_pos (by unfold Region.wanted; rw [g1])]
    refine Or.inl (Oper.wp_mono (fun a' w' h => ?_) (hQ a w hC hq))
    refine wpAny_done ?_ h fuel
    cases hrr : Region.ready .any (pre ++ [st]).toArray ((listed.push false).setIfInBounds pre.length true) with
    | nil => rfl
    | cons j js =>
      exfalso
      have hj : j ∈ Region.ready .any (pre ++ [st]).toArray ((listed.push false).setIfInBounds pre.length true) := by rw [hrr]; exact List.mem_cons_self
      obtain ⟨h3, o, ho, _⟩ := mem_ready.1 hj
      have hj2 : j < (pre ++ [st]).length := by
        have := (List.getElem?_eq_some_iff.1 (show (pre ++ [st])[j]? = some o by simpa using ho)).1
        exact this
      rw [List.length_append, List.length_singleton] at hj2
      rw [Array.getD_eq_getD_getElem?, Array.getElem?_setIfInBounds] at h3
      by_cases e : pre.length = j
      · rw [if_pos e, if_pos (by rw [Array.size_push]; omega)] at h3
        cases h3
      · rw [if_neg e, Array.getElem?_push_lt (by omega)] at h3
        have h4 := hall j (by omega)
        rw [Array.getD_eq_getD_getElem?, Array.getElem?_eq_getElem (by omega)] at h4
        simp at h3 h4
        rw [h4] at h3
        cases h3
  intro fuel
  induction fuel with
  | zero =>
    intro listed a w hs hC h
    exact done 0 listed a w hs hC (ready_nil hB hs h.1) h.2
  | succ fuel ih =>
    intro listed a w hs hC h
    cases hr : Region.ready .any pre.toArray listed with
    | nil => exact done (fuel + 1) listed a w hs hC (ready_nil hB hs hr) (h.1 hr)
    | cons j js =>
      have hj : j ∈ Region.ready .any pre.toArray listed := by rw [hr]; exact List.mem_cons_self
      refine ⟨fun hn => (by have := ready_back (st := st) hB hs hj; rw [hn] at this; cases this), fun i hi => ?_⟩
      rcases ready_lt hB hs hi with ⟨h1, h2⟩ | ⟨_, h2⟩
      · have hq := h.2 i h2
        obtain ⟨o, ho⟩ : ∃ o, pre[i]? = some o := ⟨_, List.getElem?_eq_getElem h1⟩
        have hg := (lastB_pre hB ho).1
        unfold qOp at hq
        unfold wpOp
        rw [ops_lt h1]
        rw [show pre.toArray[i]? = some o by simpa using ho] at hq ⊢
        simp only at hq ⊢
        have hwt : ∀ y, Region.wanted o y = true := fun y => by unfold Region.wanted; rw [hg]
        rw [if_pos (hwt _)] at hq ⊢
        refine Or.inl (Oper.wp_of_quiet hC (fun a' w' hC' hk => ?_) hq)
        rw [push_set listed (by omega)]
        exact ih (listed.setIfInBounds i true) a' w' (by simpa using hs) hC' hk
      · exfalso
        obtain ⟨h3, o, ho, _⟩ := mem_ready.1 hj
        have hj2 : j < pre.length := (List.getElem?_eq_some_iff.1 (show pre[j]? = some o by simpa using ho)).1
        have h4 := h2 j hj2
        rw [Array.getD_eq_getD_getElem?, Array.getElem?_eq_getElem (by omega)] at h3 h4
        simp at h3 h4
        rw [h4] at h3
        cases h3
/-- The region's wp: the walk of all operations but the last, each quiet in the worlds that differ by new blocks; then the last one. -/
theorem wp_region_last {P : Program} {id : Nat} {R : Exit → Act → World → Prop} {a : Act} {w : World} {l : List Oper} (pre : List Oper) (st : Oper) (hl : l = pre ++ [st]) (hm : P.follows .mixedOrders = true) (hB : Region.lexB .any pre.toArray = true) (hL : lastB pre st = true)
    (h : wpQuiet P pre.toArray (fun w' => ∃ n : QW w, w' = n.x) (fun a' => ∀ (n : QW w) (K : Act → World → Prop), (∀ a'' w'', R .normal a'' w'' → K a'' w'') → st.wp P a' n.x K R) pre a) : (Code.region id l.toArray true).wp P R a w := by
  subst hl
  refine wp_region_any hm ?_
  have hq := wpAnyQ_lex (C := fun w' => ∃ n : QW w, w' = n.x) (md := .any) (by simp only [Region.lexB, Bool.and_eq_true] at hB; exact hB.1) pre 0 (Array.replicate pre.length false) a (by simp) (by simp only [Region.lexB, Bool.and_eq_true] at hB; simpa using hB.2) h
  have := wpAny_last (Q' := R) hL (fun a' w' hC hq => by obtain ⟨n, rfl⟩ := hC; exact hq n _ (fun _ _ h => h)) pre.length (Array.replicate pre.length false) a w.drew (by simp) ⟨⟨w.drew, (Q.refl w).drew⟩, rfl⟩ hq
  have e : (Array.replicate pre.length false).push false = Array.replicate (pre ++ [st]).toArray.size false := by
    rw [show (pre ++ [st]).toArray.size = pre.length + 1 by simp, Array.replicate_succ]
  rw [e] at this
  simpa using this
end Go.Proofs.YtnjagokojdpgpabDoor
/- Accumulators: what they hold; samples' kinds. -/
namespace Go.Proofs.YtnjagokojdpgpabDoor
open Go.RowKit
set_option linter.unusedVariables false
set_option linter.unusedSimpArgs false

/-- A sample's kind: -0, finite, infinities, NaN. -/
def kindV (s : Nat) : Nat := if s = 2147483648 then 1 else if s % 2147483648 < 2139095040 then 2 else if 2139095040 < s % 2147483648 then 16 else if s = 2139095040 then 4 else 8
theorem andnot_top (s : Nat) (h : s < 4294967296) : bits .andNot .u32 (s : Int) 2147483648 = ((s % 2147483648 : Nat) : Int) := by go_bits2
set_option maxHeartbeats 1000000 in
theorem kind_any (s : Nat) (hs : s < 4294967296) (w : World) : Calls Tryd.prog 38 #[.int .u32 (s : Int)] w fun e w' => e = .returned (.int .i64 (kindV s : Nat)) ∧ w' = w := by
  have e1 := andnot_top s hs
  unfold kindV
  generalize s % 2147483648 = m at *
  by_cases h1 : s = 2147483648
  · subst h1
    rw [if_pos rfl]
    go_enter Tryd.func38, Tryd.ntmps38
    go_wp2_with fail
    go_ret
    exact ⟨rfl, rfl⟩
  · have b1 : ((s : Int) == 2147483648) = false := by rw [beq_eq_false_iff_ne]; omega
    rw [if_neg h1]
    by_cases h2 : m < 2139095040
    · have b2 : (m : Int) < 2139095040 := by omega
      rw [if_pos h2]
      clear h1 h2 hs
      go_enter Tryd.func38, Tryd.ntmps38
      go_wp2_with fail
      go_ret
      exact ⟨rfl, rfl⟩
    · have b2 : ¬ (m : Int) < 2139095040 := by omega
      rw [if_neg h2]
      by_cases h3 : 2139095040 < m
      · have b3 : (2139095040 : Int) < m := by omega
        rw [if_pos h3]
        clear h1 h2 h3 hs
        go_enter Tryd.func38, Tryd.ntmps38
        go_wp2_with fail
        go_ret
        exact ⟨rfl, rfl⟩
      · have b3 : ¬ (2139095040 : Int) < m := by omega
        rw [if_neg h3]
        by_cases h4 : s = 2139095040
        · have b4 : ((s : Int) == 2139095040) = true := by rw [beq_iff_eq]; omega
          rw [if_pos h4]
          clear h1 h2 h3 h4 hs
          go_enter Tryd.func38, Tryd.ntmps38
          go_wp2_with fail
          go_ret
          exact ⟨rfl, rfl⟩
        · have b4 : ((s : Int) == 2139095040) = false := by rw [beq_eq_false_iff_ne]; omega
          rw [if_neg h4]
          clear h1 h2 h3 h4 hs
          go_enter Tryd.func38, Tryd.ntmps38
          go_wp2_with fail
          go_ret
          exact ⟨rfl, rfl⟩
theorem kind_lt (s : Nat) : kindV s < 32 := by
  unfold kindV
  split
  · decide
  · split
    · decide
    · split
      · decide
      · split <;> decide
theorem kind_fin {s : Nat} (hs : s < 4294967296) (h : kindV s = 2) : s / 8388608 % 256 < 255 := by
  unfold kindV at h
  split at h
  · cases h
  · split at h
    · omega
    · split at h
      · cases h
      · split at h <;> cases h
def unK (s : Nat) : Int := if kindV s = 2 then unZ s else 0
def sumZ (l : List Nat) : Int := l.foldl (fun z s => z + unK s) 0
def metV (l : List Nat) : Nat := l.foldl (fun m s => m ||| kindV s) 0
theorem sumZ_snoc (l : List Nat) (s : Nat) : sumZ (l ++ [s]) = sumZ l + unK s := by unfold sumZ; rw [List.foldl_append]; rfl
theorem metV_snoc (l : List Nat) (s : Nat) : metV (l ++ [s]) = metV l ||| kindV s := by unfold metV; rw [List.foldl_append]; rfl
theorem snoc_ind {P : List Nat → Prop} (h0 : P []) (h1 : ∀ l s, P l → P (l ++ [s])) (l : List Nat) : P l := by
  have : ∀ n (l : List Nat), l.length = n → P l := by
    intro n
    induction n with
    | zero => intro l h; rw [List.eq_nil_of_length_eq_zero h]; exact h0
    | succ n ih =>
      intro l h
      have hne : l ≠ [] := fun e => by rw [e] at h; cases h
      rw [← List.dropLast_concat_getLast hne]
      exact h1 _ _ (ih _ (by rw [List.length_dropLast]; omega))
  exact this _ l rfl
theorem metV_lt (l : List Nat) : metV l < 32 := by
  induction l using snoc_ind with
  | h0 => decide
  | h1 l s ih =>
    rw [metV_snoc]
    exact Nat.or_lt_two_pow (n := 5) ih (kind_lt s)
theorem sumZ_append (l m : List Nat) : sumZ (l ++ m) = sumZ l + sumZ m := by
  induction m using snoc_ind with
  | h0 => rw [List.append_nil]; exact (Int.add_zero _).symm
  | h1 m s ih => rw [← List.append_assoc, sumZ_snoc, sumZ_snoc, ih, Int.add_assoc]
theorem metV_append (l m : List Nat) : metV (l ++ m) = metV l ||| metV m := by
  induction m using snoc_ind with
  | h0 => rw [List.append_nil]; exact (Nat.or_zero _).symm
  | h1 m s ih => rw [← List.append_assoc, metV_snoc, metV_snoc, ih, Nat.or_assoc]
theorem or_small : ∀ a : Nat, a < 32 → ∀ b : Nat, b < 32 → bits .or .i64 (a : Int) (b : Int) = ((a ||| b : Nat) : Int) := by decide +kernel
def capZ : Nat := 2 ^ 24 * 2 ^ 256
theorem unZ_le {s : Nat} (h : s / 8388608 % 256 < 255) : (unZ s).natAbs < capZ := by
  have h1 := szS_lt s
  have h2 := atS_lt h
  have h3 : szS s * 2 ^ atS s < 2 ^ 24 * 2 ^ 256 := Nat.lt_of_lt_of_le (Nat.mul_lt_mul_of_pos_right h1 (Nat.two_pow_pos _)) (Nat.mul_le_mul_left _ (Nat.pow_le_pow_right (by decide) (by omega)))
  have : (unZ s).natAbs = szS s * 2 ^ atS s := by unfold unZ; split <;> omega
  rw [this]
  exact h3
theorem sumZ_le (l : List Nat) (hb : ∀ s ∈ l, s < 4294967296) : (sumZ l).natAbs ≤ l.length * capZ := by
  induction l using snoc_ind with
  | h0 => exact Nat.zero_le _
  | h1 l s ih =>
    have h1 := ih (fun x hx => hb x (List.mem_append_left _ hx))
    have h2 : (unK s).natAbs ≤ capZ := by
      unfold unK
      split
      · rename_i h
        exact Nat.le_of_lt (unZ_le (kind_fin (hb s (by simp)) h))
      · exact Nat.zero_le _
    rw [sumZ_snoc, List.length_append, List.length_singleton, Nat.add_mul, Nat.one_mul]
    generalize capZ = G at *
    omega
theorem cap_m {n : Nat} (h : n ≤ 2147483648) : 2 * (n * capZ) < m64 ^ 5 := by
  have e : capZ = 2 ^ 24 * m64 ^ 4 := by unfold capZ; rw [m64_pow]
  have e2 : m64 ^ 5 = m64 * m64 ^ 4 := by rw [Nat.pow_succ, Nat.mul_comm]
  have hp : 0 < m64 ^ 4 := Nat.pow_pos (by decide)
  rw [e, e2, ← Nat.mul_assoc, ← Nat.mul_assoc]
  refine Nat.mul_lt_mul_of_pos_right ?_ hp
  unfold m64
  omega
theorem sumZ_fits {l : List Nat} (hb : ∀ s ∈ l, s < 4294967296) (hl : l.length ≤ 2147483648) : 2 * (sumZ l).natAbs < m64 ^ 5 :=
  Nat.lt_of_le_of_lt (Nat.mul_le_mul_left 2 (sumZ_le l hb)) (cap_m hl)
/-- An accumulator of a list of samples. -/
structure AccOf (w : World) (B : Nat) (l : List Nat) (c : Nat) (N : Nat → Nat) : Prop where
  n : WIs w B N
  r : Rep N (sumZ l)
  m : w.cell? ⟨B, 5, none⟩ = some (.int .i64 (metV l : Nat))
  c : w.cell? ⟨B, 6, none⟩ = some (.int .i64 (c : Nat))
  z : ∀ j, w.frozen? ⟨B, j, none⟩ = false
theorem AccOf.next {w w' : World} {B c : Nat} {l : List Nat} {N : Nat → Nat} (h : AccOf w B l c N) (q : Q w w') : AccOf w' B l c N :=
  ⟨fun j hj => q.cell (h.n j hj), h.r, q.cell h.m, q.cell h.c, fun j => by rw [q.2]; exact h.z j⟩
theorem AccOf.far {w w' : World} {B A c : Nat} {l : List Nat} {N : Nat → Nat} (h : AccOf w B l c N) (f : Fb A w w') (hA : B ≠ A) : AccOf w' B l c N :=
  ⟨fun j hj => f.cell (h.n j hj) hA, h.r, f.cell h.m hA, f.cell h.c hA, fun j => by rw [f.frz]; exact h.z j⟩
def AccAt (w : World) (B : Nat) (l : List Nat) : Prop := ∃ N, AccOf w B l l.length N
theorem AccAt.next {w w' : World} {B : Nat} {l : List Nat} (h : AccAt w B l) (q : Q w w') : AccAt w' B l := by
  obtain ⟨N, h⟩ := h
  exact ⟨N, h.next q⟩
theorem AccAt.far {w w' : World} {B A : Nat} {l : List Nat} (h : AccAt w B l) (f : Fb A w w') (hA : B ≠ A) : AccAt w' B l := by
  obtain ⟨N, h⟩ := h
  exact ⟨N, h.far f hA⟩
end Go.Proofs.YtnjagokojdpgpabDoor
/- Accumulators: Add. -/
namespace Go.Proofs.YtnjagokojdpgpabDoor
open Go.RowKit
set_option linter.unusedVariables false
set_option linter.unusedSimpArgs false

theorem set_same {w : World} {p : Addr} {u v : Value} (h : w.cell? p = some u) : (w.setCell p v).cell? p = some v := by
  obtain ⟨b, o, t⟩ := p
  simp [go_sem, h]
theorem set_off {w : World} {B i j : Nat} {v : Value} (h : i ≠ j) : (w.setCell ⟨B, i, none⟩ v).cell? ⟨B, j, none⟩ = w.cell? ⟨B, j, none⟩ :=
  World.cell?_setCell_other _ _ _ _ (fun e => h (by injection e))
/-- One sample more. -/
theorem AccOf.met {w : World} {B c x : Nat} {l : List Nat} {N : Nat → Nat} (hn : WIs w B N) (hr : Rep N (sumZ l + unK x)) (hm : ∃ u, w.cell? ⟨B, 5, none⟩ = some u) (hc : w.cell? ⟨B, 6, none⟩ = some (.int .i64 (c : Nat))) (hz : ∀ j, w.frozen? ⟨B, j, none⟩ = false) :
    AccOf (w.setCell ⟨B, 5, none⟩ (.int .i64 ((metV l ||| kindV x : Nat) : Int))) B (l ++ [x]) c N := by
  obtain ⟨u, hu⟩ := hm
  refine ⟨fun j hj => ?_, ?_, ?_, ?_, fun j => ?_⟩
  · rw [set_off (by omega)]; exact hn j hj
  · rw [sumZ_snoc]; exact hr
  · rw [metV_snoc]; exact set_same hu
  · rw [set_off (by decide)]; exact hc
  · rw [World.frozen?_setCell]; exact hz j
theorem AccOf.cnt {w : World} {B c c' : Nat} {l : List Nat} {N : Nat → Nat} (h : AccOf w B l c N) : AccOf (w.setCell ⟨B, 6, none⟩ (.int .i64 (c' : Nat))) B l c' N := by
  refine ⟨fun j hj => ?_, h.r, ?_, ?_, fun j => ?_⟩
  · rw [set_off (by omega)]; exact h.n j hj
  · rw [set_off (by decide)]; exact h.m
  · exact set_same h.c
  · rw [World.frozen?_setCell]; exact h.z j
theorem unK_fin {x : Nat} (h : kindV x = 2) : unK x = unZ x := if_pos h
theorem unK_odd {x : Nat} (h : kindV x ≠ 2) : unK x = 0 := if_neg h
theorem take_snoc {S : List Nat} {i : Nat} (h : i < S.length) : S.take (i + 1) = S.take i ++ [S.getD i 0] := by
  rw [List.getD_eq_getElem?_getD, List.getElem?_eq_getElem h, List.take_add_one, List.getElem?_eq_getElem h]
  rfl
set_option maxHeartbeats 4000000 in
set_option maxRecDepth 100000 in
theorem acc_add (v : Value) (S l : List Nat) (B c : Nat) (N : Nat → Nat) (w : World) (hA : AccOf w B l c N) (hv : USl w v S) (hg : ∀ g o cap, 0 < S.length → v = .slice (some ⟨g, o, none⟩) S.length cap → g ≠ B) (hb : ∀ i, S.getD i 0 < 4294967296) (hn : c + S.length ≤ 35184372087808) :
    Calls Tryd.prog 12 #[.pointer (some ⟨B, 0, none⟩), v] w fun e w' => e = .returned (.tuple #[]) ∧ (∃ N', AccOf w' B (l ++ S) (c + S.length) N') ∧ Fb B w w' := by
  obtain ⟨ad, cap, rfl⟩ := hv.form
  have HA : Hid (AccOf w B l c N) := hA
  have HV : Hid (USl w (.slice ad S.length cap) S) := hv
  have HG : Hid _ := hg
  have HB : Hid (∀ i, S.getD i 0 < 4294967296) := hb
  clear hA hv hg hb
  have he : Hid (S.take S.length = S) := List.take_of_length_le (Nat.le_refl _)
  go_enter Tryd.func12, Tryd.ntmps12
  go_wp2_with fail
  go_loopg [9] (S.length) (fun gh s9 wr => ∃ i : Nat, ∃ N', s9 = .int .i64 (i : Int) ∧ i ≤ S.length ∧ gh = S.length - i ∧ Hid (AccOf wr B (l ++ S.take i) c N') ∧ Hid (Fb B w wr))
  case atStart => exact ⟨0, N, rfl, by omega, rfl, by show AccOf w B (l ++ S.take 0) c N; rw [List.take_zero, List.append_nil]; exact HA.out, Fb.refl _ _⟩
  case round =>
    obtain ⟨i, N', rfl, hi, rfl, HR, HF⟩ := hrel
    by_cases hlt : i < S.length
    · obtain ⟨g, o, cap', hsl, hcap, hI⟩ := HV.out.some (by omega)
      have HNe : Hid (g ≠ B) := HG.out g o cap' (by omega) hsl
      injection hsl with hs1 hs2 hs3
      subst hs1 hs3
      clear hs2
      have hx := HB.out i
      have hc := HF.out.cell (hI i hlt) HNe.out
      have HT : Hid (l ++ S.take (i + 1) = l ++ S.take i ++ [S.getD i 0]) := by
        show l ++ S.take (i + 1) = _
        rw [take_snoc hlt, List.append_assoc]
      generalize S.getD i 0 = x at *
      generalize l ++ S.take i = l1 at *
      have hor := or_small (metV l1) (metV_lt l1) (kindV x) (kind_lt x)
      have c5 := HR.out.m
      have z5 := HR.out.z 5
      clear hI
      by_cases hk : kindV x = 2
      · have Hk : Hid (kindV x = 2) := hk
        clear hor
        have hor : bits .or .i64 (metV l1 : Int) 2 = ((metV l1 ||| 2 : Nat) : Int) := or_small (metV l1) (metV_lt l1) 2 (by decide)
        have bk : ((2 : Int) == 2) = true := rfl
        clear hk
        go_wp2_with fail
        refine (kind_any x hx _).mono ?_
        rintro e w1 ⟨rfl, rfl⟩
        rw [Hk.out]
        go_wp2_with fail
        refine (nadd_any N' x B HR.out.r.lt hx (kind_fin hx Hk.out) _ HR.out.n HR.out.z).mono ?_
        rintro e w2 ⟨rfl, hd⟩
        have c5' : w2.cell? ⟨B, 5, none⟩ = some (.int .i64 (metV l1 : Nat)) := by rw [hd.r 5 (by decide)]; exact c5
        have z5' : w2.frozen? ⟨B, 5, none⟩ = false := by rw [hd.fb.frz]; exact z5
        have HX : Hid (AccOf (w2.setCell ⟨B, 5, none⟩ (.int .i64 ((metV l1 ||| 2 : Nat) : Int))) B (l ++ S.take (i + 1)) c (adS N' x)) := by
          have := AccOf.met (l := l1) (x := x) (c := c) hd.c (by rw [unK_fin Hk.out]; exact HR.out.r.add (kind_fin hx Hk.out)) ⟨_, c5'⟩ (by rw [hd.r 6 (by decide)]; exact HR.out.c) (fun j => by rw [hd.fb.frz]; exact HR.out.z j)
          rw [Hk.out] at this
          rw [HT.out]
          exact this
        have HY : Hid (Fb B w (w2.setCell ⟨B, 5, none⟩ (.int .i64 ((metV l1 ||| 2 : Nat) : Int)))) := (HF.out.trans hd.fb).set rfl _
        clear hd c5 z5
        go_wp2_with fail
        go_roundg (S.length - (i + 1))
        case measure => go_light; omega
        case rel =>
          go_light
          exact ⟨i + 1, _, by simp, by omega, rfl, HX.out, HY.out⟩
      · have Hk : Hid (kindV x ≠ 2) := hk
        have bk : ((kindV x : Int) == 2) = false := by rw [beq_eq_false_iff_ne]; omega
        have HX : Hid (AccOf (wr.setCell ⟨B, 5, none⟩ (.int .i64 ((metV l1 ||| kindV x : Nat) : Int))) B (l ++ S.take (i + 1)) c N') := by
          have := AccOf.met (l := l1) (x := x) (c := c) HR.out.n (by rw [unK_odd Hk.out, Int.add_zero]; exact HR.out.r) ⟨_, c5⟩ HR.out.c HR.out.z
          rw [HT.out]
          exact this
        have HY : Hid (Fb B w (wr.setCell ⟨B, 5, none⟩ (.int .i64 ((metV l1 ||| kindV x : Nat) : Int)))) := HF.out.set rfl _
        clear hk
        go_wp2_with fail
        refine (kind_any x hx _).mono ?_
        rintro e w1 ⟨rfl, rfl⟩
        go_wp2_with fail
        go_roundg (S.length - (i + 1))
        case measure => go_light; omega
        case rel =>
          go_light
          exact ⟨i + 1, _, by simp, by omega, rfl, HX.out, HY.out⟩
    · obtain rfl : i = S.length := by omega
      have hge : ¬ (S.length : Int) < (S.length : Int) := by omega
      have c6 := HR.out.c
      have z6 := HR.out.z 6
      have ew : wrap64 ((c : Int) + (S.length : Int)) = ((c + S.length : Nat) : Int) := by unfold wrap64; omega
      have HX : Hid (AccOf (wr.setCell ⟨B, 6, none⟩ (.int .i64 ((c + S.length : Nat) : Int))) B (l ++ S) (c + S.length) N') := by
        have := HR.out.cnt (c' := c + S.length)
        rw [he.out] at this
        exact this
      have HY : Hid (Fb B w (wr.setCell ⟨B, 6, none⟩ (.int .i64 ((c + S.length : Nat) : Int)))) := HF.out.set rfl _
      clear HR HF HA
      go_wp2_with fail
      refine bodyPost_end (results_none Tryd.results12 _ _ _) rfl ⟨rfl, ⟨N', HX.out⟩, HY.out⟩
end Go.Proofs.YtnjagokojdpgpabDoor

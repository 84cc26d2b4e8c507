/- Accumulators: what they tell. -/
import Derived.Test.YtjjjgdpgfndbdaaDoorGdbf04464
import Derived.Test.YtjjjgdpgfndbdaaDoorGd5dcb4f9
namespace Go.Proofs.YtjjjgdpgfndbdaaDoor
open Go.RowKit
set_option linter.unusedVariables false
set_option linter.unusedSimpArgs false

/-- A sum of finite samples, divided. -/
def exV (z : Int) (d : Nat) : Nat := Ieee.single.word (decide (z < 0)) (exR z.natAbs d)
/-- What is told of a list of samples. -/
def sumV (l : List Nat) (d : Nat) : Nat :=
  if metV l < 4 then (if sumZ l ≠ 0 then exV (sumZ l) d else if metV l = 1 then 2147483648 else 0)
  else if metV l < 8 then 2139095040 else if 8 ≤ metV l ∧ metV l < 12 then 4286578688 else 2143289344
theorem andnot3 : ∀ a : Nat, a < 32 → bits .andNot .i64 (a : Int) 3 = ((a / 4 * 4 : Nat) : Int) := by decide +kernel
theorem Rep.zero_iff {N : Nat → Nat} {z : Int} (h : Rep N z) (hz : 2 * z.natAbs < m64 ^ 5) : z = 0 ↔ ∀ j, j < 5 → N j = 0 := by
  rw [← valW_zero 5]
  constructor
  · intro h0
    have h1 := h.pos (by omega) (by generalize m64 ^ 5 = G at *; omega)
    have := h1.1
    omega
  · intro h0
    have h1 := h.eq
    rw [h0] at h1
    rcases Int.lt_trichotomy z 0 with g | g | g
    · have h2 := (h.neg g (by generalize m64 ^ 5 = G at *; omega)).2
      have h3 := (valW_zero 5).1 h0 4 (by decide)
      omega
    · exact g
    · have h2 := (h.pos (by omega) (by generalize m64 ^ 5 = G at *; omega)).1
      omega
theorem blen_fits {V : Nat} (h : 2 * V < m64 ^ 5) : blen V ≤ 320 := by
  have h1 : V < m64 ^ 5 := by
    generalize m64 ^ 5 = G at *
    omega
  rw [m64_pow] at h1
  have h2 := blen_le h1
  omega
set_option maxRecDepth 100000 in
set_option maxHeartbeats 1000000 in
theorem eq5 (a0 a1 a2 a3 a4 : Int) (w : World) : (Op.equalIn 10000 67 (.agg #[.int .u64 a0, .int .u64 a1, .int .u64 a2, .int .u64 a3, .int .u64 a4]) (.agg #[.int .u64 0, .int .u64 0, .int .u64 0, .int .u64 0, .int .u64 0])).run Tryd.prog w = .ok (a0 == 0 && (a1 == 0 && (a2 == 0 && (a3 == 0 && a4 == 0)))) w := by
  rw [show (10000 : Nat) = 9999 + 1 from rfl, Op.equalIn]
  simp [go_sem, List.range', List.forIn_cons]
  by_cases h0 : a0 = 0
  · by_cases h1 : a1 = 0
    · by_cases h2 : a2 = 0
      · by_cases h3 : a3 = 0
        · by_cases h4 : a4 = 0 <;> simp [h0, h1, h2, h3, h4]
        · simp [h0, h1, h2, h3]
      · simp [h0, h1, h2]
    · simp [h0, h1]
  · simp [h0]
theorem eq5_zero {N : Nat → Nat} (h : ∀ j, j < 5 → N j = 0) : ((N 0 : Int) == 0 && ((N 1 : Int) == 0 && ((N 2 : Int) == 0 && ((N 3 : Int) == 0 && (N 4 : Int) == 0)))) = true := by
  rw [h 0 (by decide), h 1 (by decide), h 2 (by decide), h 3 (by decide), h 4 (by decide)]; rfl
theorem eq5_some {N : Nat → Nat} (h : ¬ ∀ j, j < 5 → N j = 0) : ((N 0 : Int) == 0 && ((N 1 : Int) == 0 && ((N 2 : Int) == 0 && ((N 3 : Int) == 0 && (N 4 : Int) == 0)))) = false := by
  rw [Bool.eq_false_iff]
  intro e
  simp only [Bool.and_eq_true, beq_iff_eq] at e
  refine h (fun j hj => ?_)
  rcases j with _ | _ | _ | _ | _ | j
  · omega
  · have := e.2.1; show N 1 = 0; omega
  · have := e.2.2.1; show N 2 = 0; omega
  · have := e.2.2.2.1; show N 3 = 0; omega
  · have := e.2.2.2.2; show N 4 = 0; omega
  · omega
set_option maxHeartbeats 2000000 in
set_option maxRecDepth 100000 in
theorem finite_any (l : List Nat) (B c : Nat) (N : Nat → Nat) (w : World) (hA : AccOf w B l c N) (hz : 2 * (sumZ l).natAbs < m64 ^ 5) (d : Nat) (hd : 0 < d) (hd' : d < 4294967296) (hT : Tab w) :
    Calls Tryd.prog 93 #[.pointer (some ⟨B, 0, none⟩), .int .u64 (d : Int)] w fun e w' => e = .returned (.int .u32 ((if sumZ l ≠ 0 then exV (sumZ l) d else if metV l = 1 then 2147483648 else 0 : Nat) : Int)) ∧ Q w w' := by
  have hzi := hA.r.zero_iff hz
  have c0 := hA.n 0 (by decide)
  have c1 := hA.n 1 (by decide)
  have c2 := hA.n 2 (by decide)
  have c3 := hA.n 3 (by decide)
  have c4 := hA.n 4 (by decide)
  have c5 := hA.m
  by_cases h0 : sumZ l = 0
  · rw [if_neg (fun h => h h0)]
    have hl : ∀ w, (Op.equalIn 10000 67 (.agg #[.int .u64 (N 0), .int .u64 (N 1), .int .u64 (N 2), .int .u64 (N 3), .int .u64 (N 4)]) (.agg #[.int .u64 0, .int .u64 0, .int .u64 0, .int .u64 0, .int .u64 0])).run Tryd.prog w = .ok true w := fun w => by rw [eq5, eq5_zero (hzi.1 h0)]
    generalize metV l = m at *
    clear hzi h0 hz hA hT
    by_cases h1 : m = 1
    · rw [if_pos h1]
      have b1 : ((m : Int) == 1) = true := by rw [beq_iff_eq]; omega
      clear h1
      go_enter Tryd.func93, Tryd.ntmps93
      go_wp2_with fail
      go_ret
      exact ⟨rfl, Q.refl _⟩
    · rw [if_neg h1]
      have b1 : ((m : Int) == 1) = false := by rw [beq_eq_false_iff_ne]; omega
      clear h1
      go_enter Tryd.func93, Tryd.ntmps93
      go_wp2_with fail
      go_ret
      exact ⟨rfl, Q.refl _⟩
  · rw [if_pos h0]
    have hl : ∀ w, (Op.equalIn 10000 67 (.agg #[.int .u64 (N 0), .int .u64 (N 1), .int .u64 (N 2), .int .u64 (N 3), .int .u64 (N 4)]) (.agg #[.int .u64 0, .int .u64 0, .int .u64 0, .int .u64 0, .int .u64 0])).run Tryd.prog w = .ok false w := fun w => by rw [eq5, eq5_some (fun h => h0 (hzi.2 h))]
    have HT : Hid (Tab w) := hT
    have HR : Hid (Rep N (sumZ l)) := hA.r
    have HZ : Hid (sumZ l ≠ 0) := h0
    have HW : Hid (toldD (some (Ieee.double.read (oddW (decide (sumZ l < 0)) (sumZ l).natAbs d))) = exV (sumZ l) d) := told_odd _ (by omega) hd (blen_fits hz)
    have HF : Hid (2 * (sumZ l).natAbs < m64 ^ 5) := hz
    generalize sumZ l = z at *
    clear hzi h0 hz hA hT
    go_enter Tryd.func93, Tryd.ntmps93
    go_wp2_with fail
    refine (divided_any N z HR.out HZ.out HF.out d hd hd' _ HT.out).mono ?_
    rintro e w1 ⟨rfl, q1⟩
    go_wp2_with fail
    refine (snarrow_any _ _).mono ?_
    rintro e w2 ⟨rfl, q2⟩
    rw [HW.out]
    go_wp2_with fail
    go_ret
    exact ⟨rfl, q1.trans q2⟩
set_option maxHeartbeats 2000000 in
set_option maxRecDepth 100000 in
theorem adivided_any (l : List Nat) (B c : Nat) (N : Nat → Nat) (w : World) (hA : AccOf w B l c N) (hz : 2 * (sumZ l).natAbs < m64 ^ 5) (d : Nat) (hd : 0 < d) (hd' : d < 4294967296) (hT : Tab w) :
    Calls Tryd.prog 62 #[.pointer (some ⟨B, 0, none⟩), .int .u64 (d : Int)] w fun e w' => e = .returned (.int .u32 (sumV l d : Nat)) ∧ Q w w' := by
  have c5 := hA.m
  have hm := metV_lt l
  have e1 := andnot3 (metV l) hm
  have K := fun w (hA : AccOf w B l c N) (hT : Tab w) => finite_any l B c N w hA hz d hd hd' hT
  have HK : Hid _ := K
  have HA : Hid (AccOf w B l c N) := hA
  have HT : Hid (Tab w) := hT
  have HV : Hid (sumV l d = if metV l < 4 then (if sumZ l ≠ 0 then exV (sumZ l) d else if metV l = 1 then 2147483648 else 0) else if metV l < 8 then 2139095040 else if 8 ≤ metV l ∧ metV l < 12 then 4286578688 else 2143289344) := rfl
  clear hA hT K hz
  by_cases h1 : metV l < 4
  · have HV : Hid (sumV l d = if sumZ l ≠ 0 then exV (sumZ l) d else if metV l = 1 then 2147483648 else 0) := by
      show sumV l d = _
      rw [HV.out, if_pos h1]
    have e2 : ((metV l / 4 * 4 : Nat) : Int) = 0 := by omega
    rw [e2] at e1
    clear e2 h1 hm
    go_enter Tryd.func62, Tryd.ntmps62
    go_wp2_with fail
    refine (HK.out _ HA.out HT.out).mono ?_
    rintro e w1 ⟨rfl, q1⟩
    rw [← HV.out]
    go_wp2_with fail
    go_ret
    exact ⟨rfl, q1⟩
  · by_cases h2 : metV l < 8
    · have HV : Hid (sumV l d = 2139095040) := by
        show sumV l d = _
        rw [HV.out, if_neg h1, if_pos h2]
      have e2 : ((metV l / 4 * 4 : Nat) : Int) = 4 := by omega
      rw [e2] at e1
      clear e2 h1 h2 hm
      rw [HV.out]
      go_enter Tryd.func62, Tryd.ntmps62
      go_wp2_with fail
      go_ret
      exact ⟨rfl, Q.refl _⟩
    · by_cases h3 : metV l < 12
      · have HV : Hid (sumV l d = 4286578688) := by
          show sumV l d = _
          rw [HV.out, if_neg h1, if_neg h2, if_pos ⟨by omega, h3⟩]
        have e2 : ((metV l / 4 * 4 : Nat) : Int) = 8 := by omega
        rw [e2] at e1
        clear e2 h1 h2 h3 hm
        rw [HV.out]
        go_enter Tryd.func62, Tryd.ntmps62
        go_wp2_with fail
        go_ret
        exact ⟨rfl, Q.refl _⟩
      · have HV : Hid (sumV l d = 2143289344) := by
          show sumV l d = _
          rw [HV.out, if_neg h1, if_neg h2, if_neg (fun h => h3 h.2)]
        obtain ⟨m, hm'⟩ : ∃ m, metV l / 4 * 4 = m := ⟨_, rfl⟩
        rw [hm'] at e1
        have b0 : ((m : Int) == 0) = false := by rw [beq_eq_false_iff_ne]; omega
        have b1 : ((m : Int) == 4) = false := by rw [beq_eq_false_iff_ne]; omega
        have b2 : ((m : Int) == 8) = false := by rw [beq_eq_false_iff_ne]; omega
        clear hm' h1 h2 h3 hm
        rw [HV.out]
        go_enter Tryd.func62, Tryd.ntmps62
        go_wp2_with fail
        go_ret
        exact ⟨rfl, Q.refl _⟩
set_option maxHeartbeats 400000 in
theorem asum_any (l : List Nat) (B c : Nat) (N : Nat → Nat) (w : World) (hA : AccOf w B l c N) (hz : 2 * (sumZ l).natAbs < m64 ^ 5) (hT : Tab w) :
    Calls Tryd.prog 34 #[.pointer (some ⟨B, 0, none⟩)] w fun e w' => e = .returned (.int .u32 (sumV l 1 : Nat)) ∧ Q w w' := by
  go_enter Tryd.func34, Tryd.ntmps34
  go_wp2_with fail
  refine (adivided_any l B c N _ hA hz 1 (by decide) (by decide) hT).mono ?_
  rintro e w1 ⟨rfl, q1⟩
  go_wp2_with fail
  go_ret
  exact ⟨rfl, q1⟩
/-- What Over tells. -/
def overV (l : List Nat) (n : Int) : Nat × Int := if n < 1 ∨ 4294967295 < n then (0, 33) else (sumV l n.toNat, 0)
set_option maxHeartbeats 1000000 in
theorem aover_any (l : List Nat) (B c : Nat) (N : Nat → Nat) (w : World) (hA : AccOf w B l c N) (hz : 2 * (sumZ l).natAbs < m64 ^ 5) (hT : Tab w) (n : Int) :
    Calls Tryd.prog 61 #[.pointer (some ⟨B, 0, none⟩), .int .i64 n] w fun e w' => e = .returned (.tuple #[.int .u32 ((overV l n).1 : Nat), .int .i64 (overV l n).2]) ∧ Q w w' := by
  unfold overV
  by_cases h : n < 1
  · rw [if_pos (Or.inl h)]
    clear hA hz hT
    go_enter Tryd.func61, Tryd.ntmps61
    go_wp2_with fail
    go_ret2
    exact ⟨rfl, Q.refl _⟩
  · by_cases h2 : 4294967295 < n
    · rw [if_pos (Or.inr h2)]
      clear hA hz hT
      go_enter Tryd.func61, Tryd.ntmps61
      go_wp2_with fail
      go_ret2
      exact ⟨rfl, Q.refl _⟩
    · rw [if_neg (by omega)]
      obtain ⟨d, rfl⟩ : ∃ d : Nat, n = (d : Int) := ⟨n.toNat, by omega⟩
      have HA : Hid (AccOf w B l c N) := hA
      have HT : Hid (Tab w) := hT
      have HZ : Hid (2 * (sumZ l).natAbs < m64 ^ 5) := hz
      have h3 : 0 < d := by omega
      have h4 : d < 4294967296 := by omega
      have ew : IntKind.u64.wrap (d : Int) = (d : Int) := by rw [IntKind.wrap_u64]; omega
      clear hA hT hz
      go_enter Tryd.func61, Tryd.ntmps61
      go_wp2_with fail
      refine (adivided_any l B c N _ HA.out HZ.out d h3 h4 HT.out).mono ?_
      rintro e w1 ⟨rfl, q1⟩
      go_wp2_with fail
      go_ret2
      exact ⟨rfl, q1⟩
set_option maxHeartbeats 400000 in
theorem amean_any (l : List Nat) (B c : Nat) (N : Nat → Nat) (w : World) (hA : AccOf w B l c N) (hz : 2 * (sumZ l).natAbs < m64 ^ 5) (hT : Tab w) :
    Calls Tryd.prog 33 #[.pointer (some ⟨B, 0, none⟩)] w fun e w' => e = .returned (.tuple #[.int .u32 ((overV l c).1 : Nat), .int .i64 (overV l c).2]) ∧ Q w w' := by
  have c6 := hA.c
  go_enter Tryd.func33, Tryd.ntmps33
  go_wp2_with fail
  refine (aover_any l B c N _ hA hz hT c).mono ?_
  rintro e w1 ⟨rfl, q1⟩
  go_wp2_with fail
  go_ret2
  exact ⟨rfl, q1⟩
set_option maxHeartbeats 400000 in
theorem acount_any (B : Nat) (c : Int) (w : World) (c6 : w.cell? ⟨B, 6, none⟩ = some (.int .i64 c)) :
    Calls Tryd.prog 35 #[.pointer (some ⟨B, 0, none⟩)] w fun e w' => e = .returned (.int .i64 c) ∧ w' = w := by
  go_enter Tryd.func35, Tryd.ntmps35
  go_wp2_with fail
  go_ret
  exact ⟨rfl, rfl⟩
end Go.Proofs.YtjjjgdpgfndbdaaDoor
/- Regions that draw their order, whose last operation waits, at last, for all others (by way of some that it waits for). -/
namespace Go.Proofs.YtjjjgdpgfndbdaaDoor
open Go.RowKit
set_option linter.unusedVariables false

def lastR (pre : List Oper) (st : Oper) : Bool :=
  ((List.range pre.length).all fun k => match pre[k]? with
    | some o => o.guard.isNone && o.after.toList.all fun e => !(Region.binds .any e) || decide (e.on < k)
    | none => true) &&
  ((st.guard.isNone && st.after.toList.all fun e => !(Region.binds .any e) || decide (e.on < pre.length)) && (List.range pre.length).all fun k => (reach pre 3 ((st.after.toList.filter (Region.binds .any)).map (·.on))).contains k)
theorem lastR_pre {pre : List Oper} {st : Oper} (h : lastR pre st = true) {k : Nat} {o : Oper} (hk : pre[k]? = some o) : o.guard = none ∧ ∀ e ∈ o.after, Region.binds .any e = true → e.on < k := by
  unfold lastR at h
  rw [Bool.and_eq_true] at h
  have hlt : k < pre.length := (List.getElem?_eq_some_iff.1 hk).1
  have h1 := List.all_eq_true.1 h.1 k (List.mem_range.2 hlt)
  rw [hk] at h1
  simp only [Bool.and_eq_true] at h1
  refine ⟨by simpa using h1.1, fun e he hb => ?_⟩
  have h2 := List.all_eq_true.1 h1.2 e (by simpa using he)
  rw [hb] at h2
  simpa using h2
theorem lastR_st {pre : List Oper} {st : Oper} (h : lastR pre st = true) : st.guard = none ∧ (∀ k, k < pre.length → k ∈ reach pre 3 ((st.after.toList.filter (Region.binds .any)).map (·.on))) ∧ ∀ e ∈ st.after, Region.binds .any e = true → e.on < pre.length := by
  unfold lastR at h
  simp only [Bool.and_eq_true] at h
  refine ⟨by simpa using h.2.1.1, fun k hk => ?_, fun e he hb => ?_⟩
  · have h1 := List.all_eq_true.1 h.2.2 k (List.mem_range.2 hk)
    simpa using h1
  · have h2 := List.all_eq_true.1 h.2.1.2 e (by simpa using he)
    rw [hb] at h2
    simpa using h2
theorem ready_ltR {pre : List Oper} {st : Oper} (hB : lastR pre st = true) {listed : Array Bool} (hs : listed.size = pre.length) (hc : ∀ (j : Nat) (o : Oper), listed.getD j false = true → pre[j]? = some o → ∀ e ∈ o.after, Region.binds .any e = true → listed.getD e.on false = true) {i : Nat} (hi : i ∈ Region.ready .any (pre ++ [st]).toArray (listed.push false)) :
    (i < pre.length ∧ i ∈ Region.ready .any pre.toArray listed) ∨ (i = pre.length ∧ ∀ k, k < pre.length → listed.getD k false = true) := by
  obtain ⟨h1, o, ho, h2⟩ := mem_ready.1 hi
  rcases Nat.lt_trichotomy i pre.length with h | h | h
  · left
    refine ⟨h, mem_ready.2 ⟨?_, o, ?_, fun e he hb => ?_⟩⟩
    · rw [← push_getD_lt listed true (by omega)]; exact h1
    · rw [← ops_lt (st := st) h]; exact ho
    · have hk : pre[i]? = some o := by rw [ops_lt h] at ho; simpa using ho
      have := (lastR_pre hB hk).2 e he hb
      rw [← push_getD_lt listed false (by omega)]
      exact h2 e he hb
  · right
    refine ⟨h, fun k hk => ?_⟩
    have hst : o = st := by
      rw [h] at ho
      simp at ho
      exact ho.symm
    subst hst
    obtain ⟨g1, g2, g3⟩ := lastR_st hB
    refine deps_got hc (fun e he hb => ?_) k (g2 k hk)
    have := g3 e he hb
    rw [← push_getD_lt listed false (by omega)]
    exact h2 e he hb
  · exfalso
    rw [List.getElem?_toArray, List.getElem?_eq_none (by simp; omega)] at ho
    cases ho
theorem ready_backR {pre : List Oper} {st : Oper} (hB : lastR pre st = true) {listed : Array Bool} (hs : listed.size = pre.length) {i : Nat} (hi : i ∈ Region.ready .any pre.toArray listed) : i ∈ Region.ready .any (pre ++ [st]).toArray (listed.push false) := by
  obtain ⟨h1, o, ho, h2⟩ := mem_ready.1 hi
  have h : i < pre.length := by
    have := (List.getElem?_eq_some_iff.1 (show pre[i]? = some o by simpa using ho)).1
    exact this
  refine mem_ready.2 ⟨?_, o, ?_, fun e he hb => ?_⟩
  · rw [push_getD_lt listed true (by omega)]; exact h1
  · rw [ops_lt h]; exact ho
  · have hk : pre[i]? = some o := by simpa using ho
    have := (lastR_pre hB hk).2 e he hb
    rw [push_getD_lt listed false (by omega)]
    exact h2 e he hb
theorem ready_nilR {pre : List Oper} {st : Oper} (hB : lastR pre st = true) {listed : Array Bool} (hs : listed.size = pre.length) (hr : Region.ready .any pre.toArray listed = []) : ∀ k, k < pre.length → listed.getD k false = true := by
  intro k
  induction k using Nat.strongRecOn with
  | ind k ih =>
    intro hk
    have hk' : k < listed.size := by omega
    cases hl : listed.getD k false with
    | true => rfl
    | false =>
      exfalso
      obtain ⟨o, ho⟩ : ∃ o, pre[k]? = some o := ⟨_, List.getElem?_eq_getElem hk⟩
      have : k ∈ Region.ready .any pre.toArray listed := by
        refine mem_ready.2 ⟨?_, o, by simpa using ho, fun e he hb => ?_⟩
        · rw [Array.getD_eq_getD_getElem?, Array.getElem?_eq_getElem hk'] at hl ⊢; exact hl
        · have := (lastR_pre hB ho).2 e he hb
          exact ih e.on this (by omega)
      rw [hr] at this
      cases this
theorem wpAny_lastR {P : Program} {pre : List Oper} {st : Oper} {C : World → Prop} {Q : Act → Prop} {Q' : Exit → Act → World → Prop} (hB : lastR pre st = true)
    (hQ : ∀ a w, C w → Q a → st.wp P a w (fun a' w' => Q' .normal a' w') Q') : ∀ (fuel : Nat) (listed : Array Bool) (a : Act) (w : World), listed.size = pre.length → (∀ (j : Nat) (o : Oper), listed.getD j false = true → pre[j]? = some o → ∀ e ∈ o.after, Region.binds .any e = true → listed.getD e.on false = true) → C w →
    wpAnyQ P .any pre.toArray C Q fuel listed a → wpAny P .any (pre ++ [st]).toArray Q' (fuel + 1) (listed.push false) a w := by
  have done : ∀ (fuel : Nat) (listed : Array Bool) (a : Act) (w : World), listed.size = pre.length → (∀ (j : Nat) (o : Oper), listed.getD j false = true → pre[j]? = some o → ∀ e ∈ o.after, Region.binds .any e = true → listed.getD e.on false = true) → C w → (∀ k, k < pre.length → listed.getD k false = true) → Q a → wpAny P .any (pre ++ [st]).toArray Q' (fuel + 1) (listed.push false) a w := by
    intro fuel listed a w hs hc hC hall hq
    obtain ⟨g1, g2, g3⟩ := lastR_st hB
    have hrn : pre.length ∈ Region.ready .any (pre ++ [st]).toArray (listed.push false) := by
      refine mem_ready.2 ⟨?_, st, by simp, fun e he hb => ?_⟩
      · rw [← hs]; exact push_getD_eq _ _
      · have := g3 e he hb
        rw [push_getD_lt listed false (by omega)]
        exact hall _ this
    refine ⟨fun hr => (by rw [hr] at hrn; cases hrn), fun i hi => ?_⟩
    have hin : i = pre.length := by
      rcases ready_ltR hB hs hc hi with ⟨h1, h2⟩ | ⟨h1, _⟩
      · exfalso
        obtain ⟨h3, _⟩ := mem_ready.1 h2
        have h4 := hall i h1
        rw [Array.getD_eq_getD_getElem?, Array.getElem?_eq_getElem (by omega)] at h3 h4
        simp at h3 h4
        rw [h4] at h3
        cases h3
      · exact h1
    subst hin
    unfold wpOp
    have hget : (pre ++ [st]).toArray[pre.length]? = some st := by simp
    rw [hget]
    simp only
    rw [if_pos (by unfold Region.wanted; rw [g1])]
    refine Or.inl (Oper.wp_mono (fun a' w' h => ?_) (hQ a w hC hq))
    refine wpAny_done ?_ h fuel
    cases hrr : Region.ready .any (pre ++ [st]).toArray ((listed.push false).setIfInBounds pre.length true) with
    | nil => rfl
    | cons j js =>
      exfalso
      have hj : j ∈ Region.ready .any (pre ++ [st]).toArray ((listed.push false).setIfInBounds pre.length true) := by rw [hrr]; exact List.mem_cons_self
      obtain ⟨h3, o, ho, _⟩ := mem_ready.1 hj
      have hj2 : j < (pre ++ [st]).length := by
        have := (List.getElem?_eq_some_iff.1 (show (pre ++ [st])[j]? = some o by simpa using ho)).1
        exact this
      rw [List.length_append, List.length_singleton] at hj2
      rw [Array.getD_eq_getD_getElem?, Array.getElem?_setIfInBounds] at h3
      by_cases e : pre.length = j
      · rw [if_pos e, if_pos (by rw [Array.size_push]; omega)] at h3
        cases h3
      · rw [if_neg e, Array.getElem?_push_lt (by omega)] at h3
        have h4 := hall j (by omega)
        rw [Array.getD_eq_getD_getElem?, Array.getElem?_eq_getElem (by omega)] at h4
        simp at h3 h4
        rw [h4] at h3
        cases h3
  intro fuel
  induction fuel with
  | zero =>
    intro listed a w hs hc hC h
    exact done 0 listed a w hs hc hC (ready_nilR hB hs h.1) h.2
  | succ fuel ih =>
    intro listed a w hs hc hC h
    cases hr : Region.ready .any pre.toArray listed with
    | nil => exact done (fuel + 1) listed a w hs hc hC (ready_nilR hB hs hr) (h.1 hr)
    | cons j js =>
      have hj : j ∈ Region.ready .any pre.toArray listed := by rw [hr]; exact List.mem_cons_self
      refine ⟨fun hn => (by have := ready_backR (st := st) hB hs hj; rw [hn] at this; cases this), fun i hi => ?_⟩
      rcases ready_ltR hB hs hc hi with ⟨h1, h2⟩ | ⟨_, h2⟩
      · have hq := h.2 i h2
        obtain ⟨o, ho⟩ : ∃ o, pre[i]? = some o := ⟨_, List.getElem?_eq_getElem h1⟩
        have hg := (lastR_pre hB ho).1
        unfold qOp at hq
        unfold wpOp
        rw [ops_lt h1]
        rw [show pre.toArray[i]? = some o by simpa using ho] at hq ⊢
        simp only at hq ⊢
        have hwt : ∀ y, Region.wanted o y = true := fun y => by unfold Region.wanted; rw [hg]
        rw [if_pos (hwt _)] at hq ⊢
        refine Or.inl (Oper.wp_of_quiet hC (fun a' w' hC' hk => ?_) hq)
        rw [push_set listed (by omega)]
        have hd : ∀ e ∈ o.after, Region.binds .any e = true → listed.getD e.on false = true := by
          obtain ⟨_, o2, ho2, hd⟩ := mem_ready.1 h2
          have e2 : o = o2 := by
            rw [show pre.toArray[i]? = some o by simpa using ho] at ho2
            injection ho2
          rw [e2]
          exact hd
        exact ih (listed.setIfInBounds i true) a' w' (by simpa using hs) (closed_set ho hc hd) hC' hk
      · exfalso
        obtain ⟨h3, o, ho, _⟩ := mem_ready.1 hj
        have hj2 : j < pre.length := (List.getElem?_eq_some_iff.1 (show pre[j]? = some o by simpa using ho)).1
        have h4 := h2 j hj2
        rw [Array.getD_eq_getD_getElem?, Array.getElem?_eq_getElem (by omega)] at h3 h4
        simp at h3 h4
        rw [h4] at h3
        cases h3
/-- The region's wp: the walk of all operations but the last, each quiet in the worlds that differ by new blocks; then the last one. -/
theorem wp_region_lastR {P : Program} {id : Nat} {R : Exit → Act → World → Prop} {a : Act} {w : World} {l : List Oper} (pre : List Oper) (st : Oper) (hl : l = pre ++ [st]) (hm : P.follows .mixedOrders = true) (hB : Region.lexB .any pre.toArray = true) (hL : lastR pre st = true)
    (h : wpQuiet P pre.toArray (fun w' => ∃ n : QW w, w' = n.x) (fun a' => ∀ (n : QW w) (K : Act → World → Prop), (∀ a'' w'', R .normal a'' w'' → K a'' w'') → st.wp P a' n.x K R) pre a) : (Code.region id l.toArray true).wp P R a w := by
  subst hl
  refine wp_region_any hm ?_
  have hq := wpAnyQ_lex (C := fun w' => ∃ n : QW w, w' = n.x) (md := .any) (by simp only [Region.lexB, Bool.and_eq_true] at hB; exact hB.1) pre 0 (Array.replicate pre.length false) a (by simp) (by simp only [Region.lexB, Bool.and_eq_true] at hB; simpa using hB.2) h
  have := wpAny_lastR (Q' := R) hL (fun a' w' hC hq => by obtain ⟨n, rfl⟩ := hC; exact hq n _ (fun _ _ h => h)) pre.length (Array.replicate pre.length false) a w.drew (by simp) (fun j o hj => by rw [Array.getD_eq_getD_getElem?, Array.getElem?_replicate] at hj; split at hj <;> cases hj) ⟨⟨w.drew, (Q.refl w).drew⟩, rfl⟩ hq
  have e : (Array.replicate pre.length false).push false = Array.replicate (pre ++ [st]).toArray.size false := by
    rw [show (pre ++ [st]).toArray.size = pre.length + 1 by simp, Array.replicate_succ]
  rw [e] at this
  simpa using this
theorem wp_lastR {P : Program} {id : Nat} {R : Exit → Act → World → Prop} {a : Act} {w : World} {l : List Oper} (n : Nat) (hn : l.length = n + 1) (st : Oper) (hst : l[n]? = some st) (hm : P.follows .mixedOrders = true) (hB : Region.lexB .any (l.take n).toArray = true) (hL : lastR (l.take n) st = true)
    (h : wpQuiet P (l.take n).toArray (fun w' => ∃ n : QW w, w' = n.x) (fun a' => ∀ (n : QW w) (K : Act → World → Prop), (∀ a'' w'', R .normal a'' w'' → K a'' w'') → st.wp P a' n.x K R) (l.take n) a) : (Code.region id l.toArray true).wp P R a w := by
  refine wp_region_lastR (l.take n) st ?_ hm hB hL h
  have h1 : n < l.length := by omega
  have h2 : l[n] = st := by rw [List.getElem?_eq_getElem h1] at hst; injection hst
  rw [← h2, List.take_append_getElem h1, List.take_of_length_le (by omega)]
end Go.Proofs.YtjjjgdpgfndbdaaDoor

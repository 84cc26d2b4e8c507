/- One sample, with weights that sum to 65536, is that sample. Plain. -/
import Derived.Test.YtnlphjekillciaaG9414b12e
import Derived.Test.YtnlphjekillciaaGb203f858
namespace Go.Proofs.Ytnlphjekillciaa
open Go.RowKit
set_option linter.unusedVariables false
set_option linter.unusedSimpArgs false

theorem finite_nan {x : Nat} (hx : rung32 x < 2139095040) : nanN x = false := by rw [nanN_rung]; exact decide_eq_false (by omega)
theorem sampleZ_zero {x : Nat} (h : sampleZ x = 0) : rung32 x = 0 := by
  rcases Nat.eq_zero_or_pos (rung32 x) with c | c
  · exact c
  · have hv : 0 < val32 (rung32 x) := Nat.lt_of_le_of_lt (Nat.zero_le _) (val_inj_lt32.2 c)
    have hm : 0 < mag32 (rung32 x) := Nat.pos_of_ne_zero (fun z => by unfold val32 at hv; rw [z, Nat.zero_mul] at hv; exact absurd hv (Nat.lt_irrefl 0))
    have e : (sampleZ x).natAbs = mag32 (rung32 x) * 2 ^ (plc32 (rung32 x) + 925) := signed_abs _ _ _
    have := Nat.mul_pos hm (Nat.two_pow_pos (plc32 (rung32 x) + 925))
    rw [← e, h] at this
    exact absurd this (Nat.lt_irrefl 0)
theorem sval_abs (a : Nat) : (sval64 a).natAbs = val64 (rung64 a) := by
  unfold sval64
  generalize val64 (rung64 a) = v
  split <;> omega
theorem nlt_eq {a b v : Nat} (h1 : val64 a = v) (h2 : val64 b = v) : a = b := by
  have n1 : ¬ a < b := fun h => by have := val_inj_lt64.2 h; rw [h1, h2] at this; exact absurd this (Nat.lt_irrefl _)
  have n2 : ¬ b < a := fun h => by have := val_inj_lt64.2 h; rw [h1, h2] at this; exact absurd this (Nat.lt_irrefl _)
  omega
theorem neg_65536 (X : Int) : decide (65536 * X < 0) = decide (X < 0) := decide_eq_decide.2 ⟨fun h => by omega, fun h => by omega⟩
theorem abs_65536 (X : Int) : (65536 * X).natAbs = X.natAbs * 2 ^ 16 := by rw [Int.natAbs_mul]; show 65536 * _ = _ * 65536; exact Nat.mul_comm _ _
theorem over_fin {D : Nat} (h : rung64 D < 9218868437227405312) : overW D = toldD (some (Ieee.double.read (Ieee.double.word (sgn64 D) (rungOf Ieee.double (mag64 (rung64 D)) (-1074 + (plc64 (rung64 D) : Int) - 16))))) := by
  have e : floatBits .quo .f64 D 4679240012837945344 = some (Ieee.double.word (sgn64 D) (rungOf Ieee.double (mag64 (rung64 D)) (-1074 + (plc64 (rung64 D) : Int) - 16))) := by
    show ((Ieee.double.read D).quotient (Ieee.double.fractionBits + 2) (Ieee.double.read 4679240012837945344)).map Ieee.double.write = _
    rw [read_fin64 h, read_65536q]
    have := quo_power64q (sgn64 D) (mag_lt64 (rung64 D)) (-1074 + (plc64 (rung64 D) : Int)) (-36)
    rw [show -1074 + (plc64 (rung64 D) : Int) - -36 - 52 = -1074 + (plc64 (rung64 D) : Int) - 16 by omega] at this
    exact this
  unfold overW
  rw [e]
theorem over_const {x D : Nat} (hx : rung32 x < 2139095040) (hx4 : x < 4294967296) (hD : IsDq (sampleZ x) 65536 D) (h0 : sampleZ x ≠ 0) : overW D = x := by
  obtain ⟨m, g, h1, h2, h3⟩ := X_formq hx
  obtain ⟨r1, s1⟩ := hD.sval h1 h2 h3 (by decide)
  obtain ⟨v1, f1⟩ := kX_valq (k := 1) h1 h2 h3 (by decide)
  rw [Int.one_mul] at v1 f1
  obtain ⟨w1, w2, w3⟩ := wide_fin hx
  have hne : (65536 : Int) * sampleZ x ≠ 0 := Int.mul_ne_zero (by decide) h0
  have hsg : sgn64 D = sgn32 x := by
    rw [hD.2.2 hne]
    have hsx : sgn32 x = decide (sampleZ x < 0) := signed_sign (s := sgn32 x) (m := mag32 (rung32 x)) (k := plc32 (rung32 x) + 925) h0
    rw [hsx]
    exact neg_65536 _
  have hval : mag64 (rung64 D) * 2 ^ plc64 (rung64 D) = (sampleZ x).natAbs * 2 ^ 16 := by
    have e1 : val64 (rung64 D) = (65536 * sampleZ x).natAbs := by
      rw [hD.2.1]
      exact (kX_valq (k := 65536) h1 h2 h3 (by decide)).1
    have e2 : val64 (rung64 D) = mag64 (rung64 D) * 2 ^ plc64 (rung64 D) := rfl
    rw [← e2, e1]
    exact abs_65536 _
  have hr : rungOf Ieee.double (mag64 (rung64 D)) (-1074 + (plc64 (rung64 D) : Int) - 16) = rungOf Ieee.double (sampleZ x).natAbs (-1074) := by
    have a := rung_scale Ieee.double (mag64 (rung64 D)) (plc64 (rung64 D)) (-1090)
    have b := rung_scale Ieee.double (sampleZ x).natAbs 16 (-1090)
    rw [hval, b] at a
    rw [show -1074 + (plc64 (rung64 D) : Int) - 16 = -1090 + (plc64 (rung64 D) : Int) by omega, ← a]
    rfl
  have hrw : rungOf Ieee.double (sampleZ x).natAbs (-1074) = rung64 (wideN x) := by
    have e : val64 (rung64 (wideN x)) = (sampleZ x).natAbs := by
      rw [← w3]
      exact (sval_abs _).symm
    exact nlt_eq v1 e
  rw [over_fin r1, hr, hrw, hsg]
  obtain ⟨k1, k2⟩ := sgn_word64 (sgn32 x) (r := rung64 (wideN x)) (by omega)
  have hread : Ieee.double.read (Ieee.double.word (sgn32 x) (rung64 (wideN x))) = Ieee.double.read (wideN x) := by
    rw [read_fin64 (by rw [k2]; exact w1), read_fin64 w1, k1, k2, w2]
  have hn := finite_nan hx
  have ew : wideW x = wideN x := by unfold wideW; rw [hn]; rfl
  rw [hread, ← ew, narrow_wide hx4, madeN_of hn]
/-- Noughts. -/
theorem prod_zero {y : Int} {s : Nat} (hs : s = 0 ∨ s = 2147483648) (h0 : y ≤ 268435456) (h1 : -268435456 ≤ y) : prodV y s = if (decide (y < 0) ^^ decide (s = 2147483648)) = true then 9223372036854775808 else 0 := by
  obtain ⟨j, p, hr, hp⟩ := read_weightq h0 h1
  have hw : Ieee.double.read (wideW s) = .number (decide (s = 2147483648)) 0 (-1074) := by
    rcases hs with rfl | rfl
    · decide +kernel
    · decide +kernel
  unfold prodV
  rw [hr, hw]
  have he : (Ieee.Datum.number (decide (y < 0)) (y.natAbs * 2 ^ j) p).product (.number (decide (s = 2147483648)) 0 (-1074)) = some (.number (decide (y < 0) ^^ decide (s = 2147483648)) (y.natAbs * 2 ^ j * 0) (p + -1074)) := rfl
  rw [he, told64_numq, Nat.mul_zero, rungOf_zero]
  cases (decide (y < 0) ^^ decide (s = 2147483648))
  · rfl
  · decide
theorem add_00 : add64V 0 0 = 0 := by decide +kernel
theorem add_0m : add64V 0 9223372036854775808 = 0 := by decide +kernel
theorem add_m0 : add64V 9223372036854775808 0 = 0 := by decide +kernel
theorem add_mm : add64V 9223372036854775808 9223372036854775808 = 9223372036854775808 := by decide +kernel
theorem over_0 : overW 0 = 0 := by decide +kernel
theorem over_m : overW 9223372036854775808 = 2147483648 := by decide +kernel
theorem fold_zero : ∀ (l : List Nat) (A : Nat), (A = 0 ∨ A = 9223372036854775808) → (∀ p ∈ l, p = 0 ∨ p = 9223372036854775808) → (l.foldl add64V A = 0 ∨ l.foldl add64V A = 9223372036854775808) ∧ ((A = 0 ∨ 0 ∈ l) → l.foldl add64V A = 0) ∧ ((A = 9223372036854775808 ∧ ∀ p ∈ l, p = 9223372036854775808) → l.foldl add64V A = 9223372036854775808)
  | [], A, hA, _ => by
    refine ⟨hA, fun h => ?_, fun h => h.1⟩
    rcases h with h | h
    · exact h
    · cases h
  | p :: l, A, hA, hl => by
    rw [List.foldl_cons]
    have hp := hl p (by simp)
    have hA2 : add64V A p = 0 ∨ add64V A p = 9223372036854775808 := by
      rcases hA with rfl | rfl <;> rcases hp with rfl | rfl
      · exact Or.inl add_00
      · exact Or.inl add_0m
      · exact Or.inl add_m0
      · exact Or.inr add_mm
    obtain ⟨a, b, c⟩ := fold_zero l (add64V A p) hA2 (fun q hq => hl q (by simp [hq]))
    refine ⟨a, fun h => ?_, fun h => ?_⟩
    · rcases h with h | h
      · subst h
        refine b (Or.inl ?_)
        rcases hp with rfl | rfl
        · exact add_00
        · exact add_0m
      · rcases List.mem_cons.1 h with h | h
        · subst h
          refine b (Or.inl ?_)
          rcases hA with rfl | rfl
          · exact add_00
          · exact add_m0
        · exact b (Or.inr h)
    · obtain ⟨rfl, h2⟩ := h
      have e := h2 p (by simp)
      subst e
      exact c ⟨add_mm, fun q hq => h2 q (by simp [hq])⟩
theorem prods_one {W : List Int} {x : Nat} {P : List Nat} (hl : P.length = W.length) (hP : ∀ p ∈ P, p = x) : prods W P = W.map fun y => prodV y x := by
  have e : P = List.replicate W.length x := by rw [← hl]; exact List.eq_replicate_iff.2 ⟨rfl, hP⟩
  rw [e]
  refine List.ext_getElem? fun i => ?_
  rcases Nat.lt_or_ge i W.length with h | h
  · have hp := prods_at W (List.replicate W.length x) (i := i) (by simp; exact h)
    have hl : i < (prods W (List.replicate W.length x)).length := by rw [prods_length]; simp; exact h
    rw [List.getD_eq_getElem?_getD, List.getElem?_eq_getElem hl] at hp
    rw [List.getElem?_eq_getElem hl, List.getElem?_map, List.getElem?_eq_getElem h]
    simp only [Option.getD_some, Option.map_some] at hp ⊢
    rw [hp, List.getD_eq_getElem?_getD, List.getElem?_eq_getElem h, List.getD_eq_getElem?_getD, List.getElem?_replicate, if_pos h]
    rfl
  · rw [List.getElem?_eq_none (by rw [prods_length]; simp; exact h), List.getElem?_eq_none (by simp; exact h)]
/-- Taps whose weights sum to 65536, of one sample. -/
theorem smp_const {L : List (Int × Int)} {S : List Nat} {x m : Nat} (ok : TOk m L) (hs : sndSum L = 65536) (ha : absL L ≤ 2 ^ 27) (hx : rung32 x < 2139095040) (hx4 : x < 4294967296) (hS : ∀ e ∈ L, S.getD e.1.toNat 0 = x) :
    (smpV L S = x ∨ (x = 2147483648 ∧ smpV L S = 0)) ∧ ((∀ e ∈ L, 0 < e.2) → smpV L S = x) := by
  have hp : prods (L.map Prod.snd) (pickV L S) = (L.map Prod.snd).map fun y => prodV y x := prods_one (by unfold pickV; simp) (fun p hp => by
    unfold pickV at hp
    obtain ⟨e, he, rfl⟩ := List.mem_map.1 hp
    exact hS e he)
  have hb : ∀ y ∈ L.map Prod.snd, y ≤ 268435456 ∧ -268435456 ≤ y := fun y hy => by
    obtain ⟨e, he, rfl⟩ := List.mem_map.1 hy
    have := ok.wt e he
    omega
  have hne : (L.map Prod.snd).map (fun y => prodV y x) ≠ [] := fun e => by
    have := congrArg List.length e
    rw [List.length_map, List.length_map] at this
    have h1 := ok.one
    rw [this] at h1
    cases h1
  by_cases h0 : sampleZ x = 0
  · have hx0 : x = 0 ∨ x = 2147483648 := by
      have hr : rung32 x = 0 := sampleZ_zero h0
      unfold rung32 at hr
      omega
    have key : ∀ p ∈ (L.map Prod.snd).map (fun y => prodV y x), p = 0 ∨ p = 9223372036854775808 := fun p hp => by
      obtain ⟨y, hy, rfl⟩ := List.mem_map.1 hp
      rw [prod_zero hx0 (hb y hy).1 (hb y hy).2]
      split <;> simp
    obtain ⟨a, b, c⟩ := fold_zero _ 9223372036854775808 (Or.inr rfl) key
    have hd : dotF ((L.map Prod.snd).map fun y => prodV y x) = ((L.map Prod.snd).map fun y => prodV y x).foldl add64V 9223372036854775808 := by unfold dotF; rw [if_neg hne]
    unfold smpV
    rw [hp, hd]
    rcases hx0 with rfl | rfl
    · -- +0: one weight is above 0
      have hpos : ∃ e ∈ L, 0 < e.2 := by
        refine Classical.byContradiction fun h => ?_
        have hle : ∀ e ∈ L, e.2 ≤ 0 := fun e he => by
          rcases Int.lt_or_le 0 e.2 with c | c
          · exact absurd ⟨e, he, c⟩ h
          · exact c
        have : sndSum L ≤ 0 := by
          unfold sndSum
          clear hs ha hS hp hb hne key a b c hd ok h
          induction L with
          | nil => simp
          | cons e L ih =>
            have h1 := ih (fun e he => hle e (by simp [he]))
            have h2 := hle e (by simp)
            simp only [List.map_cons, List.sum_cons]
            omega
        omega
      obtain ⟨e, he, hpe⟩ := hpos
      have hz : (0 : Nat) ∈ (L.map Prod.snd).map (fun y => prodV y 0) := by
        refine List.mem_map.2 ⟨e.2, List.mem_map.2 ⟨e, he, rfl⟩, ?_⟩
        have hb' := hb e.2 (List.mem_map.2 ⟨e, he, rfl⟩)
        rw [prod_zero (Or.inl rfl) hb'.1 hb'.2, decide_eq_false (by omega)]
        rfl
      rw [b (Or.inr hz), over_0]
      exact ⟨Or.inl rfl, fun _ => rfl⟩
    · refine ⟨?_, fun hall => ?_⟩
      · rcases a with a | a
        · rw [a, over_0]; exact Or.inr ⟨rfl, rfl⟩
        · rw [a, over_m]; exact Or.inl rfl
      · rw [c ⟨rfl, fun p hp => ?_⟩, over_m]
        obtain ⟨y, hy, rfl⟩ := List.mem_map.1 hp
        obtain ⟨e, he, rfl⟩ := List.mem_map.1 hy
        have hb' := hb e.2 hy
        have := hall e he
        rw [prod_zero (Or.inr rfl) hb'.1 hb'.2, decide_eq_false (by omega)]
        rfl
  · have hsz : sizeLq (L.map Prod.snd) ≤ 2 ^ 28 := by
      have : sizeLq (L.map Prod.snd) = absL L := by unfold sizeLq absL; rw [List.map_map]; rfl
      rw [this]
      exact Nat.le_trans ha (by decide)
    have hD := dot_Dq hx (W := L.map Prod.snd) hsz (fun y hy => by have := hb y hy; omega)
    rw [prods_one (x := x) (by simp) (fun p hp => by rw [List.mem_replicate] at hp; exact hp.2), show (L.map Prod.snd).sum = 65536 from hs] at hD
    have : smpV L S = x := by
      unfold smpV
      rw [hp]
      exact over_const hx hx4 hD h0
    exact ⟨Or.inl this, fun _ => this⟩
end Go.Proofs.Ytnlphjekillciaa
/- Plane refused; a plane of one sample. -/
namespace Go.Proofs.Ytnlphjekillciaa
open Go.RowKit
set_option linter.unusedVariables false
set_option linter.unusedSimpArgs false

set_option maxHeartbeats 2000000 in
set_option maxRecDepth 100000 in
theorem plane_bad (pw ph : Int) (ad : Option Addr) (n c : Nat) (kind W H : Int) (hn : n ≤ 9223372036854775807) (hE : plnE pw ph n kind W H ≠ 0) (w : World) :
    Calls Try.prog 16 #[.agg #[.int .i64 pw, .int .i64 ph, .slice ad n c], .int .i64 kind, .int .i64 W, .int .i64 H] w fun e w' => e = .returned (.tuple #[.agg #[.int .i64 0, .int .i64 0, .slice none 0 0], .int .i64 (plnE pw ph n kind W H)]) ∧ Q w w' := by
  obtain ⟨w1, hw1⟩ : ∃ w1, (w.alloc (.cells #[.int .i64 pw, .int .i64 ph, .slice ad n c] 33)).alloc (.cells #[.int .i64 0, .int .i64 0, .slice none 0 0] 33) = w1 := ⟨_, rfl⟩
  have q1 : Q w w1 := by rw [← hw1]; exact ((Q.refl w).cells _ _).cells _ _
  have k0 : w1.cell? ⟨w.heap.size, 0, none⟩ = some (.int .i64 pw) := by rw [← hw1]; simp [go_sem]
  have k1 : w1.cell? ⟨w.heap.size, 1, none⟩ = some (.int .i64 ph) := by rw [← hw1]; simp [go_sem]
  have k2 : w1.cell? ⟨w.heap.size, 2, none⟩ = some (.slice ad n c) := by rw [← hw1]; simp [go_sem]
  have HR : Hid (w1.cell? ⟨w.heap.size + 1, 0, none⟩ = some (.int .i64 0) ∧ w1.cell? ⟨w.heap.size + 1, 1, none⟩ = some (.int .i64 0) ∧ w1.cell? ⟨w.heap.size + 1, 2, none⟩ = some (.slice none 0 0) ∧ (∀ j, w1.frozen? ⟨w.heap.size + 1, j, none⟩ = false)) := by
    rw [← hw1]
    exact ⟨by simp [go_sem], by simp [go_sem], by simp [go_sem], fun j => by simp [go_sem]⟩
  have C1 := refplane_any pw ph ad n c kind W H hn w1
  have HQ1 : Hid (Q w w1) := q1
  generalize plnE pw ph n kind W H = E at *
  have hE0 : (E == 0) = false := by simpa using hE
  clear q1 hE
  go_enter Try.func16, Try.ntmps16
  go_wp2_with fail
  refine C1.mono ?_
  rintro e w2 ⟨rfl, q2⟩
  clear C1 k0 k1 k2
  have o0 := q2.cell HR.out.1
  have o1 := q2.cell HR.out.2.1
  have o2 := q2.cell HR.out.2.2.1
  have fo : ∀ j, w2.frozen? ⟨w.heap.size + 1, j, none⟩ = false := fun j => by rw [q2.2]; exact HR.out.2.2.2 j
  have fo0 := fo 0
  have fo1 := fo 1
  have fo2 := fo 2
  have HQ2 : Hid (Q w1 w2) := q2
  clear q2 hw1 fo
  go_wp2_with fail
  have hl' : w.heap.size ≤ w.heap.size + 1 := by omega
  exact bodyPost_ret (v := .tuple #[.agg #[.int .i64 0, .int .i64 0, .slice none 0 0], .int .i64 E]) (by simp [results, Try.results16, go_sem, o0, o1, o2]) rfl ⟨rfl, (((HQ1.out.trans HQ2.out).set hl' _).set hl' _).set hl' _⟩
/-- A plane of one sample. -/
theorem whl_const {kind : Int} {pa pb W H X Y : Nat} {S : List Nat} {x : Nat} (hX : tapE kind pa W X = 0) (hY : tapE kind pb H Y = 0) (hS : ∀ i, i < pa * pb → S.getD i 0 = x) (hx : rung32 x < 2139095040) (hx4 : x < 4294967296) :
    (whlV kind pa pb W H S X Y = x ∨ (x = 2147483648 ∧ whlV kind pa pb W H S X Y = 0)) ∧ (kind ≠ 3 → whlV kind pa pb W H S X Y = x) := by
  obtain ⟨hk1, hz1, -, -, -⟩ := tapE_ok hX
  obtain ⟨hk2, hz2, -, -, -⟩ := tapE_ok hY
  have ok1 := taps_ok hk1 hz1
  have ok2 := taps_ok hk2 hz2
  have e1 : tpA kind pa W X = tapsL (wlsV kind pa W X) := by unfold tpA; rw [if_pos hX]; rfl
  have e2 : tpA kind pb H Y = tapsL (wlsV kind pb H Y) := by unfold tpA; rw [if_pos hY]; rfl
  have t1 : TOk pa (tpA kind pa W X) := tpA_tok hX
  have t2 : TOk pb (tpA kind pb H Y) := tpA_tok hY
  have s1 : sndSum (tpA kind pa W X) = 65536 := by rw [e1]; exact ok1.sum
  have s2 : sndSum (tpA kind pb H Y) = 65536 := by rw [e2]; exact ok2.sum
  have p1 : kind ≠ 3 → ∀ e ∈ tpA kind pa W X, 0 < e.2 := fun hk e he => by
    rw [e1] at he
    have := ok1.at_ e he
    have h1 := this.2.2.1
    have h2 := this.2.2.2.1 hk
    omega
  have p2 : kind ≠ 3 → ∀ e ∈ tpA kind pb H Y, 0 < e.2 := fun hk e he => by
    rw [e2] at he
    have := ok2.at_ e he
    have h1 := this.2.2.1
    have h2 := this.2.2.2.1 hk
    omega
  obtain ⟨c, hc⟩ : ∃ c, smpV (tpA kind pa W X) (List.replicate pa x) = c := ⟨_, rfl⟩
  have hcc := smp_const (S := List.replicate pa x) t1 s1 (tpA_abs hX) hx hx4 (fun e he => by
    have := t1.pl e he
    rw [List.getD_eq_getElem?_getD, List.getElem?_replicate, if_pos (by omega)]
    rfl)
  rw [hc] at hcc
  have hcol : ∀ y, y < pb → colV (tpA kind pa W X) S pa y = c := fun y hy => by
    rw [← hc]
    unfold colV
    refine smpV_congr fun e he => ?_
    have h := t1.pl e he
    have hi : e.1.toNat < pa := by omega
    have hin : y * pa + e.1.toNat < pa * pb := by
      have : (y + 1) * pa ≤ pb * pa := Nat.mul_le_mul_right _ hy
      rw [Nat.mul_comm pa pb]
      rw [Nat.add_mul, Nat.one_mul] at this
      omega
    rw [List.getD_eq_getElem?_getD, List.getElem?_drop, ← List.getD_eq_getElem?_getD, hS _ hin, List.getD_eq_getElem?_getD, List.getElem?_replicate, if_pos hi]
    rfl
  have hfin : rung32 c < 2139095040 ∧ c < 4294967296 := by
    rcases hcc.1 with h | ⟨-, h⟩
    · rw [h]; exact ⟨hx, hx4⟩
    · rw [h]; exact ⟨by decide, by decide⟩
  have hdd := smp_const (S := tabN pb (colV (tpA kind pa W X) S pa)) (x := c) t2 s2 (tpA_abs hY) hfin.1 hfin.2 (fun e he => by
    have h := t2.pl e he
    have hi : e.1.toNat < pb := by omega
    rw [tabN_getD hi, hcol _ hi])
  have ew : whlV kind pa pb W H S X Y = smpV (tpA kind pb H Y) (tabN pb (colV (tpA kind pa W X) S pa)) := rfl
  rw [ew]
  refine ⟨?_, fun hk => ?_⟩
  · rcases hcc.1 with h | ⟨h1, h⟩
    · rw [h] at hdd
      exact hdd.1
    · rw [h] at hdd
      rcases hdd.1 with g | ⟨g1, g⟩
      · exact Or.inr ⟨h1, g⟩
      · cases g1
  · rw [hdd.2 (p2 hk), hcc.2 (p1 hk)]
end Go.Proofs.Ytnlphjekillciaa
/- The laws' own helpers: finite, small. -/
namespace Go.Proofs.Ytnlphjekillciaa
open Go.RowKit
set_option linter.unusedVariables false
set_option linter.unusedSimpArgs false

theorem and_31k (s : Int) (h0 : 0 ≤ s) (h1 : s ≤ 4294967295) : bits .and .u32 s 2147483647 = s % 2147483648 := by go_bits2
theorem and_rung {x : Nat} (hx : x < 4294967296) : bits .and .u32 (x : Int) 2147483647 = ((rung32 x : Nat) : Int) := by
  rw [and_31k _ (by omega) (by omega)]
  unfold rung32
  omega
set_option maxHeartbeats 2000000 in
set_option maxRecDepth 100000 in
theorem finite_any (x : Nat) (hx : x < 4294967296) (w : World) :
    Calls Try.prog 23 #[.int .u32 (x : Int)] w fun e w' => e = .returned (.bool (decide (rung32 x < 2139095040))) ∧ w' = w := by
  have h1 := and_rung hx
  rcases Nat.lt_or_ge (rung32 x) 2139095040 with h | h
  · rw [decide_eq_true h]
    have h2 : ((rung32 x : Nat) : Int) < 2139095040 := by omega
    generalize rung32 x = r at *
    go_enter Try.func23, Try.ntmps23
    go_wp2_with fail
    go_ret
    exact ⟨rfl, rfl⟩
  · rw [decide_eq_false (by omega)]
    have h2 : ¬ ((rung32 x : Nat) : Int) < 2139095040 := by omega
    generalize rung32 x = r at *
    go_enter Try.func23, Try.ntmps23
    go_wp2_with fail
    go_ret
    exact ⟨rfl, rfl⟩
def smlB (W H : Int) : Bool := decide (W < 1 ∨ H < 1 ∨ W > 6000 ∨ H > 6000 ∨ W * H ≤ 3000)
set_option maxHeartbeats 2000000 in
set_option maxRecDepth 100000 in
theorem small_any (W H : Int) (w : World) :
    Calls Try.prog 13 #[.agg #[.int .i64 0, .int .i64 0, .slice none 0 0], .int .i64 W, .int .i64 H] w fun e w' => e = .returned (.bool (smlB W H)) ∧ Q w w' := by
  have HQ : Hid (Q w (w.alloc (.cells #[.int .i64 0, .int .i64 0, .slice none 0 0] 33))) := (Q.refl w).cells _ _
  have E : Hid (smlB W H = decide (W < 1 ∨ H < 1 ∨ W > 6000 ∨ H > 6000 ∨ W * H ≤ 3000)) := rfl
  generalize smlB W H = b at *
  rcases Int.lt_or_le W 1 with h1 | h1
  · obtain rfl : b = true := by rw [E.out]; exact decide_eq_true (Or.inl h1)
    clear E
    go_enter Try.func13, Try.ntmps13
    go_wp2_with fail
    exact bodyPost_ret (v := .bool true) (by simp [results, Try.results13, go_sem]) rfl ⟨rfl, HQ.out⟩
  rcases Int.lt_or_le H 1 with h2 | h2
  · obtain rfl : b = true := by rw [E.out]; exact decide_eq_true (Or.inr (Or.inl h2))
    clear E
    go_enter Try.func13, Try.ntmps13
    go_wp2_with fail
    exact bodyPost_ret (v := .bool true) (by simp [results, Try.results13, go_sem]) rfl ⟨rfl, HQ.out⟩
  rcases Int.lt_or_le 6000 W with h3 | h3
  · obtain rfl : b = true := by rw [E.out]; exact decide_eq_true (Or.inr (Or.inr (Or.inl h3)))
    clear E
    go_enter Try.func13, Try.ntmps13
    go_wp2_with fail
    exact bodyPost_ret (v := .bool true) (by simp [results, Try.results13, go_sem]) rfl ⟨rfl, HQ.out⟩
  rcases Int.lt_or_le 6000 H with h4 | h4
  · obtain rfl : b = true := by rw [E.out]; exact decide_eq_true (Or.inr (Or.inr (Or.inr (Or.inl h4))))
    clear E
    go_enter Try.func13, Try.ntmps13
    go_wp2_with fail
    exact bodyPost_ret (v := .bool true) (by simp [results, Try.results13, go_sem]) rfl ⟨rfl, HQ.out⟩
  have hb1 : 0 ≤ W * H := Int.mul_nonneg (by omega) (by omega)
  have hb2 : W * H ≤ 36000000 := Int.le_trans (Int.mul_le_mul h3 h4 (by omega) (by omega)) (by decide)
  rcases Int.lt_or_le 3000 (W * H) with h5 | h5
  · obtain rfl : b = false := by rw [E.out]; exact decide_eq_false (by omega)
    clear E
    go_enter Try.func13, Try.ntmps13
    go_wp2_with fail
    exact bodyPost_ret (v := .bool false) (by simp [results, Try.results13, go_sem]; exact ⟨⟨⟨⟨h1, h2⟩, h3⟩, h4⟩, h5⟩) rfl ⟨rfl, HQ.out⟩
  · obtain rfl : b = true := by rw [E.out]; exact decide_eq_true (by omega)
    clear E
    go_enter Try.func13, Try.ntmps13
    go_wp2_with fail
    exact bodyPost_ret (v := .bool true) (by simp [results, Try.results13, go_sem]) rfl ⟨rfl, HQ.out⟩
end Go.Proofs.Ytnlphjekillciaa
/- A plane in a box whose samples are appended one by one. -/
namespace Go.Proofs.Ytnlphjekillciaa
open Go.RowKit
set_option linter.unusedVariables false
set_option linter.unusedSimpArgs false

theorem uInfo : ∃ i, Try.prog.info? 30 = some i ∧ i.size = 1 ∧ i.bytes = 4 ∧ i.zero = some (.int .u32 0) := info_of (by kernel_rfl) (by kernel_rfl)
def newsS (S : List Nat) : List Value := S.map fun (x : Nat) => .int .u32 (x : Int)
structure Gp (w0 wr : World) (B : Nat) (pa pb : Int) (v : Value) (L : List Nat) (n : Nat) : Prop where
  len : n = L.length
  own : wr.ownsRow w0.heap.size 30 1 v n (newsS L)
  ap : v.ownBlock ≠ some B
  c0 : wr.cell? ⟨B, 0, none⟩ = some (.int .i64 pa)
  c1 : wr.cell? ⟨B, 1, none⟩ = some (.int .i64 pb)
  c2 : wr.cell? ⟨B, 2, none⟩ = some v
  fz : ∀ j, wr.frozen? ⟨B, j, none⟩ = false
  q : Q w0 wr
  lo : w0.heap.size ≤ B
theorem own_setS {w : World} {base n : Nat} {v : Value} {xs : List Value} (h : w.ownsRow base 30 1 v n xs) {p : Addr} (hp : v.ownBlock ≠ some p.block) (z : Value) : (w.setCell p z).ownsRow base 30 1 v n xs := by
  refine ⟨h.1, ?_⟩
  rcases h.2 with c | ⟨g, cap, cur, h1, h2, h3, h4⟩
  · exact Or.inl c
  · refine Or.inr ⟨g, cap, cur, h1, h2, ?_, h4⟩
    rw [Below.heap_setCell _ _ _ _ (fun e => hp (by rw [h1, e]; rfl))]
    exact h3
theorem own_uslS {w : World} {base n : Nat} {v : Value} {L : List Nat} (h : w.ownsRow base 30 1 v n (newsS L)) (hn : n = L.length) : USl w v L := by
  obtain ⟨_, ⟨rfl, h0⟩ | ⟨g, cap, cur, rfl, _, hh, hc, _, hsz, ht⟩⟩ := h
  · exact Or.inr ⟨_, _, rfl, List.eq_nil_of_length_eq_zero (by omega)⟩
  · subst hn
    refine Or.inl ⟨g, 0, cap, rfl, hc, fun i hi => ?_⟩
    have hg : cur.toList[i]? = some (.int .u32 ((L.getD i 0 : Nat) : Int)) := by
      have e : (cur.toList.take (L.length * 1))[i]? = (newsS L)[i]? := by rw [ht]
      rw [List.getElem?_take, if_pos (by omega)] at e
      rw [e]
      unfold newsS
      rw [List.getElem?_map, List.getElem?_eq_getElem hi, List.getD_eq_getElem?_getD, List.getElem?_eq_getElem hi]
      rfl
    rw [Nat.zero_add]
    unfold World.cell?
    rw [hh]
    rw [Array.getElem?_toList] at hg
    exact hg
theorem Gp.app {w0 wr : World} {B : Nat} {pa pb : Int} {v : Value} {L : List Nat} {n : Nat} (h : Gp w0 wr B pa pb v L n) (u : Nat) (hn : n ≤ 100000) :
    ∃ g c x2, (Builtin.append_ #[23, 23] 23 #[v, .slice (some ⟨wr.heap.size, 0, none⟩) 1 1]).run Try.prog (wr.alloc (.cells #[.int .u32 (u : Int)] 30)) = .ok (.slice (some ⟨g, 0, none⟩) (n + 1) c) x2 ∧
      x2.cell? ⟨B, 2, none⟩ = some v ∧ (∀ j, x2.frozen? ⟨B, j, none⟩ = false) ∧ Gp w0 (x2.setCell ⟨B, 2, none⟩ (.slice (some ⟨g, 0, none⟩) (n + 1) c)) B pa pb (.slice (some ⟨g, 0, none⟩) (n + 1) c) (L ++ [u]) (n + 1) := by
  obtain ⟨iu, i1, i2, i3, i4⟩ := uInfo
  have hq1 : Q w0 (wr.alloc (.cells #[.int .u32 (u : Int)] 30)) := h.q.cells _ _
  have hqa : Q wr (wr.alloc (.cells #[.int .u32 (u : Int)] 30)) := (Q.refl wr).cells _ _
  have hBw : B < wr.heap.size := World.block_lt_of_cell? _ _ h.c0
  obtain ⟨g, c, x2, r1, o1, q1, gb1, gg1⟩ := run_app_qg (P := Try.prog) (wr.alloc (.cells #[.int .u32 (u : Int)] 30)) w0 hq1 23 23 30 iu _ 1 4 Try.underlying23 i1 i4 i2 i3 rfl (by decide) v n _ (h.own.alloc _) ⟨wr.heap.size, 0, none⟩ 1 1 [.int .u32 (u : Int)] rfl (fun j z hz => by
    cases j with
    | zero => cases hz; show (wr.alloc (.cells #[.int .u32 (u : Int)] 30)).cell? ⟨wr.heap.size, 0, none⟩ = _; simp [go_sem]
    | succ j => cases hz) (fun z hz => by rw [List.mem_singleton.1 hz]; rfl) (by decide) (by unfold maxLen; omega) (by omega)
  have hgB : g ≠ B := by
    rcases gg1 with e | e
    · intro k; exact h.ap (by rw [e, k])
    · have : (wr.alloc (.cells #[.int .u32 (u : Int)] 30)).heap.size = wr.heap.size + 1 := by simp
      omega
  have hcell : ∀ {j z}, wr.cell? ⟨B, j, none⟩ = some z → x2.cell? ⟨B, j, none⟩ = some z := fun {j z} hz => by
    have h1 := hqa.cell hz
    have h2 := gb1.block B (by have := hqa.1.size; omega) (fun e => h.ap e.symm)
    exact (World.cell?_of_block h2).trans h1
  have hfz : ∀ j, x2.frozen? ⟨B, j, none⟩ = false := fun j => by rw [q1.2, ← h.q.2]; exact h.fz j
  have hap : newsS (L ++ [u]) = newsS L ++ [.int .u32 (u : Int)] := by simp [newsS]
  rw [← hap] at o1
  refine ⟨g, c, x2, r1, hcell h.c2, hfz, ?_⟩
  have hne : (Value.slice (some ⟨g, 0, none⟩) (n + 1) c).ownBlock ≠ some B := fun e => hgB (by cases e; rfl)
  exact ⟨by rw [List.length_append, h.len]; rfl, own_setS o1 hne _, hne,
    (World.cell?_setCell_other _ _ _ _ (fun e => by injection e with _ e; cases e)).trans (hcell h.c0),
    (World.cell?_setCell_other _ _ _ _ (fun e => by injection e with _ e; cases e)).trans (hcell h.c1),
    World.cell?_setCell_same _ _ _ (hcell h.c2), fun j => by rw [World.frozen?_setCell]; exact hfz j, q1.set h.lo _, h.lo⟩
end Go.Proofs.Ytnlphjekillciaa

/- The document's Log and Exp. -/
import Derived.Test.YtedafbbpcpebbaaGda311d79
import Derived.Test.YtedafbbpcpebbaaGe4cd8341
namespace Go.Proofs.Ytedafbbpcpebbaa
open Go.RowKit
set_option linter.unusedVariables false

set_option maxHeartbeats 4000000 in
set_option maxRecDepth 100000 in
theorem rnear23_neg (a n : Nat) (s : Bool) (d : Nat) (ha : a < 4294967296) (hn : numOf Ieee.single a = .fin s n (-(d : Int) - 23) false) (hb : n < 16777216) (d1 : 1 ≤ d) (d2 : d ≤ 149) (w : World) :
    Calls Try.prog 46 #[.int .u32 a, .int .i64 23] w fun x w' => x = .returned (.tuple #[.int .i64 (wI (Ieee.signed s (wholeN .even s n (-(d : Int))) 0)), .int .i64 (wE (Ieee.signed s (wholeN .even s n (-(d : Int))) 0))]) ∧ Q w w' := by
  have HN : Hid _ := hn
  clear hn
  have hw : wholeN .even s n (-(d : Int)) = rne n d := by
    unfold wholeN
    rw [show (-(d : Int)).toNat = 0 by omega, Nat.shiftLeft_zero, show (- -(d : Int)).toNat = d by omega, cut_rne]
  rw [hw]
  clear hw
  obtain ⟨R, hR⟩ : ∃ R, R = rne n d := ⟨_, rfl⟩
  rw [← hR]
  rw [rne_bits d1] at hR
  have HR : Hid _ := hR
  clear hR
  obtain ⟨j, hj⟩ : ∃ j : Nat, d - 1 = j := ⟨_, rfl⟩
  have hdj : (d : Int) - 1 = (j : Int) := by omega
  have hj2 : j ≤ 148 := by omega
  rw [hj] at HR
  have HJ : Hid (d = j + 1) := by show d = j + 1; omega
  clear hj
  go_enter Try.func46, Try.ntmps46
  go_wp2_with fail
  refine (num_any a _ ha).mono ?_
  rintro x w1 ⟨v1, rfl, hv1, q1⟩
  rw [HN.out] at hv1
  obtain ⟨nv, rfl, p, bb, L, C, rfl, hI⟩ := hv1
  have HI : Hid _ := hI
  clear hI
  go_wp2_with fail
  refine (down_any _ n d _ ⟨p, bb, L, C, rfl, ((Q.refl w1).cells _ _).natIs HI.out⟩ (by omega)).mono ?_
  rintro x w2 ⟨v2, rfl, h2, q2⟩
  have H2 : Hid (NatAt w2 v2 (n / 2 ^ d)) := h2
  have c1 : w2.cell? ⟨w1.heap.size, 1, none⟩ = some (.bool s) := q2.cell (by simp [go_sem])
  have c2 : w2.cell? ⟨w1.heap.size, 2, none⟩ = some (.slice p L C) := q2.cell (by simp [go_sem])
  have c3 : w2.cell? ⟨w1.heap.size, 3, none⟩ = some (.int .i64 (-(d : Int))) := q2.cell (by simp [go_sem])
  have HA : Hid (NatAt w2 (.slice p L C) n) := ⟨p, bb, L, C, rfl, q2.natIs (((Q.refl w1).cells _ _).natIs HI.out)⟩
  have Q2 : Hid (Q w w2) := (q1.cells _ _).trans q2
  clear h2 q2 q1 HI
  go_wp2_with fail
  refine (bit_any _ n j _ HA.out (by omega)).mono ?_
  rintro x w3 ⟨rfl, hw3⟩
  subst hw3
  go_upto_block 0 with fail
  go_cut [10] from 12 (fun s10 wx => s10 = .bool (restB n j) ∧ w3 = wx)
  case first =>
    go_wp2_with fail
    go_loopg [10, 11] j (fun g s10 s11 wr => w3 = wr ∧ ∃ k : Nat, k ≤ j ∧ g = j - k ∧ s11 = .int .i64 k ∧ s10 = .bool (restB n k))
    case atStart => exact ⟨rfl, 0, Nat.zero_le _, rfl, rfl, by rw [restB_zero]⟩
    case round =>
      obtain ⟨rfl, k, hk, hg, rfl, rfl⟩ := hrel
      by_cases hkd : k < j
      · have hkz : (k : Int) < (j : Int) := by omega
        cases hbel : restB n k
        · have HF : Hid _ := restB_f hbel
          go_wp2_with fail
          refine (bit_any _ n k _ HA.out (by omega)).mono ?_
          rintro x we ⟨rfl, hwe⟩
          subst hwe
          go_wp2_with fail
          go_roundg (j - (k + 1))
          case measure => go_light; omega
          case rel => go_light; exact ⟨rfl, k + 1, by omega, rfl, by simp, congrArg Value.bool (by rw [HF.out])⟩
        · have HF : Hid (restB n (k + 1) = true) := restB_t hbel
          go_wp2_with fail
          go_roundg (j - (k + 1))
          case measure => go_light; omega
          case rel => go_light; exact ⟨rfl, k + 1, by omega, rfl, by simp, congrArg Value.bool (by rw [HF.out])⟩
      · obtain rfl : k = j := by omega
        have hkz : ¬ (k : Int) < (k : Int) := by omega
        go_wp2_with fail
        go_meet
        case rel => go_light; exact ⟨rfl, rfl⟩
  case rest =>
    obtain ⟨rfl, rfl⟩ := hcut
    have hb1 := bitV_le n j
    by_cases hh : bitV n j = 1
    · have hhb : ((bitV n j : Int) == 1) = true := by rw [beq_iff_eq]; omega
      have HH : Hid _ := hh
      clear hh hb1
      cases hbel : restB n j
      · have HB : Hid (¬ restB n j = true) := by
          show ¬ restB n j = true
          rw [hbel]; decide
        have hb2 := bitV_le (n / 2 ^ d) 0
        by_cases h0 : bitV (n / 2 ^ d) 0 = 1
        · have h0b : ((bitV (n / 2 ^ d) 0 : Int) == 1) = true := by rw [beq_iff_eq]; omega
          have H0 : Hid _ := h0
          clear h0 hb2
          go_wp2_with fail
          refine (bit_any v2 (n / 2 ^ d) 0 _ H2.out (by decide)).mono ?_
          rintro x w4 ⟨rfl, hw4⟩
          subst hw4
          obtain rfl : R = n / 2 ^ d + 1 := by rw [HR.out, if_pos (⟨HH.out, Or.inr H0.out⟩)]
          clear HR
          go_wp2_with fail
          refine (natof_nat 1 _ (by decide)).mono ?_
          rintro x w5 ⟨v5, rfl, h5, q5⟩
          have H5 : Hid (NatAt w5 v5 1) := h5
          have Q5 : Hid (Q w4 w5) := q5
          have c1 := q5.cell c1
          clear h5 q5
          go_wp2_with fail
          refine (plus_any _ _ (n / 2 ^ d) 1 _ (Q5.out.nat H2.out) H5.out (lt_cap (k := 25) (by have := Nat.div_le_self n (2 ^ d); omega) (by decide))).mono ?_
          rintro x w6 ⟨v6, rfl, h6, q6⟩
          have H6 : Hid (NatAt w6 v6 (n / 2 ^ d + 1)) := h6
          have c1 := q6.cell c1
          have Q6 : Hid (Q w w6) := (Q2.out.trans Q5.out).trans q6
          clear h6 q6
          go_wp2_with fail
          refine (rwhole_any s v6 (n / 2 ^ d + 1) _ H6.out).mono ?_
          rintro x w9 ⟨rfl, q9⟩
          go_wp2_with fail
          go_ret2
          exact ⟨rfl, Q6.out.trans q9⟩
        · have h0b : ((bitV (n / 2 ^ d) 0 : Int) == 1) = false := by rw [beq_eq_false_iff_ne]; omega
          have H0 : Hid _ := h0
          clear h0 hb2
          go_wp2_with fail
          refine (bit_any v2 (n / 2 ^ d) 0 _ H2.out (by decide)).mono ?_
          rintro x w4 ⟨rfl, hw4⟩
          subst hw4
          obtain rfl : R = n / 2 ^ d := by rw [HR.out, if_neg (fun c => c.2.elim HB.out H0.out), Nat.add_zero]
          clear HR
          go_wp2_with fail
          refine (rwhole_any s v2 (n / 2 ^ d) _ H2.out).mono ?_
          rintro x w9 ⟨rfl, q9⟩
          go_wp2_with fail
          go_ret2
          exact ⟨rfl, Q2.out.trans q9⟩
      · have HB : Hid (restB n j = true) := hbel
        obtain rfl : R = n / 2 ^ d + 1 := by rw [HR.out, if_pos (⟨HH.out, Or.inl HB.out⟩)]
        clear HR
        go_wp2_with fail
        refine (natof_nat 1 _ (by decide)).mono ?_
        rintro x w5 ⟨v5, rfl, h5, q5⟩
        have H5 : Hid (NatAt w5 v5 1) := h5
        have Q5 : Hid (Q w3 w5) := q5
        have c1 := q5.cell c1
        clear h5 q5
        go_wp2_with fail
        refine (plus_any _ _ (n / 2 ^ d) 1 _ (Q5.out.nat H2.out) H5.out (lt_cap (k := 25) (by have := Nat.div_le_self n (2 ^ d); omega) (by decide))).mono ?_
        rintro x w6 ⟨v6, rfl, h6, q6⟩
        have H6 : Hid (NatAt w6 v6 (n / 2 ^ d + 1)) := h6
        have c1 := q6.cell c1
        have Q6 : Hid (Q w w6) := (Q2.out.trans Q5.out).trans q6
        clear h6 q6
        go_wp2_with fail
        refine (rwhole_any s v6 (n / 2 ^ d + 1) _ H6.out).mono ?_
        rintro x w9 ⟨rfl, q9⟩
        go_wp2_with fail
        go_ret2
        exact ⟨rfl, Q6.out.trans q9⟩
    · have hhb : ((bitV n j : Int) == 1) = false := by rw [beq_eq_false_iff_ne]; omega
      have HH : Hid _ := hh
      clear hh hb1
      obtain rfl : R = n / 2 ^ d := by rw [HR.out, if_neg (fun c => HH.out c.1), Nat.add_zero]
      clear HR
      go_wp2_with fail
      refine (rwhole_any s v2 (n / 2 ^ d) _ H2.out).mono ?_
      rintro x w9 ⟨rfl, q9⟩
      go_wp2_with fail
      go_ret2
      exact ⟨rfl, Q2.out.trans q9⟩

set_option maxHeartbeats 4000000 in
theorem rnear23_pos (a n : Nat) (s : Bool) (k : Nat) (ha : a < 4294967296) (hn : numOf Ieee.single a = .fin s n ((k : Int) - 23) false) (hb : n < 16777216) (d2 : k ≤ 104) (w : World) :
    Calls Try.prog 46 #[.int .u32 a, .int .i64 23] w fun x w' => x = .returned (.tuple #[.int .i64 (wI (Ieee.signed s (wholeN .even s n (k : Int)) 0)), .int .i64 (wE (Ieee.signed s (wholeN .even s n (k : Int)) 0))]) ∧ Q w w' := by
  have HN : Hid _ := hn
  clear hn
  have hw : wholeN .even s n (k : Int) = n * 2 ^ k := by
    unfold wholeN
    rw [show (-(k : Int)).toNat = 0 by omega, cut_0 (Or.inr rfl), Nat.shiftLeft_eq, show ((k : Int)).toNat = k by omega]
  rw [hw]
  have hcap : n * 2 ^ k < cap := lt_cap (k := 200) (by
    have := Nat.mul_lt_mul_of_pos_right (show n < 2 ^ 24 from hb) (Nat.two_pow_pos k)
    rw [← Nat.pow_add] at this
    exact Nat.lt_of_lt_of_le this (Nat.pow_le_pow_right (by decide) (by omega))) (by decide)
  have HC : Hid _ := hcap
  clear hcap hw
  go_enter Try.func46, Try.ntmps46
  go_wp2_with fail
  refine (num_any a _ ha).mono ?_
  rintro x w1 ⟨v1, rfl, hv1, q1⟩
  rw [HN.out] at hv1
  obtain ⟨nv, rfl, p, bb, L, C, rfl, hI⟩ := hv1
  have HI : Hid _ := hI
  clear hI
  go_wp2_with fail
  go_region_held3 (fun w' => w'.cell? ⟨w1.heap.size, 1, none⟩ = some (.bool s) ∧ w'.cell? ⟨w1.heap.size, 2, none⟩ = some (.slice p L C) ∧ w'.cell? ⟨w1.heap.size, 3, none⟩ = some (.int .i64 k)) (first | (simp [go_sem]; done) | (refine ⟨?_, ?_, ?_⟩ <;> assumption)) (first | (go_at_call 57; refine (up_any _ n k _ ⟨p, bb, L, C, rfl, (((Q.refl w1).cells _ _).drew).natIs HI.out⟩ HC.out).mono ?_; rintro x w2 ⟨v2, rfl, h2, q2⟩; have H2 : Hid (NatAt w2 v2 (n * 2 ^ k)) := h2; have d1 : w2.cell? ⟨w1.heap.size, 1, none⟩ = some (.bool s) := q2.cell (by simp [go_sem]); have d2 : w2.cell? ⟨w1.heap.size, 2, none⟩ = some (.slice p L C) := q2.cell (by simp [go_sem]); have d3 : w2.cell? ⟨w1.heap.size, 3, none⟩ = some (.int .i64 k) := q2.cell (by simp [go_sem]); clear h2) | (go_at_call 74; refine (rwhole_any s v2 (n * 2 ^ k) _ H2.out).mono ?_; rintro x w3 ⟨rfl, q3⟩; have f1 := q3.cell d1; have f2 := q3.cell d2; have f3 := q3.cell d3))
  all_goals
    go_wp2_with fail
    go_ret2
    exact ⟨rfl, (((q1.cells _ _).drew).trans q2).trans q3⟩
set_option maxHeartbeats 2000000 in
theorem scale64_any (n : Int) (n0 : -9223372036854775808 ≤ n) (n1 : n ≤ 9223372036854775807) (w : World) : Calls Try.prog 44 #[.int .i64 n, .int .i64 (-23)] w fun e w' => e = .returned (.int .u32 (Ieee.single.write (.number (decide (n < 0)) n.natAbs (-23)) : Nat)) ∧ Q w w' := by
  have hv : Ieee.single.write (.number (decide (n < 0)) n.natAbs (-23)) = roundR (.fin (decide (n < 0)) n.natAbs (-23) false) := (roundR_fin _ _ _).symm
  rw [hv]
  clear hv
  have hfit : fits (.fin (decide (n < 0)) n.natAbs (-23) false) := ⟨by have := blen_le (n := n.natAbs) (k := 64) (by omega); omega, by omega, by omega, fun h => by cases h⟩
  by_cases h : n < 0
  · rw [decide_eq_true h] at hfit ⊢
    obtain ⟨m, hm⟩ : ∃ m : Nat, m = n.natAbs := ⟨_, rfl⟩
    rw [← hm] at hfit ⊢
    have hmn : n = -(m : Int) := by omega
    subst hmn
    have hmb : m ≤ 9223372036854775808 := by omega
    have w1 : IntKind.u64.wrap (-(m : Int)) = 18446744073709551616 - (m : Int) := by rw [IntKind.wrap_u64]; omega
    have w2 : IntKind.u64.wrap (-(18446744073709551616 - (m : Int))) = (m : Int) := by rw [IntKind.wrap_u64]; omega
    clear hm
    go_enter Try.func44, Try.ntmps44
    go_wp2_with fail
    refine (natof_nat m _ (by omega)).mono ?_
    rintro x u1 ⟨v1, rfl, h1, q1⟩
    obtain ⟨p1, b1, L1, C1, rfl, i1⟩ := h1
    have H1 : Hid _ := i1
    clear i1
    go_wp2_with fail
    refine (rbits_any _ (.fin true m (-23) false) _ ⟨_, rfl, p1, b1, L1, C1, rfl, H1.out⟩ hfit).mono ?_
    rintro x u2 ⟨rfl, q2⟩
    go_wp2_with fail
    go_ret
    exact ⟨rfl, q1.trans q2⟩
  · rw [decide_eq_false h] at hfit ⊢
    obtain ⟨m, hm⟩ : ∃ m : Nat, m = n.natAbs := ⟨_, rfl⟩
    rw [← hm] at hfit ⊢
    have hmn : n = (m : Int) := by omega
    subst hmn
    have hmb : m ≤ 9223372036854775807 := by omega
    have w1 : IntKind.u64.wrap (m : Int) = (m : Int) := by rw [IntKind.wrap_u64]; omega
    clear hm
    go_enter Try.func44, Try.ntmps44
    go_wp2_with fail
    refine (natof_nat m _ (by omega)).mono ?_
    rintro x u1 ⟨v1, rfl, h1, q1⟩
    obtain ⟨p1, b1, L1, C1, rfl, i1⟩ := h1
    have H1 : Hid _ := i1
    clear i1
    go_wp2_with fail
    refine (rbits_any _ (.fin false m (-23) false) _ ⟨_, rfl, p1, b1, L1, C1, rfl, H1.out⟩ hfit).mono ?_
    rintro x u2 ⟨rfl, q2⟩
    go_wp2_with fail
    go_ret
    exact ⟨rfl, q1.trans q2⟩
theorem keyR_srung7 {a : Nat} (h : a < 4294967296) : keyR a = srung32 a := by
  unfold keyR srung32 rung32
  rw [sgn_hi h]
  by_cases g : a < 2147483648
  · rw [if_pos g, decide_eq_false (by omega), if_neg (by decide)]; omega
  · rw [if_neg g, decide_eq_true (by omega), if_pos rfl]; omega
/-- Log of a sample above 0, rounded at once. -/
theorem int_shf {n : Int} (h : n.natAbs < 9007199254740992) : narW (shfW (floatOfInt .f64 n) (-23)) = Ieee.single.nearest (decide (n < 0)) n.natAbs (-23) := by
  have e1 : floatOfInt .f64 n = Ieee.double.nearest (decide (n < 0)) n.natAbs 0 := rfl
  rw [e1, nearest_rung]
  obtain ⟨s, hs⟩ : ∃ s, s = decide (n < 0) := ⟨_, rfl⟩
  obtain ⟨N, hN⟩ : ∃ N, N = n.natAbs := ⟨_, rfl⟩
  rw [← hs, ← hN]
  rw [← hN] at h
  by_cases h0 : N = 0
  · have hn : n = 0 := by omega
    have : s = false := by rw [hs, hn]; decide
    rw [this, h0]
    decide +kernel
  · have a0 := Nat.log2_self_le h0
    have a1 : N < 2 ^ (N.log2 + 1) := Nat.lt_log2_self
    have aL : N.log2 ≤ 52 := by
      have := (Nat.log2_lt h0).2 (show N < 2 ^ 53 from h)
      omega
    generalize N.log2 = M at *
    have b1 : N * 2 ^ (52 - M) < 9007199254740992 := by
      have := Nat.mul_lt_mul_of_pos_right a1 (Nat.two_pow_pos (52 - M))
      rw [← Nat.pow_add, show M + 1 + (52 - M) = 53 by omega] at this
      exact this
    have b0 : 4503599627370496 ≤ N * 2 ^ (52 - M) := by
      have := Nat.mul_le_mul_right (2 ^ (52 - M)) a0
      rw [← Nat.pow_add, show M + (52 - M) = 52 by omega] at this
      exact this
    have e2 := nearest_exact (neg := s) (k := 0) (p := 0) a0 a1 aL (by omega) (by omega)
    rw [Nat.pow_zero, Nat.mul_one] at e2
    have e3 : shfW (Ieee.double.nearest s N 0) (-23) = wd s (N * 2 ^ (52 - M)) ((M : Int) - 75) := by
      have hr : Ieee.double.read (Ieee.double.nearest s N 0) = .number s (N * 2 ^ (52 - M)) (0 + ((0 : Nat) : Int) + M - 52) := by rw [e2, read_wd b0 b1 (by omega) (by omega)]
      rw [shfW_num hr, ← nearest_rung]
      have := nearest_exact (neg := s) (o := N * 2 ^ (52 - M)) (L := 52) (k := 0) (p := 0 + ((0 : Nat) : Int) + M - 52 + -23) b0 b1 (by omega) (by omega) (by omega)
      rw [Nat.pow_zero, Nat.mul_one] at this
      rw [this]
      congr 1; omega
    rw [← nearest_rung, e3]
    unfold narW
    rw [read_wd b0 b1 (by omega) (by omega), toldD_num, nearest_rung]
    congr 1
    rw [rung_scale]
    congr 1; omega
theorem logP_eq {x : Nat} (hx : x < 4294967296) : logP x = Ieee.single.nearest (decide ((x : Int) - 1065353216 < 0)) ((x : Int) - 1065353216).natAbs (-23) := by
  unfold logP; exact int_shf (by omega)
set_option maxHeartbeats 1000000 in
theorem rlog_any (x : Nat) (hx : x < 4294967296) (w : World) : Calls Try.prog 15 #[.int .u32 (x : Int)] w fun e w' => e = .returned (.int .u32 (logV x : Nat)) ∧ Q w w' := by
  have c1 := fun w => risnan_any x w hx
  have c2 := fun w => rless_any x 0 w hx (by decide)
  have c3 := fun w => requal_any x 0 w hx (by decide)
  rw [keyR_srung7 hx, keyR_srung7 (a := 0) (by decide), show srung32 0 = 0 from by decide, show nanN 0 = false from by decide, Bool.not_false, Bool.true_and] at c2 c3
  have c4 := fun w => scale64_any ((x : Int) - 1065353216) (by omega) (by omega) w
  have hl := logP_eq hx
  rw [show Ieee.single.nearest (decide ((x : Int) - 1065353216 < 0)) ((x : Int) - 1065353216).natAbs (-23) = Ieee.single.write (.number (decide ((x : Int) - 1065353216 < 0)) ((x : Int) - 1065353216).natAbs (-23)) from rfl] at hl
  rw [← hl] at c4
  clear hl
  cases h : nanN x
  · rw [h, Bool.not_false, Bool.true_and] at c2 c3
    rw [h] at c1
    rcases Int.lt_trichotomy (srung32 x) 0 with g | g | g
    · have e : logV x = 2143289344 := by unfold logV; rw [if_pos (Or.inr g)]
      rw [e]
      rw [decide_eq_true g] at c2
      clear e g c3 c4
      go_enter Try.func15, Try.ntmps15
      go_wp2_with fail
      refine (c1 _).mono ?_
      rintro e w1 ⟨rfl, q1⟩
      go_wp2_with fail
      refine (c2 _).mono ?_
      rintro e w2 ⟨rfl, q2⟩
      go_wp2_with fail
      go_ret
      exact ⟨rfl, q1.trans q2⟩
    · have e : logV x = 4286578688 := by unfold logV; rw [if_neg (by rw [h]; simp; omega), if_pos g]
      rw [e]
      rw [decide_eq_false (by omega)] at c2
      rw [show (srung32 x == 0) = true from by rw [beq_iff_eq]; exact g] at c3
      clear e g c4
      go_enter Try.func15, Try.ntmps15
      go_wp2_with fail
      refine (c1 _).mono ?_
      rintro e w1 ⟨rfl, q1⟩
      go_wp2_with fail
      refine (c2 _).mono ?_
      rintro e w2 ⟨rfl, q2⟩
      go_wp2_with fail
      refine (c3 _).mono ?_
      rintro e w3 ⟨rfl, q3⟩
      go_wp2_with fail
      go_ret
      exact ⟨rfl, (q1.trans q2).trans q3⟩
    · rw [decide_eq_false (by omega)] at c2
      rw [show (srung32 x == 0) = false from by rw [beq_eq_false_iff_ne]; omega] at c3
      by_cases k : x = 2139095040
      · have e : logV x = 2139095040 := by unfold logV; rw [if_neg (by rw [h]; simp; omega), if_neg (by omega), if_pos k]
        rw [e]
        have hk : ((x : Int) == 2139095040) = true := by rw [beq_iff_eq]; omega
        have hx' : Hid (x = 2139095040) := k
        clear e g k c4
        go_enter Try.func15, Try.ntmps15
        go_wp2_with fail
        refine (c1 _).mono ?_
        rintro e w1 ⟨rfl, q1⟩
        go_wp2_with fail
        refine (c2 _).mono ?_
        rintro e w2 ⟨rfl, q2⟩
        go_wp2_with fail
        refine (c3 _).mono ?_
        rintro e w3 ⟨rfl, q3⟩
        go_wp2_with fail
        go_ret
        exact ⟨ret_int (by rw [hx'.out]), (q1.trans q2).trans q3⟩
      · have e : logV x = logP x := by unfold logV; rw [if_neg (by rw [h]; simp; omega), if_neg (by omega), if_neg k]
        rw [e]
        have hk : ((x : Int) == 2139095040) = false := by rw [beq_eq_false_iff_ne]; omega
        clear e g k
        go_enter Try.func15, Try.ntmps15
        go_wp2_with fail
        refine (c1 _).mono ?_
        rintro e w1 ⟨rfl, q1⟩
        go_wp2_with fail
        refine (c2 _).mono ?_
        rintro e w2 ⟨rfl, q2⟩
        go_wp2_with fail
        refine (c3 _).mono ?_
        rintro e w3 ⟨rfl, q3⟩
        go_wp2_with fail
        refine (c4 _).mono ?_
        rintro e w4 ⟨rfl, q4⟩
        go_wp2_with fail
        go_ret
        exact ⟨rfl, ((q1.trans q2).trans q3).trans q4⟩
  · have e : logV x = 2143289344 := by unfold logV; rw [if_pos (Or.inl h)]
    rw [e]
    rw [h] at c1
    clear e c2 c3 c4
    go_enter Try.func15, Try.ntmps15
    go_wp2_with fail
    refine (c1 _).mono ?_
    rintro e w1 ⟨rfl, q1⟩
    go_wp2_with fail
    go_ret
    exact ⟨rfl, q1⟩
theorem r23 (y : Nat) (hy : y < 4294967296) (h1 : srung32 y < 1124073472) (h2 : -1123942400 ≤ srung32 y) (w : World) : Calls Try.prog 46 #[.int .u32 y, .int .i64 23] w fun x w' => (∃ E, x = .returned (.tuple #[.int .i64 (expI y), .int .i64 E])) ∧ Q w w' := by
  obtain ⟨g, _, b1, b2⟩ := exp_int h1 h2
  have hp := plc_le32 g
  have en : numOf Ieee.single y = .fin (sgn32 y) (mag32 (rung32 y)) (-149 + (plc32 (rung32 y) : Int)) false := by rw [numOf_datum, read_fin32 g]; rfl
  have hI : wI (expI y) = expI y := by unfold wI; rw [if_pos (by unfold inI; omega)]
  unfold expI exN at *
  rcases Int.lt_or_le (-126 + (plc32 (rung32 y) : Int)) 0 with k | k
  · obtain ⟨d, hd⟩ : ∃ d : Nat, -126 + (plc32 (rung32 y) : Int) = -(d : Int) := ⟨(-(-126 + (plc32 (rung32 y) : Int))).toNat, by omega⟩
    rw [show -149 + (plc32 (rung32 y) : Int) = -(d : Int) - 23 by omega] at en
    rw [hd] at hI ⊢
    refine (rnear23_neg y (mag32 (rung32 y)) (sgn32 y) d hy en (mag_lt32 _) (by omega) (by omega) w).mono ?_
    rintro x w' ⟨rfl, q⟩
    rw [hI]
    exact ⟨⟨_, rfl⟩, q⟩
  · obtain ⟨d, hd⟩ : ∃ d : Nat, -126 + (plc32 (rung32 y) : Int) = (d : Int) := ⟨(-126 + (plc32 (rung32 y) : Int)).toNat, by omega⟩
    rw [show -149 + (plc32 (rung32 y) : Int) = (d : Int) - 23 by omega] at en
    rw [hd] at hI ⊢
    have hd2 : d ≤ 104 := by
      have hs : srung32 y = if sgn32 y = true then -(rung32 y : Int) else rung32 y := rfl
      have hr : rung32 y < 1124073472 := by cases g : sgn32 y <;> rw [g] at hs <;> simp at hs <;> omega
      have : plc32 (rung32 y) ≤ 132 := by unfold plc32; omega
      omega
    refine (rnear23_pos y (mag32 (rung32 y)) (sgn32 y) d hy en (mag_lt32 _) hd2 w).mono ?_
    rintro x w' ⟨rfl, q⟩
    rw [hI]
    exact ⟨⟨_, rfl⟩, q⟩
set_option maxHeartbeats 1000000 in
theorem rexp_any (y : Nat) (hy : y < 4294967296) (w : World) : Calls Try.prog 17 #[.int .u32 (y : Int)] w fun e w' => e = .returned (.int .u32 (expW y : Nat)) ∧ Q w w' := by
  have c1 := fun w => risnan_any y w hy
  have c2 := fun w => rless_any y 1124073472 w hy (by decide)
  have c3 := fun w => rless_any y 3271426048 w hy (by decide)
  rw [keyR_srung7 hy, keyR_srung7 (a := 1124073472) (by decide), show srung32 1124073472 = 1124073472 from by decide, show nanN 1124073472 = false from by decide, Bool.not_false, Bool.true_and] at c2
  rw [keyR_srung7 hy, keyR_srung7 (a := 3271426048) (by decide), show srung32 3271426048 = -1123942400 from by decide, show nanN 3271426048 = false from by decide, Bool.not_false, Bool.true_and] at c3
  cases h : nanN y
  · rw [h, Bool.not_false, Bool.true_and] at c2 c3
    rw [h] at c1
    rcases Int.lt_or_le (srung32 y) 1124073472 with g | g
    · rw [decide_eq_true g] at c2
      rcases Int.lt_or_le (srung32 y) (-1123942400) with k | k
      · have e : expW y = 0 := by unfold expW; rw [if_neg (by rw [h]; decide), if_neg (by omega), if_pos k]
        rw [e]
        rw [decide_eq_true k] at c3
        clear e g k
        go_enter Try.func17, Try.ntmps17
        go_wp2_with fail
        refine (c1 _).mono ?_
        rintro e w1 ⟨rfl, q1⟩
        go_wp2_with fail
        refine (c2 _).mono ?_
        rintro e w2 ⟨rfl, q2⟩
        go_wp2_with fail
        refine (c3 _).mono ?_
        rintro e w3 ⟨rfl, q3⟩
        go_wp2_with fail
        go_ret
        exact ⟨rfl, (q1.trans q2).trans q3⟩
      · have e : expW y = expP y := by unfold expW; rw [if_neg (by rw [h]; decide), if_neg (by omega), if_neg (by omega)]
        rw [e]
        rw [decide_eq_false (by omega)] at c3
        have c4 := fun w => r23 y hy g k w
        obtain ⟨_, _, b1, b2⟩ := exp_int g k
        have ep : Hid ((expP y : Int) = expI y + 1065353216 ∧ expP y < 4294967296) := ⟨by unfold expP; omega, by unfold expP; omega⟩
        have l4 : ((expI y + 1065353216) : Int) = (expP y : Nat) := ep.out.1.symm
        have l6 : wrap64 (expI y + 1065353216) = (expP y : Nat) := by rw [l4]; have := ep.out.2; unfold wrap64; omega
        generalize expI y = E at c4 l4 l6
        clear e g k b1 b2
        go_enter Try.func17, Try.ntmps17
        go_wp2_with fail
        refine (c1 _).mono ?_
        rintro e w1 ⟨rfl, q1⟩
        go_wp2_with fail
        refine (c2 _).mono ?_
        rintro e w2 ⟨rfl, q2⟩
        go_wp2_with fail
        refine (c3 _).mono ?_
        rintro e w3 ⟨rfl, q3⟩
        go_wp2_with fail
        refine (c4 _).mono ?_
        rintro e w4 ⟨⟨F, rfl⟩, q4⟩
        go_wp2_with fail
        go_ret
        exact ⟨ret_int (by have := ep.out.2; unfold wrap64; omega), ((q1.trans q2).trans q3).trans q4⟩
    · have e : expW y = 2139095040 := by unfold expW; rw [if_neg (by rw [h]; decide), if_pos g]
      rw [e]
      rw [decide_eq_false (by omega)] at c2
      clear e g c3
      go_enter Try.func17, Try.ntmps17
      go_wp2_with fail
      refine (c1 _).mono ?_
      rintro e w1 ⟨rfl, q1⟩
      go_wp2_with fail
      refine (c2 _).mono ?_
      rintro e w2 ⟨rfl, q2⟩
      go_wp2_with fail
      go_ret
      exact ⟨rfl, q1.trans q2⟩
  · have e : expW y = 2143289344 := by unfold expW; rw [if_pos h]
    rw [e]
    rw [h] at c1
    clear e c2 c3
    go_enter Try.func17, Try.ntmps17
    go_wp2_with fail
    refine (c1 _).mono ?_
    rintro e w1 ⟨rfl, q1⟩
    go_wp2_with fail
    go_ret
    exact ⟨rfl, q1⟩
end Go.Proofs.Ytedafbbpcpebbaa

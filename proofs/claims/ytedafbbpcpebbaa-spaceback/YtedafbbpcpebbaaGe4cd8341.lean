/- What the reference's whole, Floor, Nearest and FromInt return. -/
import Derived.Test.YtedafbbpcpebbaaG89f3adde
import Derived.Test.YtedafbbpcpebbaaG402615fe
import Derived.Test.YtedafbbpcpebbaaGf198d54a
namespace Go.Proofs.Ytedafbbpcpebbaa
open Go.RowKit

theorem ret_two {a b c d : Int} (h : a = b) (g : c = d) : Ending.returned (.tuple #[.int .i64 a, .int .i64 c]) = .returned (.tuple #[.int .i64 b, .int .i64 d]) := by rw [h, g]
/-- A number with a sign, if it is one of 64 bits. -/
abbrev inI (V : Int) : Prop := -9223372036854775808 ≤ V ∧ V < 9223372036854775808
/-- What is told of it: the number, and the error. -/
def wI (V : Int) : Int := if inI V then V else 0
def wE (V : Int) : Int := if inI V then 0 else 20
theorem blen_ge {n k : Nat} (h : k < blen n) : 2 ^ k ≤ n := by
  rcases Nat.lt_or_ge n (2 ^ k) with g | g
  · have := blen_le g; omega
  · exact g

set_option maxHeartbeats 1000000 in
theorem rwhole_pos (v : Value) (n : Nat) (w : World) (hv : NatAt w v n) :
    Calls Try.prog 74 #[.bool false, v] w fun e w' => e = .returned (.tuple #[.int .i64 (wI (n : Int)), .int .i64 (wE (n : Int))]) ∧ Q w w' := by
  by_cases h1 : 64 < blen n
  · have hz : (64 : Int) < (blen n : Int) := by omega
    have hn : ¬ inI (n : Int) := by have := blen_ge h1; unfold inI; omega
    unfold wI wE
    rw [if_neg hn, if_neg hn]
    clear hn
    go_enter Try.func74, Try.ntmps74
    go_wp2_with fail
    refine (bits_any _ n _ hv).mono ?_
    rintro e w1 ⟨rfl, rfl⟩
    go_wp2_with fail
    go_ret2
    exact ⟨rfl, Q.refl _⟩
  · have hz : decide ((64 : Int) < (blen n : Int)) = false := decide_eq_false (by omega)
    by_cases h2 : 63 < blen n
    · have hz2 : (63 : Int) < (blen n : Int) := by omega
      have hn : ¬ inI (n : Int) := by have := blen_ge h2; unfold inI; omega
      unfold wI wE
      rw [if_neg hn, if_neg hn]
      clear hn
      go_enter Try.func74, Try.ntmps74
      go_wp2_with fail
      refine (bits_any _ n _ hv).mono ?_
      rintro e w1 ⟨rfl, rfl⟩
      go_wp2_with fail
      refine (bits_any _ n _ hv).mono ?_
      rintro e w1 ⟨rfl, rfl⟩
      go_wp2_with fail
      go_ret2
      exact ⟨rfl, Q.refl _⟩
    · have hz2 : decide ((63 : Int) < (blen n : Int)) = false := decide_eq_false (by omega)
      have hlt : n < 2 ^ 63 := Nat.lt_of_lt_of_le (blen_lt n) (Nat.pow_le_pow_right (by decide) (by omega))
      have hn : inI (n : Int) := by unfold inI; omega
      unfold wI wE
      rw [if_pos hn, if_pos hn]
      have hlow : lowV n = n := Nat.mod_eq_of_lt (by omega)
      have hnb : n < 9223372036854775808 := hlt
      clear hn hlt
      go_enter Try.func74, Try.ntmps74
      go_wp2_with fail
      refine (bits_any _ n _ hv).mono ?_
      rintro e w1 ⟨rfl, rfl⟩
      go_wp2_with fail
      refine (bits_any _ n _ hv).mono ?_
      rintro e w1 ⟨rfl, rfl⟩
      go_wp2_with fail
      refine (low_any _ n _ hv).mono ?_
      rintro e w1 ⟨rfl, rfl⟩
      rw [hlow]
      go_wp2_with fail
      go_ret2
      exact ⟨rfl, Q.refl _⟩

set_option maxHeartbeats 1000000 in
theorem rwhole_neg (v : Value) (n : Nat) (w : World) (hv : NatAt w v n) :
    Calls Try.prog 74 #[.bool true, v] w fun e w' => e = .returned (.tuple #[.int .i64 (wI (-(n : Int))), .int .i64 (wE (-(n : Int)))]) ∧ Q w w' := by
  by_cases h1 : 64 < blen n
  · have hz : (64 : Int) < (blen n : Int) := by omega
    have hn : ¬ inI (-(n : Int)) := by have := blen_ge h1; unfold inI; omega
    unfold wI wE
    rw [if_neg hn, if_neg hn]
    clear hn
    go_enter Try.func74, Try.ntmps74
    go_wp2_with fail
    refine (bits_any _ n _ hv).mono ?_
    rintro e w1 ⟨rfl, rfl⟩
    go_wp2_with fail
    go_ret2
    exact ⟨rfl, Q.refl _⟩
  · have hz : decide ((64 : Int) < (blen n : Int)) = false := decide_eq_false (by omega)
    have hlt : n < 2 ^ 64 := Nat.lt_of_lt_of_le (blen_lt n) (Nat.pow_le_pow_right (by decide) (by omega))
    by_cases h2 : n ≤ 9223372036854775808
    · have hc : cmpV n 9223372036854775808 ≤ 0 := by unfold cmpV; split <;> (try split) <;> omega
      have hcb : decide (0 < cmpV n 9223372036854775808) = false := decide_eq_false (by omega)
      have hn : inI (-(n : Int)) := by unfold inI; omega
      unfold wI wE
      rw [if_pos hn, if_pos hn]
      have hlow : lowV n = n := Nat.mod_eq_of_lt (by omega)
      clear hn hlt
      go_enter Try.func74, Try.ntmps74
      go_wp2_with fail
      refine (bits_any _ n _ hv).mono ?_
      rintro e w1 ⟨rfl, rfl⟩
      go_wp2_with fail
      refine (natof_nat 9223372036854775808 _ (by decide)).mono ?_
      rintro e w1 ⟨v1, rfl, hv1, q1⟩
      go_wp2_with fail
      refine (compare_any _ _ n 9223372036854775808 _ (q1.nat hv) hv1).mono ?_
      rintro e w2 ⟨rfl, q2⟩
      go_wp2_with fail
      refine (low_any _ n _ ((q1.trans q2).nat hv)).mono ?_
      rintro e w3 ⟨rfl, rfl⟩
      rw [hlow]
      go_wp2_with fail
      go_ret2
      exact ⟨ret_two (by unfold wrap64; rw [IntKind.wrap_u64]; omega) rfl, q1.trans q2⟩
    · have hc : 0 < cmpV n 9223372036854775808 := by unfold cmpV; split <;> (try split) <;> omega
      have hn : ¬ inI (-(n : Int)) := by unfold inI; omega
      unfold wI wE
      rw [if_neg hn, if_neg hn]
      clear hn
      go_enter Try.func74, Try.ntmps74
      go_wp2_with fail
      refine (bits_any _ n _ hv).mono ?_
      rintro e w1 ⟨rfl, rfl⟩
      go_wp2_with fail
      refine (natof_nat 9223372036854775808 _ (by decide)).mono ?_
      rintro e w1 ⟨v1, rfl, hv1, q1⟩
      go_wp2_with fail
      refine (compare_any _ _ n 9223372036854775808 _ (q1.nat hv) hv1).mono ?_
      rintro e w2 ⟨rfl, q2⟩
      go_wp2_with fail
      go_ret2
      exact ⟨rfl, q1.trans q2⟩

theorem rwhole_any (s : Bool) (v : Value) (n : Nat) (w : World) (hv : NatAt w v n) :
    Calls Try.prog 74 #[.bool s, v] w fun e w' => e = .returned (.tuple #[.int .i64 (wI (Ieee.signed s n 0)), .int .i64 (wE (Ieee.signed s n 0))]) ∧ Q w w' := by
  cases s
  · rw [show Ieee.signed false n 0 = (n : Int) from by unfold Ieee.signed; rw [Nat.shiftLeft_zero]; rfl]
    exact rwhole_pos v n w hv
  · rw [show Ieee.signed true n 0 = -(n : Int) from by unfold Ieee.signed; rw [Nat.shiftLeft_zero]; rfl]
    exact rwhole_neg v n w hv

end Go.Proofs.Ytedafbbpcpebbaa
/- What the reference's Nearest and FromInt return. -/
namespace Go.Proofs.Ytedafbbpcpebbaa
open Go.RowKit

/-- To the nearest, by bits. -/
theorem rne_bits {n d : Nat} (h : 1 ≤ d) : rne n d = n / 2 ^ d + if bitV n (d - 1) = 1 ∧ (restB n (d - 1) = true ∨ bitV (n / 2 ^ d) 0 = 1) then 1 else 0 := by
  have k := kept_down (n := n) (m := 0) (e := 0) d (rfl : (0 : Int) + (d : Int) = 0 + (d : Int)) h (by decide)
  unfold keptV at k
  rw [Nat.add_zero, show (0 : Int) - 1 - (0 + (d : Int)) = -((d + 1 : Nat) : Int) by omega, rz_neg, Nat.mul_comm 2 n, show n * 2 = n * 2 ^ 1 by rw [Nat.pow_one], rne_scale] at k
  rw [k]
  have e : restB n (d - 1) = true ↔ n % 2 ^ (d - 1) ≠ 0 := by unfold restB; simp
  congr 1
  simp only [e]
  simp
set_option maxHeartbeats 4000000 in
set_option maxRecDepth 100000 in
theorem rnear_neg (a n : Nat) (s : Bool) (d : Nat) (ha : a < 4294967296) (hn : numOf Ieee.single a = .fin s n (-(d : Int)) false) (hb : n < 16777216) (d1 : 1 ≤ d) (d2 : d ≤ 149) (w : World) :
    Calls Try.prog 46 #[.int .u32 a, .int .i64 0] w fun x w' => x = .returned (.tuple #[.int .i64 (wI (Ieee.signed s (wholeN .even s n (-(d : Int))) 0)), .int .i64 (wE (Ieee.signed s (wholeN .even s n (-(d : Int))) 0))]) ∧ Q w w' := by
  have HN : Hid _ := hn
  clear hn
  have hw : wholeN .even s n (-(d : Int)) = rne n d := by
    unfold wholeN
    rw [show (-(d : Int)).toNat = 0 by omega, Nat.shiftLeft_zero, show (- -(d : Int)).toNat = d by omega, cut_rne]
  rw [hw]
  clear hw
  obtain ⟨R, hR⟩ : ∃ R, R = rne n d := ⟨_, rfl⟩
  rw [← hR]
  rw [rne_bits d1] at hR
  have HR : Hid _ := hR
  clear hR
  obtain ⟨j, hj⟩ : ∃ j : Nat, d - 1 = j := ⟨_, rfl⟩
  have hdj : (d : Int) - 1 = (j : Int) := by omega
  have hj2 : j ≤ 148 := by omega
  rw [hj] at HR
  have HJ : Hid (d = j + 1) := by show d = j + 1; omega
  clear hj
  go_enter Try.func46, Try.ntmps46
  go_wp2_with fail
  refine (num_any a _ ha).mono ?_
  rintro x w1 ⟨v1, rfl, hv1, q1⟩
  rw [HN.out] at hv1
  obtain ⟨nv, rfl, p, bb, L, C, rfl, hI⟩ := hv1
  have HI : Hid _ := hI
  clear hI
  go_wp2_with fail
  refine (down_any _ n d _ ⟨p, bb, L, C, rfl, ((Q.refl w1).cells _ _).natIs HI.out⟩ (by omega)).mono ?_
  rintro x w2 ⟨v2, rfl, h2, q2⟩
  have H2 : Hid (NatAt w2 v2 (n / 2 ^ d)) := h2
  have c1 : w2.cell? ⟨w1.heap.size, 1, none⟩ = some (.bool s) := q2.cell (by simp [go_sem])
  have c2 : w2.cell? ⟨w1.heap.size, 2, none⟩ = some (.slice p L C) := q2.cell (by simp [go_sem])
  have c3 : w2.cell? ⟨w1.heap.size, 3, none⟩ = some (.int .i64 (-(d : Int))) := q2.cell (by simp [go_sem])
  have HA : Hid (NatAt w2 (.slice p L C) n) := ⟨p, bb, L, C, rfl, q2.natIs (((Q.refl w1).cells _ _).natIs HI.out)⟩
  have Q2 : Hid (Q w w2) := (q1.cells _ _).trans q2
  clear h2 q2 q1 HI
  go_wp2_with fail
  refine (bit_any _ n j _ HA.out (by omega)).mono ?_
  rintro x w3 ⟨rfl, hw3⟩
  subst hw3
  go_upto_block 0 with fail
  go_cut [10] from 12 (fun s10 wx => s10 = .bool (restB n j) ∧ w3 = wx)
  case first =>
    go_wp2_with fail
    go_loopg [10, 11] j (fun g s10 s11 wr => w3 = wr ∧ ∃ k : Nat, k ≤ j ∧ g = j - k ∧ s11 = .int .i64 k ∧ s10 = .bool (restB n k))
    case atStart => exact ⟨rfl, 0, Nat.zero_le _, rfl, rfl, by rw [restB_zero]⟩
    case round =>
      obtain ⟨rfl, k, hk, hg, rfl, rfl⟩ := hrel
      by_cases hkd : k < j
      · have hkz : (k : Int) < (j : Int) := by omega
        cases hbel : restB n k
        · have HF : Hid _ := restB_f hbel
          go_wp2_with fail
          refine (bit_any _ n k _ HA.out (by omega)).mono ?_
          rintro x we ⟨rfl, hwe⟩
          subst hwe
          go_wp2_with fail
          go_roundg (j - (k + 1))
          case measure => go_light; omega
          case rel => go_light; exact ⟨rfl, k + 1, by omega, rfl, by simp, congrArg Value.bool (by rw [HF.out])⟩
        · have HF : Hid (restB n (k + 1) = true) := restB_t hbel
          go_wp2_with fail
          go_roundg (j - (k + 1))
          case measure => go_light; omega
          case rel => go_light; exact ⟨rfl, k + 1, by omega, rfl, by simp, congrArg Value.bool (by rw [HF.out])⟩
      · obtain rfl : k = j := by omega
        have hkz : ¬ (k : Int) < (k : Int) := by omega
        go_wp2_with fail
        go_meet
        case rel => go_light; exact ⟨rfl, rfl⟩
  case rest =>
    obtain ⟨rfl, rfl⟩ := hcut
    have hb1 := bitV_le n j
    by_cases hh : bitV n j = 1
    · have hhb : ((bitV n j : Int) == 1) = true := by rw [beq_iff_eq]; omega
      have HH : Hid _ := hh
      clear hh hb1
      cases hbel : restB n j
      · have HB : Hid (¬ restB n j = true) := by
          show ¬ restB n j = true
          rw [hbel]; decide
        have hb2 := bitV_le (n / 2 ^ d) 0
        by_cases h0 : bitV (n / 2 ^ d) 0 = 1
        · have h0b : ((bitV (n / 2 ^ d) 0 : Int) == 1) = true := by rw [beq_iff_eq]; omega
          have H0 : Hid _ := h0
          clear h0 hb2
          go_wp2_with fail
          refine (bit_any v2 (n / 2 ^ d) 0 _ H2.out (by decide)).mono ?_
          rintro x w4 ⟨rfl, hw4⟩
          subst hw4
          obtain rfl : R = n / 2 ^ d + 1 := by rw [HR.out, if_pos (⟨HH.out, Or.inr H0.out⟩)]
          clear HR
          go_wp2_with fail
          refine (natof_nat 1 _ (by decide)).mono ?_
          rintro x w5 ⟨v5, rfl, h5, q5⟩
          have H5 : Hid (NatAt w5 v5 1) := h5
          have Q5 : Hid (Q w4 w5) := q5
          have c1 := q5.cell c1
          clear h5 q5
          go_wp2_with fail
          refine (plus_any _ _ (n / 2 ^ d) 1 _ (Q5.out.nat H2.out) H5.out (lt_cap (k := 25) (by have := Nat.div_le_self n (2 ^ d); omega) (by decide))).mono ?_
          rintro x w6 ⟨v6, rfl, h6, q6⟩
          have H6 : Hid (NatAt w6 v6 (n / 2 ^ d + 1)) := h6
          have c1 := q6.cell c1
          have Q6 : Hid (Q w w6) := (Q2.out.trans Q5.out).trans q6
          clear h6 q6
          go_wp2_with fail
          refine (rwhole_any s v6 (n / 2 ^ d + 1) _ H6.out).mono ?_
          rintro x w9 ⟨rfl, q9⟩
          go_wp2_with fail
          go_ret2
          exact ⟨rfl, Q6.out.trans q9⟩
        · have h0b : ((bitV (n / 2 ^ d) 0 : Int) == 1) = false := by rw [beq_eq_false_iff_ne]; omega
          have H0 : Hid _ := h0
          clear h0 hb2
          go_wp2_with fail
          refine (bit_any v2 (n / 2 ^ d) 0 _ H2.out (by decide)).mono ?_
          rintro x w4 ⟨rfl, hw4⟩
          subst hw4
          obtain rfl : R = n / 2 ^ d := by rw [HR.out, if_neg (fun c => c.2.elim HB.out H0.out), Nat.add_zero]
          clear HR
          go_wp2_with fail
          refine (rwhole_any s v2 (n / 2 ^ d) _ H2.out).mono ?_
          rintro x w9 ⟨rfl, q9⟩
          go_wp2_with fail
          go_ret2
          exact ⟨rfl, Q2.out.trans q9⟩
      · have HB : Hid (restB n j = true) := hbel
        obtain rfl : R = n / 2 ^ d + 1 := by rw [HR.out, if_pos (⟨HH.out, Or.inl HB.out⟩)]
        clear HR
        go_wp2_with fail
        refine (natof_nat 1 _ (by decide)).mono ?_
        rintro x w5 ⟨v5, rfl, h5, q5⟩
        have H5 : Hid (NatAt w5 v5 1) := h5
        have Q5 : Hid (Q w3 w5) := q5
        have c1 := q5.cell c1
        clear h5 q5
        go_wp2_with fail
        refine (plus_any _ _ (n / 2 ^ d) 1 _ (Q5.out.nat H2.out) H5.out (lt_cap (k := 25) (by have := Nat.div_le_self n (2 ^ d); omega) (by decide))).mono ?_
        rintro x w6 ⟨v6, rfl, h6, q6⟩
        have H6 : Hid (NatAt w6 v6 (n / 2 ^ d + 1)) := h6
        have c1 := q6.cell c1
        have Q6 : Hid (Q w w6) := (Q2.out.trans Q5.out).trans q6
        clear h6 q6
        go_wp2_with fail
        refine (rwhole_any s v6 (n / 2 ^ d + 1) _ H6.out).mono ?_
        rintro x w9 ⟨rfl, q9⟩
        go_wp2_with fail
        go_ret2
        exact ⟨rfl, Q6.out.trans q9⟩
    · have hhb : ((bitV n j : Int) == 1) = false := by rw [beq_eq_false_iff_ne]; omega
      have HH : Hid _ := hh
      clear hh hb1
      obtain rfl : R = n / 2 ^ d := by rw [HR.out, if_neg (fun c => HH.out c.1), Nat.add_zero]
      clear HR
      go_wp2_with fail
      refine (rwhole_any s v2 (n / 2 ^ d) _ H2.out).mono ?_
      rintro x w9 ⟨rfl, q9⟩
      go_wp2_with fail
      go_ret2
      exact ⟨rfl, Q2.out.trans q9⟩

set_option maxHeartbeats 4000000 in
theorem rnear_pos (a n : Nat) (s : Bool) (k : Nat) (ha : a < 4294967296) (hn : numOf Ieee.single a = .fin s n (k : Int) false) (hb : n < 16777216) (d2 : k ≤ 104) (w : World) :
    Calls Try.prog 46 #[.int .u32 a, .int .i64 0] w fun x w' => x = .returned (.tuple #[.int .i64 (wI (Ieee.signed s (wholeN .even s n (k : Int)) 0)), .int .i64 (wE (Ieee.signed s (wholeN .even s n (k : Int)) 0))]) ∧ Q w w' := by
  have HN : Hid _ := hn
  clear hn
  have hw : wholeN .even s n (k : Int) = n * 2 ^ k := by
    unfold wholeN
    rw [show (-(k : Int)).toNat = 0 by omega, cut_0 (Or.inr rfl), Nat.shiftLeft_eq, show ((k : Int)).toNat = k by omega]
  rw [hw]
  have hcap : n * 2 ^ k < cap := lt_cap (k := 200) (by
    have := Nat.mul_lt_mul_of_pos_right (show n < 2 ^ 24 from hb) (Nat.two_pow_pos k)
    rw [← Nat.pow_add] at this
    exact Nat.lt_of_lt_of_le this (Nat.pow_le_pow_right (by decide) (by omega))) (by decide)
  have HC : Hid _ := hcap
  clear hcap hw
  go_enter Try.func46, Try.ntmps46
  go_wp2_with fail
  refine (num_any a _ ha).mono ?_
  rintro x w1 ⟨v1, rfl, hv1, q1⟩
  rw [HN.out] at hv1
  obtain ⟨nv, rfl, p, bb, L, C, rfl, hI⟩ := hv1
  have HI : Hid _ := hI
  clear hI
  go_wp2_with fail
  go_region_held3 (fun w' => w'.cell? ⟨w1.heap.size, 1, none⟩ = some (.bool s) ∧ w'.cell? ⟨w1.heap.size, 2, none⟩ = some (.slice p L C) ∧ w'.cell? ⟨w1.heap.size, 3, none⟩ = some (.int .i64 k)) (first | (simp [go_sem]; done) | (refine ⟨?_, ?_, ?_⟩ <;> assumption)) (first | (go_at_call 57; refine (up_any _ n k _ ⟨p, bb, L, C, rfl, (((Q.refl w1).cells _ _).drew).natIs HI.out⟩ HC.out).mono ?_; rintro x w2 ⟨v2, rfl, h2, q2⟩; have H2 : Hid (NatAt w2 v2 (n * 2 ^ k)) := h2; have d1 : w2.cell? ⟨w1.heap.size, 1, none⟩ = some (.bool s) := q2.cell (by simp [go_sem]); have d2 : w2.cell? ⟨w1.heap.size, 2, none⟩ = some (.slice p L C) := q2.cell (by simp [go_sem]); have d3 : w2.cell? ⟨w1.heap.size, 3, none⟩ = some (.int .i64 k) := q2.cell (by simp [go_sem]); clear h2) | (go_at_call 74; refine (rwhole_any s v2 (n * 2 ^ k) _ H2.out).mono ?_; rintro x w3 ⟨rfl, q3⟩; have f1 := q3.cell d1; have f2 := q3.cell d2; have f3 := q3.cell d3))
  all_goals
    go_wp2_with fail
    go_ret2
    exact ⟨rfl, (((q1.cells _ _).drew).trans q2).trans q3⟩
set_option maxHeartbeats 2000000 in
theorem rnear_odd (a : Nat) (ha : a < 4294967296) (h : numOf Ieee.single a = .nan ∨ ∃ s, numOf Ieee.single a = .inf s) (w : World) :
    Calls Try.prog 46 #[.int .u32 a, .int .i64 0] w fun e w' => e = .returned (.tuple #[.int .i64 0, .int .i64 20]) ∧ Q w w' := by
  rcases h with hn | ⟨s, hn⟩
  all_goals
    have HN : Hid _ := hn
    clear hn
    go_enter Try.func46, Try.ntmps46
    go_wp2_with fail
    refine (num_any a _ ha).mono ?_
    rintro x w1 ⟨v1, rfl, hv1, q1⟩
    rw [HN.out] at hv1
  · obtain ⟨b, ee, m, rfl⟩ := hv1
    go_wp2_with fail
    go_ret2
    exact ⟨rfl, q1.cells _ _⟩
  · obtain ⟨ee, m, rfl⟩ := hv1
    go_wp2_with fail
    go_ret2
    exact ⟨rfl, q1.cells _ _⟩
/-- What Floor and Nearest of the reference tell. -/
theorem flo_told {way : Ieee.Toward} (hw : way = .down ∨ way = .even) {a : Nat} (h : rung32 a < 2139095040) :
    floI way a = wI (Ieee.signed (sgn32 a) (wholeN way (sgn32 a) (mag32 (rung32 a)) (-149 + (plc32 (rung32 a) : Int))) 0) ∧ floE way a = wE (Ieee.signed (sgn32 a) (wholeN way (sgn32 a) (mag32 (rung32 a)) (-149 + (plc32 (rung32 a) : Int))) 0) := by
  obtain ⟨V, v1, v2, v3⟩ := flo_fin hw h
  rw [← v1, v2, v3]
  exact ⟨rfl, rfl⟩
theorem rnearup_any (a : Nat) (ha : a < 4294967296) (w : World) : Calls Try.prog 46 #[.int .u32 a, .int .i64 0] w fun e w' => e = .returned (.tuple #[.int .i64 (floI .even a), .int .i64 (floE .even a)]) ∧ Q w w' := by
  cases hn : nanN a
  · rcases cases32 hn with g | g
    · obtain ⟨e1, e2⟩ := flo_told (Or.inr rfl : Ieee.Toward.even = .down ∨ Ieee.Toward.even = .even) g
      rw [e1, e2]
      have hp := plc_le32 g
      have en : numOf Ieee.single a = .fin (sgn32 a) (mag32 (rung32 a)) (-149 + (plc32 (rung32 a) : Int)) false := by rw [numOf_datum, read_fin32 g]; rfl
      rcases Int.lt_or_le (-149 + (plc32 (rung32 a) : Int)) 0 with k | k
      · obtain ⟨d, hd⟩ : ∃ d : Nat, -149 + (plc32 (rung32 a) : Int) = -(d : Int) := ⟨(-(-149 + (plc32 (rung32 a) : Int))).toNat, by omega⟩
        rw [hd] at en ⊢
        exact rnear_neg a (mag32 (rung32 a)) (sgn32 a) d ha en (mag_lt32 _) (by omega) (by omega) w
      · obtain ⟨d, hd⟩ : ∃ d : Nat, -149 + (plc32 (rung32 a) : Int) = (d : Int) := ⟨(-149 + (plc32 (rung32 a) : Int)).toNat, by omega⟩
        rw [hd] at en ⊢
        exact rnear_pos a (mag32 (rung32 a)) (sgn32 a) d ha en (mag_lt32 _) (by omega) w
    · obtain ⟨e1, e2⟩ := flo_inf (way := .even) g
      rw [e1, e2]
      exact rnear_odd a ha (Or.inr ⟨sgn32 a, by rw [numOf_datum, read_inf32 g]; rfl⟩) w
  · obtain ⟨e1, e2⟩ := flo_nan (way := .even) hn
    rw [e1, e2]
    obtain ⟨s, t, e⟩ := isNaN_cases (read32_nan hn)
    exact rnear_odd a ha (Or.inl (by rw [numOf_datum, e]; rfl)) w
end Go.Proofs.Ytedafbbpcpebbaa
/- What the reference's IsNaN, key, Less, Equal, Least and Greatest return of whatever samples. -/
namespace Go.Proofs.Ytedafbbpcpebbaa
open Go.RowKit

theorem nanN_cases (b : Nat) : (numOf Ieee.single b = .nan ∧ nanN b = true) ∨ ((∃ s, numOf Ieee.single b = .inf s) ∧ nanN b = false) ∨ ((∃ s n e, numOf Ieee.single b = .fin s n e false) ∧ nanN b = false) := by
  unfold nanN
  by_cases h1 : b / 8388608 % 256 = 255
  · by_cases h2 : b % 8388608 = 0
    · exact Or.inr (Or.inl ⟨⟨_, numOf_inf h1 h2⟩, decide_eq_false (by omega)⟩)
    · exact Or.inl ⟨numOf_nan h1 h2, decide_eq_true (by omega)⟩
  · by_cases h3 : b / 8388608 % 256 = 0
    · exact Or.inr (Or.inr ⟨⟨_, _, _, numOf_small h3⟩, decide_eq_false (by omega)⟩)
    · exact Or.inr (Or.inr ⟨⟨_, _, _, numOf_norm h3 h1⟩, decide_eq_false (by omega)⟩)

theorem field_kind (k : Int) (s : Bool) (p : Option Addr) (L C : Nat) (e : Int) (m : Bool) (w : World) :
    Sem.run Try.prog (Instr.field 38 (.agg #[.int .i64 k, .bool s, .slice p L C, .int .i64 e, .bool m]) 0) w = .ok (.int .i64 k) w := by kernel_rfl

set_option maxHeartbeats 1000000 in
theorem risnan_any (a : Nat) (w : World) (ha : a < 4294967296) :
    Calls Try.prog 42 #[.int .u32 a] w fun e w' => e = .returned (.bool (nanN a)) ∧ Q w w' := by
  rcases nanN_cases a with ⟨hn, hb⟩ | ⟨⟨s, hn⟩, hb⟩ | ⟨⟨s, n, e, hn⟩, hb⟩
  all_goals
    rw [hb]
    have HN : Hid _ := hn
    clear hn hb
    have hfk := field_kind
    go_enter Try.func42, Try.ntmps42
    go_wp2_with fail
    refine (num_any a _ ha).mono ?_
    rintro x w1 ⟨v1, rfl, hv1, q1⟩
    rw [HN.out] at hv1
  · obtain ⟨b, ee, m, rfl⟩ := hv1
    go_wp2_with fail
    go_ret
    exact ⟨rfl, q1⟩
  · obtain ⟨ee, m, rfl⟩ := hv1
    go_wp2_with fail
    go_ret
    exact ⟨rfl, q1⟩
  · obtain ⟨nv, rfl, p, bb, L, C, rfl, hI⟩ := hv1
    go_wp2_with fail
    go_ret
    exact ⟨rfl, q1⟩

/-- Rises with the value. -/
def keyR (a : Nat) : Int := if a < 2147483648 then (a : Int) else -((a - 2147483648 : Nat) : Int)
set_option maxHeartbeats 1000000 in
theorem rkey_any (a : Nat) (w : World) (ha : a < 4294967296) :
    Calls Try.prog 62 #[.int .u32 a] w fun e w' => e = .returned (.int .i64 (keyR a)) ∧ w' = w := by
  by_cases h : a < 2147483648
  · have e1 : ((a : Int) / 2147483648 == 1) = false := by simp; omega
    have ek : keyR a = (a : Int) := by unfold keyR; rw [if_pos h]
    rw [ek]
    clear ek
    go_enter Try.func62, Try.ntmps62
    go_wp2
    go_ret
    exact ⟨rfl, rfl⟩
  · have e1 : ((a : Int) / 2147483648 == 1) = true := by simp; omega
    obtain ⟨r, hr⟩ : ∃ r : Nat, r = a - 2147483648 := ⟨_, rfl⟩
    have ek : keyR a = -(r : Int) := by unfold keyR; rw [if_neg h, hr]
    have e2 : bits .and .u32 (a : Int) 2147483647 = (r : Int) := by
      have : bits .and .u32 (a : Int) 2147483647 = (a : Int) % 2147483648 := by go_bits2
      rw [this]; omega
    have hrb : r < 2147483648 := by omega
    rw [ek]
    clear ek hr
    go_enter Try.func62, Try.ntmps62
    go_wp2
    go_ret
    exact ⟨rfl, rfl⟩

set_option maxHeartbeats 2000000 in
theorem rless_any (a b : Nat) (w : World) (ha : a < 4294967296) (hb : b < 4294967296) :
    Calls Try.prog 43 #[.int .u32 a, .int .u32 b] w fun e w' => e = .returned (.bool (!nanN a && (!nanN b && decide (keyR a < keyR b)))) ∧ Q w w' := by
  cases hna : nanN a
  · cases hnb : nanN b
    · go_enter Try.func43, Try.ntmps43
      go_wp2_with fail
      refine (risnan_any a _ ha).mono ?_
      rintro x w1 ⟨rfl, q1⟩
      go_wp2_with fail
      refine (risnan_any b _ hb).mono ?_
      rintro x w2 ⟨rfl, q2⟩
      go_wp2_with fail
      refine (rkey_any a _ ha).mono ?_
      rintro x w3 ⟨rfl, rfl⟩
      go_wp2_with fail
      refine (rkey_any b _ hb).mono ?_
      rintro x w3 ⟨rfl, rfl⟩
      go_wp2_with fail
      go_ret
      exact ⟨ret_bool (by simp), q1.trans q2⟩
    · go_enter Try.func43, Try.ntmps43
      go_wp2_with fail
      refine (risnan_any a _ ha).mono ?_
      rintro x w1 ⟨rfl, q1⟩
      go_wp2_with fail
      refine (risnan_any b _ hb).mono ?_
      rintro x w2 ⟨rfl, q2⟩
      go_wp2_with fail
      go_ret
      exact ⟨ret_bool (by simp), q1.trans q2⟩
  · go_enter Try.func43, Try.ntmps43
    go_wp2_with fail
    refine (risnan_any a _ ha).mono ?_
    rintro x w1 ⟨rfl, q1⟩
    go_wp2_with fail
    go_ret
    exact ⟨ret_bool (by simp), q1⟩

set_option maxHeartbeats 2000000 in
theorem requal_any (a b : Nat) (w : World) (ha : a < 4294967296) (hb : b < 4294967296) :
    Calls Try.prog 31 #[.int .u32 a, .int .u32 b] w fun e w' => e = .returned (.bool (!nanN a && (!nanN b && (keyR a == keyR b)))) ∧ Q w w' := by
  cases hna : nanN a
  · cases hnb : nanN b
    · go_enter Try.func31, Try.ntmps31
      go_wp2_with fail
      refine (risnan_any a _ ha).mono ?_
      rintro x w1 ⟨rfl, q1⟩
      go_wp2_with fail
      refine (risnan_any b _ hb).mono ?_
      rintro x w2 ⟨rfl, q2⟩
      go_wp2_with fail
      refine (rkey_any a _ ha).mono ?_
      rintro x w3 ⟨rfl, rfl⟩
      go_wp2_with fail
      refine (rkey_any b _ hb).mono ?_
      rintro x w3 ⟨rfl, rfl⟩
      go_wp2_with fail
      go_ret
      exact ⟨ret_bool (by simp), q1.trans q2⟩
    · go_enter Try.func31, Try.ntmps31
      go_wp2_with fail
      refine (risnan_any a _ ha).mono ?_
      rintro x w1 ⟨rfl, q1⟩
      go_wp2_with fail
      refine (risnan_any b _ hb).mono ?_
      rintro x w2 ⟨rfl, q2⟩
      go_wp2_with fail
      go_ret
      exact ⟨ret_bool (by simp), q1.trans q2⟩
  · go_enter Try.func31, Try.ntmps31
    go_wp2_with fail
    refine (risnan_any a _ ha).mono ?_
    rintro x w1 ⟨rfl, q1⟩
    go_wp2_with fail
    go_ret
    exact ⟨ret_bool (by simp), q1⟩
def leastR (a b : Nat) : Nat := if keyR a < keyR b ∨ (keyR a = keyR b ∧ 2147483648 ≤ a) then a else b
def greatestR (a b : Nat) : Nat := if keyR b < keyR a ∨ (keyR a = keyR b ∧ a < 2147483648) then a else b
end Go.Proofs.Ytedafbbpcpebbaa

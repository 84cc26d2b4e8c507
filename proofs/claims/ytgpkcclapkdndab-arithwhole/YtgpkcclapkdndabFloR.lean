/- What the reference's whole, Floor, Nearest and FromInt return. -/
import Derived.Test.YtgpkcclapkdndabFormC
import Derived.Test.YtgpkcclapkdndabWholeL
import Derived.Test.YtgpkcclapkdndabLinkA
namespace Go.Proofs.Ytgpkcclapkdndab
open Go.RowKit

theorem ret_two {a b c d : Int} (h : a = b) (g : c = d) : Ending.returned (.tuple #[.int .i64 a, .int .i64 c]) = .returned (.tuple #[.int .i64 b, .int .i64 d]) := by rw [h, g]
/-- A number with a sign, if it is one of 64 bits. -/
abbrev inI (V : Int) : Prop := -9223372036854775808 ≤ V ∧ V < 9223372036854775808
/-- What is told of it: the number, and the error. -/
def wI (V : Int) : Int := if inI V then V else 0
def wE (V : Int) : Int := if inI V then 0 else 20
theorem blen_ge {n k : Nat} (h : k < blen n) : 2 ^ k ≤ n := by
  rcases Nat.lt_or_ge n (2 ^ k) with g | g
  · have := blen_le g; omega
  · exact g

set_option maxHeartbeats 1000000 in
theorem rwhole_pos (v : Value) (n : Nat) (w : World) (hv : NatAt w v n) :
    Calls Try.prog 48 #[.bool false, v] w fun e w' => e = .returned (.tuple #[.int .i64 (wI (n : Int)), .int .i64 (wE (n : Int))]) ∧ Q w w' := by
  by_cases h1 : 64 < blen n
  · have hz : (64 : Int) < (blen n : Int) := by omega
    have hn : ¬ inI (n : Int) := by have := blen_ge h1; unfold inI; omega
    unfold wI wE
    rw [if_neg hn, if_neg hn]
    clear hn
    go_enter Try.func48, Try.ntmps48
    go_wp2_with fail
    refine (bits_any _ n _ hv).mono ?_
    rintro e w1 ⟨rfl, rfl⟩
    go_wp2_with fail
    go_ret2
    exact ⟨rfl, Q.refl _⟩
  · have hz : decide ((64 : Int) < (blen n : Int)) = false := decide_eq_false (by omega)
    by_cases h2 : 63 < blen n
    · have hz2 : (63 : Int) < (blen n : Int) := by omega
      have hn : ¬ inI (n : Int) := by have := blen_ge h2; unfold inI; omega
      unfold wI wE
      rw [if_neg hn, if_neg hn]
      clear hn
      go_enter Try.func48, Try.ntmps48
      go_wp2_with fail
      refine (bits_any _ n _ hv).mono ?_
      rintro e w1 ⟨rfl, rfl⟩
      go_wp2_with fail
      refine (bits_any _ n _ hv).mono ?_
      rintro e w1 ⟨rfl, rfl⟩
      go_wp2_with fail
      go_ret2
      exact ⟨rfl, Q.refl _⟩
    · have hz2 : decide ((63 : Int) < (blen n : Int)) = false := decide_eq_false (by omega)
      have hlt : n < 2 ^ 63 := Nat.lt_of_lt_of_le (blen_lt n) (Nat.pow_le_pow_right (by decide) (by omega))
      have hn : inI (n : Int) := by unfold inI; omega
      unfold wI wE
      rw [if_pos hn, if_pos hn]
      have hlow : lowV n = n := Nat.mod_eq_of_lt (by omega)
      have hnb : n < 9223372036854775808 := hlt
      clear hn hlt
      go_enter Try.func48, Try.ntmps48
      go_wp2_with fail
      refine (bits_any _ n _ hv).mono ?_
      rintro e w1 ⟨rfl, rfl⟩
      go_wp2_with fail
      refine (bits_any _ n _ hv).mono ?_
      rintro e w1 ⟨rfl, rfl⟩
      go_wp2_with fail
      refine (low_any _ n _ hv).mono ?_
      rintro e w1 ⟨rfl, rfl⟩
      rw [hlow]
      go_wp2_with fail
      go_ret2
      exact ⟨rfl, Q.refl _⟩

set_option maxHeartbeats 1000000 in
theorem rwhole_neg (v : Value) (n : Nat) (w : World) (hv : NatAt w v n) :
    Calls Try.prog 48 #[.bool true, v] w fun e w' => e = .returned (.tuple #[.int .i64 (wI (-(n : Int))), .int .i64 (wE (-(n : Int)))]) ∧ Q w w' := by
  by_cases h1 : 64 < blen n
  · have hz : (64 : Int) < (blen n : Int) := by omega
    have hn : ¬ inI (-(n : Int)) := by have := blen_ge h1; unfold inI; omega
    unfold wI wE
    rw [if_neg hn, if_neg hn]
    clear hn
    go_enter Try.func48, Try.ntmps48
    go_wp2_with fail
    refine (bits_any _ n _ hv).mono ?_
    rintro e w1 ⟨rfl, rfl⟩
    go_wp2_with fail
    go_ret2
    exact ⟨rfl, Q.refl _⟩
  · have hz : decide ((64 : Int) < (blen n : Int)) = false := decide_eq_false (by omega)
    have hlt : n < 2 ^ 64 := Nat.lt_of_lt_of_le (blen_lt n) (Nat.pow_le_pow_right (by decide) (by omega))
    by_cases h2 : n ≤ 9223372036854775808
    · have hc : cmpV n 9223372036854775808 ≤ 0 := by unfold cmpV; split <;> (try split) <;> omega
      have hcb : decide (0 < cmpV n 9223372036854775808) = false := decide_eq_false (by omega)
      have hn : inI (-(n : Int)) := by unfold inI; omega
      unfold wI wE
      rw [if_pos hn, if_pos hn]
      have hlow : lowV n = n := Nat.mod_eq_of_lt (by omega)
      clear hn hlt
      go_enter Try.func48, Try.ntmps48
      go_wp2_with fail
      refine (bits_any _ n _ hv).mono ?_
      rintro e w1 ⟨rfl, rfl⟩
      go_wp2_with fail
      refine (natof_nat 9223372036854775808 _ (by decide)).mono ?_
      rintro e w1 ⟨v1, rfl, hv1, q1⟩
      go_wp2_with fail
      refine (compare_any _ _ n 9223372036854775808 _ (q1.nat hv) hv1).mono ?_
      rintro e w2 ⟨rfl, q2⟩
      go_wp2_with fail
      refine (low_any _ n _ ((q1.trans q2).nat hv)).mono ?_
      rintro e w3 ⟨rfl, rfl⟩
      rw [hlow]
      go_wp2_with fail
      go_ret2
      exact ⟨ret_two (by unfold wrap64; rw [IntKind.wrap_u64]; omega) rfl, q1.trans q2⟩
    · have hc : 0 < cmpV n 9223372036854775808 := by unfold cmpV; split <;> (try split) <;> omega
      have hn : ¬ inI (-(n : Int)) := by unfold inI; omega
      unfold wI wE
      rw [if_neg hn, if_neg hn]
      clear hn
      go_enter Try.func48, Try.ntmps48
      go_wp2_with fail
      refine (bits_any _ n _ hv).mono ?_
      rintro e w1 ⟨rfl, rfl⟩
      go_wp2_with fail
      refine (natof_nat 9223372036854775808 _ (by decide)).mono ?_
      rintro e w1 ⟨v1, rfl, hv1, q1⟩
      go_wp2_with fail
      refine (compare_any _ _ n 9223372036854775808 _ (q1.nat hv) hv1).mono ?_
      rintro e w2 ⟨rfl, q2⟩
      go_wp2_with fail
      go_ret2
      exact ⟨rfl, q1.trans q2⟩

theorem rwhole_any (s : Bool) (v : Value) (n : Nat) (w : World) (hv : NatAt w v n) :
    Calls Try.prog 48 #[.bool s, v] w fun e w' => e = .returned (.tuple #[.int .i64 (wI (Ieee.signed s n 0)), .int .i64 (wE (Ieee.signed s n 0))]) ∧ Q w w' := by
  cases s
  · rw [show Ieee.signed false n 0 = (n : Int) from by unfold Ieee.signed; rw [Nat.shiftLeft_zero]; rfl]
    exact rwhole_pos v n w hv
  · rw [show Ieee.signed true n 0 = -(n : Int) from by unfold Ieee.signed; rw [Nat.shiftLeft_zero]; rfl]
    exact rwhole_neg v n w hv

set_option maxHeartbeats 2000000 in
/-- Floor of what is not finite. -/
theorem rfloor_odd (a : Nat) (ha : a < 4294967296) (h : numOf Ieee.single a = .nan ∨ ∃ s, numOf Ieee.single a = .inf s) (w : World) :
    Calls Try.prog 11 #[.int .u32 a] w fun e w' => e = .returned (.tuple #[.int .i64 0, .int .i64 20]) ∧ Q w w' := by
  rcases h with hn | ⟨s, hn⟩
  all_goals
    have HN : Hid _ := hn
    clear hn
    go_enter Try.func11, Try.ntmps11
    go_wp2_with fail
    refine (num_any a _ ha).mono ?_
    rintro x w1 ⟨v1, rfl, hv1, q1⟩
    rw [HN.out] at hv1
  · obtain ⟨b, ee, m, rfl⟩ := hv1
    go_wp2_with fail
    go_ret2
    exact ⟨rfl, q1.cells _ _⟩
  · obtain ⟨ee, m, rfl⟩ := hv1
    go_wp2_with fail
    go_ret2
    exact ⟨rfl, q1.cells _ _⟩
set_option maxHeartbeats 4000000 in
/-- Floor of a finite sample. -/
theorem rfloor_fin (a n : Nat) (s : Bool) (e : Int) (ha : a < 4294967296) (hn : numOf Ieee.single a = .fin s n e false) (hb : n < 16777216) (e0 : -149 ≤ e) (e1 : e ≤ 104) (w : World) :
    Calls Try.prog 11 #[.int .u32 a] w fun x w' => x = .returned (.tuple #[.int .i64 (wI (Ieee.signed s (wholeN .down s n e) 0)), .int .i64 (wE (Ieee.signed s (wholeN .down s n e) 0))]) ∧ Q w w' := by
  have HN : Hid _ := hn
  clear hn
  by_cases he : 0 ≤ e
  · obtain ⟨k, rfl⟩ := Int.eq_ofNat_of_zero_le he
    have hw : wholeN .down s n (k : Int) = n * 2 ^ k := by
      unfold wholeN
      rw [show (-(k : Int)).toNat = 0 by omega, cut_0 (Or.inl rfl), Nat.shiftLeft_eq, show ((k : Int)).toNat = k by omega]
    rw [hw]
    have hcap : n * 2 ^ k < cap := lt_cap (k := 200) (by
      have := Nat.mul_lt_mul_of_pos_right (show n < 2 ^ 24 from hb) (Nat.two_pow_pos k)
      rw [← Nat.pow_add] at this
      exact Nat.lt_of_lt_of_le this (Nat.pow_le_pow_right (by decide) (by omega))) (by decide)
    have HC : Hid _ := hcap
    clear hcap hw
    go_enter Try.func11, Try.ntmps11
    go_wp2_with fail
    refine (num_any a _ ha).mono ?_
    rintro x w1 ⟨v1, rfl, hv1, q1⟩
    rw [HN.out] at hv1
    obtain ⟨nv, rfl, p, bb, L, C, rfl, hI⟩ := hv1
    have HI : Hid _ := hI
    clear hI
    go_wp2_with fail
    go_region_held3 (fun w' => w'.cell? ⟨w1.heap.size, 1, none⟩ = some (.bool s) ∧ w'.cell? ⟨w1.heap.size, 2, none⟩ = some (.slice p L C) ∧ w'.cell? ⟨w1.heap.size, 3, none⟩ = some (.int .i64 k)) (first | (simp [go_sem]; done) | (refine ⟨?_, ?_, ?_⟩ <;> assumption)) (first | (go_at_call 49; refine (up_any _ n k _ ⟨p, bb, L, C, rfl, (((Q.refl w1).cells _ _).drew).natIs HI.out⟩ HC.out).mono ?_; rintro x w2 ⟨v2, rfl, h2, q2⟩; have H2 : Hid (NatAt w2 v2 (n * 2 ^ k)) := h2; have d1 : w2.cell? ⟨w1.heap.size, 1, none⟩ = some (.bool s) := q2.cell (by simp [go_sem]); have d2 : w2.cell? ⟨w1.heap.size, 2, none⟩ = some (.slice p L C) := q2.cell (by simp [go_sem]); have d3 : w2.cell? ⟨w1.heap.size, 3, none⟩ = some (.int .i64 k) := q2.cell (by simp [go_sem]); clear h2) | (go_at_call 48; refine (rwhole_any s v2 (n * 2 ^ k) _ H2.out).mono ?_; rintro x w3 ⟨rfl, q3⟩; have f1 := q3.cell d1; have f2 := q3.cell d2; have f3 := q3.cell d3))
    all_goals
      go_wp2_with fail
      go_ret2
      exact ⟨rfl, (((q1.cells _ _).drew).trans q2).trans q3⟩
  · obtain ⟨d, hd⟩ : ∃ d : Nat, e = -(d : Int) := ⟨(-e).toNat, by omega⟩
    subst hd
    have hd1 : 1 ≤ d := by omega
    have hd2 : d ≤ 149 := by omega
    have hw : wholeN .down s n (-(d : Int)) = n / 2 ^ d + (s && decide (n % 2 ^ d ≠ 0)).toNat := by
      unfold wholeN
      rw [show (-(d : Int)).toNat = 0 by omega, Nat.shiftLeft_zero, show (- -(d : Int)).toNat = d by omega, cut_down]
    have hr : restB n d = decide (n % 2 ^ d ≠ 0) := by unfold restB; by_cases h : n % 2 ^ d = 0 <;> simp [h]
    rw [hw, ← hr]
    clear hw hr
    cases hr : restB n d
    · rw [Bool.and_false, Bool.toNat_false, Nat.add_zero]
      go_enter Try.func11, Try.ntmps11
      go_wp2_with fail
      refine (num_any a _ ha).mono ?_
      rintro x w1 ⟨v1, rfl, hv1, q1⟩
      rw [HN.out] at hv1
      obtain ⟨nv, rfl, p, bb, L, C, rfl, hI⟩ := hv1
      have HI : Hid _ := hI
      clear hI
      go_wp2_with fail
      refine (down_any _ n d _ ⟨p, bb, L, C, rfl, ((Q.refl w1).cells _ _).natIs HI.out⟩ (by omega)).mono ?_
      rintro x w2 ⟨v2, rfl, h2, q2⟩
      have H2 : Hid (NatAt w2 v2 (n / 2 ^ d)) := h2
      have c1 : w2.cell? ⟨w1.heap.size, 1, none⟩ = some (.bool s) := q2.cell (by simp [go_sem])
      have Q2 : Hid (Q w w2) := (q1.cells _ _).trans q2
      clear h2 q2 q1
      rw [hr]
      go_wp2_with fail
      refine (rwhole_any s v2 (n / 2 ^ d) _ H2.out).mono ?_
      rintro x w9 ⟨rfl, q9⟩
      go_wp2_with fail
      go_ret2
      exact ⟨rfl, Q2.out.trans q9⟩
    · rw [Bool.and_true]
      cases s
      · rw [Bool.toNat_false, Nat.add_zero]
        go_enter Try.func11, Try.ntmps11
        go_wp2_with fail
        refine (num_any a _ ha).mono ?_
        rintro x w1 ⟨v1, rfl, hv1, q1⟩
        rw [HN.out] at hv1
        obtain ⟨nv, rfl, p, bb, L, C, rfl, hI⟩ := hv1
        have HI : Hid _ := hI
        clear hI
        go_wp2_with fail
        refine (down_any _ n d _ ⟨p, bb, L, C, rfl, ((Q.refl w1).cells _ _).natIs HI.out⟩ (by omega)).mono ?_
        rintro x w2 ⟨v2, rfl, h2, q2⟩
        have H2 : Hid (NatAt w2 v2 (n / 2 ^ d)) := h2
        have c1 : w2.cell? ⟨w1.heap.size, 1, none⟩ = some (.bool false) := q2.cell (by simp [go_sem])
        have Q2 : Hid (Q w w2) := (q1.cells _ _).trans q2
        clear h2 q2 q1
        rw [hr]
        go_wp2_with fail
        refine (rwhole_any false v2 (n / 2 ^ d) _ H2.out).mono ?_
        rintro x w9 ⟨rfl, q9⟩
        go_wp2_with fail
        go_ret2
        exact ⟨rfl, Q2.out.trans q9⟩
      · rw [Bool.toNat_true]
        go_enter Try.func11, Try.ntmps11
        go_wp2_with fail
        refine (num_any a _ ha).mono ?_
        rintro x w1 ⟨v1, rfl, hv1, q1⟩
        rw [HN.out] at hv1
        obtain ⟨nv, rfl, p, bb, L, C, rfl, hI⟩ := hv1
        have HI : Hid _ := hI
        clear hI
        go_wp2_with fail
        refine (down_any _ n d _ ⟨p, bb, L, C, rfl, ((Q.refl w1).cells _ _).natIs HI.out⟩ (by omega)).mono ?_
        rintro x w2 ⟨v2, rfl, h2, q2⟩
        have H2 : Hid (NatAt w2 v2 (n / 2 ^ d)) := h2
        have c1 : w2.cell? ⟨w1.heap.size, 1, none⟩ = some (.bool true) := q2.cell (by simp [go_sem])
        have Q2 : Hid (Q w w2) := (q1.cells _ _).trans q2
        clear h2 q2 q1
        rw [hr]
        go_wp2_with fail
        refine (natof_nat 1 _ (by decide)).mono ?_
        rintro x w3 ⟨v3, rfl, h3, q3⟩
        have H3 : Hid (NatAt w3 v3 1) := h3
        have Q3 : Hid (Q w2 w3) := q3
        have c1 := q3.cell c1
        clear h3 q3
        go_wp2_with fail
        refine (plus_any _ _ (n / 2 ^ d) 1 _ (Q3.out.nat H2.out) H3.out (lt_cap (k := 25) (by have := Nat.div_le_self n (2 ^ d); omega) (by decide))).mono ?_
        rintro x w4 ⟨v4, rfl, h4, q4⟩
        have H4 : Hid (NatAt w4 v4 (n / 2 ^ d + 1)) := h4
        have c1 := q4.cell c1
        have Q4 : Hid (Q w w4) := (Q2.out.trans Q3.out).trans q4
        clear h4 q4
        go_wp2_with fail
        refine (rwhole_any true v4 (n / 2 ^ d + 1) _ H4.out).mono ?_
        rintro x w9 ⟨rfl, q9⟩
        go_wp2_with fail
        go_ret2
        exact ⟨rfl, Q4.out.trans q9⟩
end Go.Proofs.Ytgpkcclapkdndab

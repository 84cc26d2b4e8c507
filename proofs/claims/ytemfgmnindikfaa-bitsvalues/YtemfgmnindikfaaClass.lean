/- What the functions of package bits, and the document's own, return of a sample's class and of its parts; what was in memory stays as it was. -/
import Derived.Test.YtemfgmnindikfaaRows
import Derived.Test.YtemfgmnindikfaaMath
import Derived.WalkKit
import Derived.WalkSpells
import Derived.WalkLawsBesides
namespace Go.Proofs.Ytemfgmnindikfaa
open Go.RowKit

theorem exp_bits {s : Int} (h0 : 0 ≤ s) (h1 : s ≤ 4294967295) : bits .and .u32 (s / 8388608) 255 = expV s := and_255 _ (by omega) (by omega)
theorem frac_bits {s : Int} (h0 : 0 ≤ s) (h1 : s ≤ 4294967295) : bits .and .u32 s 8388607 = fracV s := and_frac _ h0 h1

set_option maxHeartbeats 400000 in
theorem makeup_any (s : Int) (h0 : 0 ≤ s) (h1 : s ≤ 4294967295) (w : World) :
    Calls Try.prog 42 #[.int .u32 s] w fun e w' => e = .returned (.agg #[.bool (negB s), .int .u32 (expV s), .int .u32 (fracV s)]) ∧ Q w w' := by
  have e1 := neg_bit h0 h1
  have e2 := exp_bits h0 h1
  have e3 := frac_bits h0 h1
  go_enter Try.func42, Try.ntmps42
  go_wp2
  exact bodyPost_ret (v := .agg #[.bool (negB s), .int .u32 (expV s), .int .u32 (fracV s)]) (by simp [results, Try.results42, go_sem]) rfl ⟨rfl, (Q.refl w).cells _ _⟩

theorem classV_1 {s : Int} (h : expV s = 255) (g : ¬ fracV s = 0) : classV s = 1 := by unfold classV; rw [if_pos h, if_neg g]
theorem classV_2 {s : Int} (h : expV s = 255) (g : fracV s = 0) : classV s = 2 := by unfold classV; rw [if_pos h, if_pos g]
theorem classV_3 {s : Int} (h : ¬ expV s = 255) (g : ¬ expV s = 0) : classV s = 3 := by unfold classV; rw [if_neg h, if_neg g]
theorem classV_4 {s : Int} (h : expV s = 0) (g : ¬ fracV s = 0) : classV s = 4 := by unfold classV; rw [if_neg (by omega), if_pos h, if_neg g]
theorem classV_5 {s : Int} (h : expV s = 0) (g : fracV s = 0) : classV s = 5 := by unfold classV; rw [if_neg (by omega), if_pos h, if_pos g]
theorem classV_bd (s : Int) : 1 ≤ classV s ∧ classV s ≤ 5 := by unfold classV; repeat' split <;> omega

set_option maxHeartbeats 400000 in
theorem class_any (s : Int) (h0 : 0 ≤ s) (h1 : s ≤ 4294967295) (w : World) :
    Calls Try.prog 14 #[.int .u32 s] w fun e w' => e = .returned (.int .i64 (classV s)) ∧ Q w w' := by
  obtain ⟨x0, x1⟩ := expV_bd s
  obtain ⟨f0, f1⟩ := fracV_bd s
  go_enter Try.func14, Try.ntmps14
  go_wp2_with fail
  refine (makeup_any s h0 h1 _).mono ?_
  rintro e w1 ⟨rfl, q1⟩
  go_wp2_with fail
  all_goals
    go_ret
    exact ⟨ret_int (by first | exact (classV_1 (by assumption) (by assumption)).symm | exact (classV_2 (by assumption) (by assumption)).symm | exact (classV_3 (by assumption) (by assumption)).symm | exact (classV_4 (by assumption) (by assumption)).symm | exact (classV_5 (by assumption) (by assumption)).symm), q1.cells _ _⟩

def nanB (s : Int) : Bool := classV s == 1
set_option maxHeartbeats 400000 in
theorem isnan_any (s : Int) (h0 : 0 ≤ s) (h1 : s ≤ 4294967295) (w : World) :
    Calls Try.prog 16 #[.int .u32 s] w fun e w' => e = .returned (.bool (nanB s)) ∧ Q w w' := by
  go_enter Try.func16, Try.ntmps16
  go_wp2_with fail
  refine (class_any s h0 h1 _).mono ?_
  rintro e w1 ⟨rfl, q1⟩
  go_wp2_with fail
  go_ret
  exact ⟨rfl, q1⟩

def madeV (s : Int) : Int := if nanB s = true then 2143289344 else s
theorem madeV_bd {s : Int} (h0 : 0 ≤ s) (h1 : s ≤ 4294967295) : 0 ≤ madeV s ∧ madeV s ≤ 4294967295 := by unfold madeV; split <;> omega
set_option maxHeartbeats 400000 in
theorem made_any (s : Int) (h0 : 0 ≤ s) (h1 : s ≤ 4294967295) (w : World) :
    Calls Try.prog 18 #[.int .u32 s] w fun e w' => e = .returned (.int .u32 (madeV s)) ∧ Q w w' := by
  cases h : nanB s
  all_goals
    go_enter Try.func18, Try.ntmps18
    go_wp2_with fail
    refine (isnan_any s h0 h1 _).mono ?_
    rintro e w1 ⟨rfl, q1⟩
    go_wp2_with fail
    go_ret
    exact ⟨ret_int (by simp [madeV, h]), q1⟩

set_option maxHeartbeats 400000 in
theorem fields_any (s : Int) (h0 : 0 ≤ s) (h1 : s ≤ 4294967295) (w : World) :
    Calls Try.prog 43 #[.int .u32 s] w fun e w' => e = .returned (.tuple #[.int .i64 (s / 2147483648), .int .i64 (expV s), .int .i64 (fracV s)]) ∧ w' = w := by
  go_enter Try.func43, Try.ntmps43
  go_wp2_with fail
  go_ret3
  exact ⟨rfl, rfl⟩

set_option maxHeartbeats 400000 in
theorem rclass_any (s : Int) (h0 : 0 ≤ s) (h1 : s ≤ 4294967295) (w : World) :
    Calls Try.prog 15 #[.int .u32 s] w fun e w' => e = .returned (.int .i64 (classV s)) ∧ w' = w := by
  obtain ⟨x0, x1⟩ := expV_bd s
  obtain ⟨f0, f1⟩ := fracV_bd s
  by_cases c1 : expV s = 255
  · have b1 : (expV s == 255) = true := beq_iff_eq.2 c1
    have b2 : (expV s != 0) = true := by rw [bne_iff_ne]; omega
    have b3 : (expV s == 0) = false := beq_eq_false_iff_ne.2 (by omega)
    have H := Hid.out (p := expV s = 255) c1
    clear c1
    have H1 : Hid (expV s = 255) := H
    clear H
    by_cases c2 : fracV s = 0
    · have b4 : (fracV s != 0) = false := by simp [c2]
      have H2 : Hid (fracV s = 0) := c2
      clear c2
      go_enter Try.func15, Try.ntmps15
      go_wp2_with fail
      refine (fields_any s h0 h1 _).mono ?_
      rintro e w1 ⟨rfl, rfl⟩
      go_wp2_with fail
      go_ret
      exact ⟨ret_int (classV_2 H1.out H2.out).symm, rfl⟩
    · have b4 : (fracV s != 0) = true := by simp [c2]
      go_enter Try.func15, Try.ntmps15
      go_wp2_with fail
      refine (fields_any s h0 h1 _).mono ?_
      rintro e w1 ⟨rfl, rfl⟩
      go_wp2_with fail
      go_ret
      exact ⟨ret_int (classV_1 H1.out c2).symm, rfl⟩
  · have b1 : (expV s == 255) = false := beq_eq_false_iff_ne.2 c1
    by_cases c2 : expV s = 0
    · have b2 : (expV s != 0) = false := by simp [c2]
      have H1 : Hid (expV s = 0) := c2
      clear c2
      by_cases c3 : fracV s = 0
      · have b4 : (fracV s != 0) = false := by simp [c3]
        have H2 : Hid (fracV s = 0) := c3
        clear c3
        go_enter Try.func15, Try.ntmps15
        go_wp2_with fail
        refine (fields_any s h0 h1 _).mono ?_
        rintro e w1 ⟨rfl, rfl⟩
        go_wp2_with fail
        go_ret
        exact ⟨ret_int (classV_5 H1.out H2.out).symm, rfl⟩
      · have b4 : (fracV s != 0) = true := by simp [c3]
        go_enter Try.func15, Try.ntmps15
        go_wp2_with fail
        refine (fields_any s h0 h1 _).mono ?_
        rintro e w1 ⟨rfl, rfl⟩
        go_wp2_with fail
        go_ret
        exact ⟨ret_int (classV_4 H1.out c3).symm, rfl⟩
    · have b2 : (expV s != 0) = true := by simp [c2]
      go_enter Try.func15, Try.ntmps15
      go_wp2_with fail
      refine (fields_any s h0 h1 _).mono ?_
      rintro e w1 ⟨rfl, rfl⟩
      go_wp2_with fail
      go_ret
      exact ⟨ret_int (classV_3 c1 c2).symm, rfl⟩

set_option maxHeartbeats 400000 in
theorem risnan_any (s : Int) (h0 : 0 ≤ s) (h1 : s ≤ 4294967295) (w : World) :
    Calls Try.prog 17 #[.int .u32 s] w fun e w' => e = .returned (.bool (nanB s)) ∧ w' = w := by
  go_enter Try.func17, Try.ntmps17
  go_wp2_with fail
  refine (rclass_any s h0 h1 _).mono ?_
  rintro e w1 ⟨rfl, rfl⟩
  go_wp2_with fail
  go_ret
  exact ⟨rfl, rfl⟩

set_option maxHeartbeats 400000 in
theorem rmade_any (s : Int) (h0 : 0 ≤ s) (h1 : s ≤ 4294967295) (w : World) :
    Calls Try.prog 19 #[.int .u32 s] w fun e w' => e = .returned (.int .u32 (madeV s)) ∧ w' = w := by
  cases h : nanB s
  all_goals
    go_enter Try.func19, Try.ntmps19
    go_wp2_with fail
    refine (risnan_any s h0 h1 _).mono ?_
    rintro e w1 ⟨rfl, rfl⟩
    go_wp2_with fail
    go_ret
    exact ⟨ret_int (by simp [madeV, h]), rfl⟩

/-- A sample's number, its power, and whether it has them. -/
def pAbs (s : Int) : Int := if expV s = 0 then fracV s else fracV s + 8388608
def pN (s : Int) : Int := if expV s = 255 then 0 else if negB s = true then -pAbs s else pAbs s
def pE (s : Int) : Int := if expV s = 255 then 0 else if expV s = 0 then -149 else expV s - 150
def pB (s : Int) : Bool := !decide (expV s = 255)
theorem ret_iib {a b c d : Int} {p q : Bool} (h : a = b) (g : c = d) (k : p = q) : Ending.returned (.tuple #[.int .i64 a, .int .i64 c, .bool p]) = .returned (.tuple #[.int .i64 b, .int .i64 d, .bool q]) := by rw [h, g, k]

set_option maxHeartbeats 400000 in
theorem parts_any (s : Int) (h0 : 0 ≤ s) (h1 : s ≤ 4294967295) (w : World) :
    Calls Try.prog 10 #[.int .u32 s] w fun e w' => e = .returned (.tuple #[.int .i64 (pN s), .int .i64 (pE s), .bool (pB s)]) ∧ Q w w' := by
  obtain ⟨x0, x1⟩ := expV_bd s
  obtain ⟨f0, f1⟩ := fracV_bd s
  by_cases c1 : expV s = 255
  · have b1 : (expV s == 255) = true := beq_iff_eq.2 c1
    have H : Hid (expV s = 255) := c1
    clear c1
    go_enter Try.func10, Try.ntmps10
    go_wp2_with fail
    refine (makeup_any s h0 h1 _).mono ?_
    rintro e w1 ⟨rfl, q1⟩
    go_wp2_with fail
    go_ret3
    exact ⟨ret_iib (by unfold pN; rw [if_pos H.out]) (by unfold pE; rw [if_pos H.out]) (by unfold pB; simp [H.out]), q1.cells _ _⟩
  · have b1 : (expV s == 255) = false := beq_eq_false_iff_ne.2 c1
    by_cases c2 : expV s = 0
    · have b2 : (expV s != 0) = false := by simp [c2]
      have H : Hid (expV s = 0) := c2
      clear c2
      cases hn : negB s
      all_goals
        go_enter Try.func10, Try.ntmps10
        go_wp2_with fail
        refine (makeup_any s h0 h1 _).mono ?_
        rintro e w1 ⟨rfl, q1⟩
        go_wp2_with fail
        go_ret3
        exact ⟨ret_iib (by simp [pN, pAbs, H.out, hn]) (by simp [pE, H.out]) (by simp [pB, c1]), q1.cells _ _⟩
    · have b2 : (expV s != 0) = true := by simp [c2]
      cases hn : negB s
      all_goals
        go_enter Try.func10, Try.ntmps10
        go_wp2_with fail
        refine (makeup_any s h0 h1 _).mono ?_
        rintro e w1 ⟨rfl, q1⟩
        go_wp2_with fail
        go_ret3
        exact ⟨ret_iib (by simp [pN, pAbs, c1, c2, hn]) (by simp only [pE]; rw [if_neg c1, if_neg c2]; omega) (by simp [pB, c1]), q1.cells _ _⟩

theorem top_sign {s : Int} (h0 : 0 ≤ s) (h1 : s ≤ 4294967295) : (s / 2147483648 == 1) = negB s := by
  unfold negB
  by_cases h : 2147483648 ≤ s
  · rw [decide_eq_true h, beq_iff_eq]; omega
  · rw [decide_eq_false h, beq_eq_false_iff_ne]; omega

set_option maxHeartbeats 400000 in
theorem rparts_any (s : Int) (h0 : 0 ≤ s) (h1 : s ≤ 4294967295) (w : World) :
    Calls Try.prog 11 #[.int .u32 s] w fun e w' => e = .returned (.tuple #[.int .i64 (pN s), .int .i64 (pE s), .bool (pB s)]) ∧ w' = w := by
  obtain ⟨x0, x1⟩ := expV_bd s
  obtain ⟨f0, f1⟩ := fracV_bd s
  have ts := top_sign h0 h1
  by_cases c1 : expV s = 255
  · have b1 : (expV s == 255) = true := beq_iff_eq.2 c1
    have H : Hid (expV s = 255) := c1
    clear c1
    go_enter Try.func11, Try.ntmps11
    go_wp2_with fail
    refine (fields_any s h0 h1 _).mono ?_
    rintro e w1 ⟨rfl, rfl⟩
    go_wp2_with fail
    go_ret3
    exact ⟨ret_iib (by unfold pN; rw [if_pos H.out]) (by unfold pE; rw [if_pos H.out]) (by unfold pB; simp [H.out]), rfl⟩
  · have b1 : (expV s == 255) = false := beq_eq_false_iff_ne.2 c1
    by_cases c2 : expV s = 0
    · have b2 : (expV s == 0) = true := by simp [c2]
      have H : Hid (expV s = 0) := c2
      clear c2
      cases hn : negB s
      all_goals
        go_enter Try.func11, Try.ntmps11
        go_wp2_with fail
        refine (fields_any s h0 h1 _).mono ?_
        rintro e w1 ⟨rfl, rfl⟩
        go_wp2_with fail
        go_ret3
        exact ⟨ret_iib (by simp [pN, pAbs, H.out, hn]) (by simp [pE, H.out]) (by simp [pB, c1]), rfl⟩
    · have b2 : (expV s == 0) = false := by simp [c2]
      cases hn : negB s
      all_goals
        go_enter Try.func11, Try.ntmps11
        go_wp2_with fail
        refine (fields_any s h0 h1 _).mono ?_
        rintro e w1 ⟨rfl, rfl⟩
        go_wp2_with fail
        go_ret3
        exact ⟨ret_iib (by simp [pN, pAbs, c1, c2, hn]) (by simp only [pE]; rw [if_neg c1, if_neg c2]) (by simp [pB, c1]), rfl⟩
end Go.Proofs.Ytemfgmnindikfaa

/- What the functions of package bits that package arith calls return: class, NaN, made, key, least, greatest; what was in memory stays as it was. -/
import Derived.Test.YtfolecnjaaakeaaDig
import Derived.Test.YtfolecnjaaakeaaNear
namespace Go.Proofs.Ytfolecnjaaakeaa
open Go.RowKit

theorem and_lo (s : Int) (h0 : 0 ≤ s) (h1 : s < 2147483648) : bits .and .u32 s 2147483648 = 0 := by go_bits2
theorem and_hi (s : Int) (h0 : 2147483648 ≤ s) (h1 : s ≤ 4294967295) : bits .and .u32 s 2147483648 = 2147483648 := by go_bits2
theorem or_lo (s : Int) (h0 : 0 ≤ s) (h1 : s < 2147483648) : bits .or .u32 s 2147483648 = s + 2147483648 := by go_bits2
theorem and_255 (s : Int) (h0 : 0 ≤ s) (h1 : s ≤ 4294967295) : bits .and .u32 s 255 = s % 256 := by go_bits2
theorem and_frac (s : Int) (h0 : 0 ≤ s) (h1 : s ≤ 4294967295) : bits .and .u32 s 8388607 = s % 8388608 := by go_bits2

/-- A sample's key. -/
def keyV (s : Int) : Int := if s < 2147483648 then s + 2147483648 else 4294967295 - s
theorem keyV_lo {s : Int} (h : s < 2147483648) : keyV s = s + 2147483648 := by unfold keyV; rw [if_pos h]
theorem keyV_hi {s : Int} (h : 2147483648 ≤ s) : keyV s = 4294967295 - s := by unfold keyV; rw [if_neg (by omega)]
/-- Whether a stands ahead of b. -/
def befB (a b : Int) : Bool := decide (keyV a < keyV b)
def leastV (a b : Int) : Int := if befB b a = true then b else a
def greatestV (a b : Int) : Int := if befB a b = true then b else a

/-- Exponent and fraction of a sample. -/
def expV (s : Int) : Int := s / 8388608 % 256
def fracV (s : Int) : Int := s % 8388608
def negB (s : Int) : Bool := decide (2147483648 ≤ s)
theorem expV_bd (s : Int) : 0 ≤ expV s ∧ expV s ≤ 255 := by unfold expV; omega
theorem fracV_bd (s : Int) : 0 ≤ fracV s ∧ fracV s ≤ 8388607 := by unfold fracV; omega
/-- The class by number: 1 NaN, 2 infinity, 3 normal, 4 small, 5 nought. -/
def classV (s : Int) : Int := if expV s = 255 then (if fracV s = 0 then 2 else 1) else if expV s = 0 then (if fracV s = 0 then 5 else 4) else 3
theorem neg_bit {s : Int} (h0 : 0 ≤ s) (h1 : s ≤ 4294967295) : (bits .and .u32 s 2147483648 != 0) = negB s := by
  unfold negB
  by_cases h : s < 2147483648
  · rw [and_lo s h0 h]; simp; omega
  · rw [and_hi s (by omega) h1]; simp; omega
theorem exp_bits {s : Int} (h0 : 0 ≤ s) (h1 : s ≤ 4294967295) : bits .and .u32 (s / 8388608) 255 = expV s := and_255 _ (by omega) (by omega)
theorem frac_bits {s : Int} (h0 : 0 ≤ s) (h1 : s ≤ 4294967295) : bits .and .u32 s 8388607 = fracV s := and_frac _ h0 h1
theorem classV_1 {s : Int} (h : expV s = 255) (g : ¬ fracV s = 0) : classV s = 1 := by unfold classV; rw [if_pos h, if_neg g]
theorem classV_2 {s : Int} (h : expV s = 255) (g : fracV s = 0) : classV s = 2 := by unfold classV; rw [if_pos h, if_pos g]
theorem classV_3 {s : Int} (h : ¬ expV s = 255) (g : ¬ expV s = 0) : classV s = 3 := by unfold classV; rw [if_neg h, if_neg g]
theorem classV_4 {s : Int} (h : expV s = 0) (g : ¬ fracV s = 0) : classV s = 4 := by unfold classV; rw [if_neg (by omega), if_pos h, if_neg g]
theorem classV_5 {s : Int} (h : expV s = 0) (g : fracV s = 0) : classV s = 5 := by unfold classV; rw [if_neg (by omega), if_pos h, if_pos g]

set_option maxHeartbeats 400000 in
theorem makeup_any (s : Int) (h0 : 0 ≤ s) (h1 : s ≤ 4294967295) (w : World) :
    Calls Try.prog 68 #[.int .u32 s] w fun e w' => e = .returned (.agg #[.bool (negB s), .int .u32 (expV s), .int .u32 (fracV s)]) ∧ Q w w' := by
  have e1 := neg_bit h0 h1
  have e2 := exp_bits h0 h1
  have e3 := frac_bits h0 h1
  go_enter Try.func68, Try.ntmps68
  go_wp2
  exact bodyPost_ret (v := .agg #[.bool (negB s), .int .u32 (expV s), .int .u32 (fracV s)]) (by simp [results, Try.results68, go_sem]) rfl ⟨rfl, (Q.refl w).cells _ _⟩

set_option maxHeartbeats 400000 in
theorem class_any (s : Int) (h0 : 0 ≤ s) (h1 : s ≤ 4294967295) (w : World) :
    Calls Try.prog 53 #[.int .u32 s] w fun e w' => e = .returned (.int .i64 (classV s)) ∧ Q w w' := by
  obtain ⟨x0, x1⟩ := expV_bd s
  obtain ⟨f0, f1⟩ := fracV_bd s
  go_enter Try.func53, Try.ntmps53
  go_wp2_with fail
  refine (makeup_any s h0 h1 _).mono ?_
  rintro e w1 ⟨rfl, q1⟩
  go_wp2_with fail
  all_goals
    go_ret
    exact ⟨ret_int (by first | exact (classV_1 (by assumption) (by assumption)).symm | exact (classV_2 (by assumption) (by assumption)).symm | exact (classV_3 (by assumption) (by assumption)).symm | exact (classV_4 (by assumption) (by assumption)).symm | exact (classV_5 (by assumption) (by assumption)).symm), q1.cells _ _⟩

theorem class_nan (a : Nat) : (classV (a : Int) == 1) = nanN a := by
  unfold nanN classV expV fracV
  by_cases h1 : (a : Int) / 8388608 % 256 = 255
  · rw [if_pos h1]
    by_cases h2 : (a : Int) % 8388608 = 0
    · rw [if_pos h2, decide_eq_false (by omega)]; rfl
    · rw [if_neg h2, decide_eq_true (by omega)]; rfl
  · rw [if_neg h1, decide_eq_false (by omega)]
    split
    · split <;> rfl
    · rfl

set_option maxHeartbeats 400000 in
theorem isnan_any (a : Nat) (ha : a < 4294967296) (w : World) :
    Calls Try.prog 37 #[.int .u32 a] w fun e w' => e = .returned (.bool (nanN a)) ∧ Q w w' := by
  have e1 := class_nan a
  go_enter Try.func37, Try.ntmps37
  go_wp2_with fail
  refine (class_any a (by omega) (by omega) _).mono ?_
  rintro e w1 ⟨rfl, q1⟩
  go_wp2_with fail
  go_ret
  exact ⟨rfl, q1⟩

/-- A sample, or the made NaN. -/
def madeN (a : Nat) : Nat := if nanN a = true then 2143289344 else a
theorem madeN_lt {a : Nat} (h : a < 4294967296) : madeN a < 4294967296 := by unfold madeN; split <;> omega
theorem madeN_of {a : Nat} (h : nanN a = false) : madeN a = a := by unfold madeN; rw [h]; rfl
theorem madeN_nan {a : Nat} (h : nanN a = true) : madeN a = 2143289344 := by unfold madeN; rw [h]; rfl
set_option maxHeartbeats 400000 in
theorem made_any (a : Nat) (ha : a < 4294967296) (w : World) :
    Calls Try.prog 73 #[.int .u32 a] w fun e w' => e = .returned (.int .u32 (madeN a : Nat)) ∧ Q w w' := by
  cases h : nanN a
  · rw [madeN_of h]
    go_enter Try.func73, Try.ntmps73
    go_wp2_with fail
    refine (isnan_any a ha _).mono ?_
    rintro e w1 ⟨rfl, q1⟩
    go_wp2_with fail
    go_ret
    exact ⟨rfl, q1⟩
  · rw [madeN_nan h]
    go_enter Try.func73, Try.ntmps73
    go_wp2_with fail
    refine (isnan_any a ha _).mono ?_
    rintro e w1 ⟨rfl, q1⟩
    go_wp2_with fail
    go_ret
    exact ⟨rfl, q1⟩

set_option maxHeartbeats 400000 in
theorem key_any (s : Int) (h0 : 0 ≤ s) (h1 : s ≤ 4294967295) (w : World) :
    Calls Try.prog 63 #[.int .u32 s] w fun e w' => e = .returned (.int .u32 (keyV s)) ∧ w' = w := by
  by_cases h : s < 2147483648
  · have e1 := and_lo s h0 h
    have e2 := or_lo s h0 h
    go_enter Try.func63, Try.ntmps63
    go_wp2
    go_ret
    exact ⟨ret_int (keyV_lo h).symm, rfl⟩
  · have e1 := and_hi s (by omega) h1
    go_enter Try.func63, Try.ntmps63
    go_wp2
    go_ret
    exact ⟨ret_int (keyV_hi (by omega)).symm, rfl⟩

set_option maxHeartbeats 400000 in
theorem before_any (a b : Int) (a0 : 0 ≤ a) (a1 : a ≤ 4294967295) (b0 : 0 ≤ b) (b1 : b ≤ 4294967295) (w : World) :
    Calls Try.prog 66 #[.int .u32 a, .int .u32 b] w fun e w' => e = .returned (.bool (befB a b)) ∧ w' = w := by
  go_enter Try.func66, Try.ntmps66
  go_wp2_with fail
  refine (key_any a a0 a1 _).mono ?_
  rintro e w' ⟨rfl, rfl⟩
  go_wp2_with fail
  refine (key_any b b0 b1 _).mono ?_
  rintro e w' ⟨rfl, rfl⟩
  go_wp2_with fail
  go_ret
  exact ⟨rfl, rfl⟩

end Go.Proofs.Ytfolecnjaaakeaa

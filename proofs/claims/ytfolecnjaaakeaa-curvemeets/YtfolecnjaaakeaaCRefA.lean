/- The document's curves: what its small functions return. -/
import Derived.Test.YtfolecnjaaakeaaCurvR
namespace Go.Proofs.Ytfolecnjaaakeaa
open Go.RowKit

theorem and_31 (s : Int) (h0 : 0 ≤ s) (h1 : s ≤ 4294967295) : bits .and .u32 s 2147483647 = s % 2147483648 := by go_bits2
set_option maxHeartbeats 400000 in
theorem rnan_any (a : Nat) (ha : a < 4294967296) (w : World) : Calls Try.prog 43 #[.int .u32 a] w fun e w' => e = .returned (.bool (nanN a)) ∧ w' = w := by
  have e1 := and_31 a (by omega) (by omega)
  go_enter Try.func43, Try.ntmps43
  go_wp2
  go_ret
  refine ⟨ret_bool ?_, rfl⟩
  unfold nanN
  rw [decide_eq_decide]
  omega
set_option maxHeartbeats 400000 in
theorem rfinite_any (a : Nat) (ha : a < 4294967296) (w : World) : Calls Try.prog 50 #[.int .u32 a] w fun e w' => e = .returned (.bool (finN a)) ∧ w' = w := by
  have e1 := exp_bits (s := (a : Int)) (by omega) (by omega)
  have e2 : (expV (a : Int) != 255) = finN a := by
    unfold expV finN rung32
    by_cases h : (a : Int) / 8388608 % 256 = 255
    · rw [h, decide_eq_false (by omega)]; rfl
    · rw [bne_iff_ne.2 h, decide_eq_true (by omega)]
  go_enter Try.func50, Try.ntmps50
  go_wp2
  go_ret
  exact ⟨rfl, rfl⟩
set_option maxHeartbeats 400000 in
theorem rkey_any (s : Nat) (hs : s < 4294967296) (w : World) : Calls Try.prog 34 #[.int .u32 s] w fun e w' => e = .returned (.int .i64 (keyN s : Nat)) ∧ w' = w := by
  by_cases h : s < 2147483648
  · have h' : (s : Int) < 2147483648 := by omega
    go_enter Try.func34, Try.ntmps34
    go_wp2
    go_ret
    exact ⟨ret_int (by unfold keyN; rw [if_pos h]; omega), rfl⟩
  · have h' : ¬ (s : Int) < 2147483648 := by omega
    go_enter Try.func34, Try.ntmps34
    go_wp2
    go_ret
    exact ⟨ret_int (by unfold keyN; rw [if_neg h]; omega), rfl⟩
/-- The key, both noughts at one. -/
def plK (s : Nat) : Nat := if s = 2147483648 then 2147483648 else keyN s
set_option maxHeartbeats 400000 in
theorem rplace_any (s : Nat) (hs : s < 4294967296) (w : World) : Calls Try.prog 49 #[.int .u32 s] w fun e w' => e = .returned (.int .i64 (plK s : Nat)) ∧ w' = w := by
  by_cases h : s = 2147483648
  · subst h
    have K : Calls Try.prog 34 #[.int .u32 0] w fun e w' => e = .returned (.int .i64 2147483648) ∧ w' = w := rkey_any 0 (by decide) w
    go_enter Try.func49, Try.ntmps49
    go_wp2_with fail
    refine Calls.mono K ?_
    rintro e w1 ⟨rfl, rfl⟩
    go_wp2_with fail
    go_ret
    exact ⟨rfl, rfl⟩
  · have h' : ((s : Int) == 2147483648) = false := by simp; omega
    go_enter Try.func49, Try.ntmps49
    go_wp2_with fail
    refine (rkey_any s hs _).mono ?_
    rintro e w1 ⟨rfl, rfl⟩
    go_wp2_with fail
    go_ret
    exact ⟨ret_int (by unfold plK; rw [if_neg h]), rfl⟩
theorem plK_lt {a b : Nat} (ha : a < 4294967296) (hb : b < 4294967296) : plK a < plK b ↔ srung32 a < srung32 b := by
  have e : ∀ s, s < 4294967296 → (plK s : Int) = if srung32 s < 0 then 2147483647 + srung32 s else 2147483648 + srung32 s := by
    intro s hs
    unfold plK keyN srung32 sgn32 rung32
    by_cases g : s < 2147483648
    · rw [show (s / 2147483648 % 2 == 1) = false by rw [beq_eq_false_iff_ne]; omega, if_neg (by omega), if_pos g]
      simp; split <;> omega
    · rw [show (s / 2147483648 % 2 == 1) = true by rw [beq_iff_eq]; omega]
      by_cases z : s = 2147483648
      · subst z; rfl
      · rw [if_neg z, if_neg g]
        simp; split <;> omega
  have e1 := e a ha
  have e2 := e b hb
  split at e1 <;> split at e2 <;> omega
theorem plK_eq {a b : Nat} (ha : a < 4294967296) (hb : b < 4294967296) : plK a = plK b ↔ srung32 a = srung32 b := by
  have h1 := plK_lt ha hb
  have h2 := plK_lt hb ha
  omega
theorem lessB_nan1 {a b : Nat} (h : nanN a = true) : lessB a b = false := by unfold lessB; rw [order_nan1 _ (read32_nan h)]; rfl
theorem lessB_nan2 {a b : Nat} (h : nanN b = true) : lessB a b = false := by unfold lessB; rw [order_nan2 _ (read32_nan h)]; rfl
theorem equalB_nan1 {a b : Nat} (h : nanN a = true) : equalB a b = false := by unfold equalB; rw [order_nan1 _ (read32_nan h)]; rfl
theorem equalB_nan2 {a b : Nat} (h : nanN b = true) : equalB a b = false := by unfold equalB; rw [order_nan2 _ (read32_nan h)]; rfl
set_option maxHeartbeats 1000000 in
theorem rbelow_any (a b : Nat) (ha : a < 4294967296) (hb : b < 4294967296) (w : World) : Calls Try.prog 44 #[.int .u32 a, .int .u32 b] w fun e w' => e = .returned (.bool (lessB a b)) ∧ w' = w := by
  cases h1 : nanN a
  · cases h2 : nanN b
    · have e1 : Hid (decide (plK a < plK b) = lessB a b) := by
        show decide (plK a < plK b) = lessB a b
        rw [lessB_num h1 h2, decide_eq_decide]; exact plK_lt ha hb
      go_enter Try.func44, Try.ntmps44
      go_wp2_with fail
      refine (rnan_any a ha _).mono ?_
      rintro e w1 ⟨rfl, rfl⟩
      go_wp2_with fail
      refine (rnan_any b hb _).mono ?_
      rintro e w1 ⟨rfl, rfl⟩
      go_wp2_with fail
      refine (rplace_any a ha _).mono ?_
      rintro e w1 ⟨rfl, rfl⟩
      go_wp2_with fail
      refine (rplace_any b hb _).mono ?_
      rintro e w1 ⟨rfl, rfl⟩
      go_wp2_with fail
      go_ret
      exact ⟨ret_bool e1.out, rfl⟩
    · rw [lessB_nan2 h2]
      go_enter Try.func44, Try.ntmps44
      go_wp2_with fail
      refine (rnan_any a ha _).mono ?_
      rintro e w1 ⟨rfl, rfl⟩
      go_wp2_with fail
      refine (rnan_any b hb _).mono ?_
      rintro e w1 ⟨rfl, rfl⟩
      go_wp2_with fail
      go_ret
      exact ⟨rfl, rfl⟩
  · rw [lessB_nan1 h1]
    go_enter Try.func44, Try.ntmps44
    go_wp2_with fail
    refine (rnan_any a ha _).mono ?_
    rintro e w1 ⟨rfl, rfl⟩
    go_wp2_with fail
    go_ret
    exact ⟨rfl, rfl⟩
set_option maxHeartbeats 1000000 in
theorem rsame_any (a b : Nat) (ha : a < 4294967296) (hb : b < 4294967296) (w : World) : Calls Try.prog 20 #[.int .u32 a, .int .u32 b] w fun e w' => e = .returned (.bool (equalB a b)) ∧ w' = w := by
  cases h1 : nanN a
  · cases h2 : nanN b
    · have e1 : Hid (((plK a : Int) == (plK b : Int)) = equalB a b) := by
        show ((plK a : Int) == (plK b : Int)) = equalB a b
        rw [equalB_num h1 h2, Bool.eq_iff_iff, beq_iff_eq, decide_eq_true_eq, ← plK_eq ha hb]; omega
      go_enter Try.func20, Try.ntmps20
      go_wp2_with fail
      refine (rnan_any a ha _).mono ?_
      rintro e w1 ⟨rfl, rfl⟩
      go_wp2_with fail
      refine (rnan_any b hb _).mono ?_
      rintro e w1 ⟨rfl, rfl⟩
      go_wp2_with fail
      refine (rplace_any a ha _).mono ?_
      rintro e w1 ⟨rfl, rfl⟩
      go_wp2_with fail
      refine (rplace_any b hb _).mono ?_
      rintro e w1 ⟨rfl, rfl⟩
      go_wp2_with fail
      go_ret
      exact ⟨ret_bool e1.out, rfl⟩
    · rw [equalB_nan2 h2]
      go_enter Try.func20, Try.ntmps20
      go_wp2_with fail
      refine (rnan_any a ha _).mono ?_
      rintro e w1 ⟨rfl, rfl⟩
      go_wp2_with fail
      refine (rnan_any b hb _).mono ?_
      rintro e w1 ⟨rfl, rfl⟩
      go_wp2_with fail
      go_ret
      exact ⟨rfl, rfl⟩
  · rw [equalB_nan1 h1]
    go_enter Try.func20, Try.ntmps20
    go_wp2_with fail
    refine (rnan_any a ha _).mono ?_
    rintro e w1 ⟨rfl, rfl⟩
    go_wp2_with fail
    go_ret
    exact ⟨rfl, rfl⟩
set_option maxHeartbeats 400000 in
theorem rvalue_any (a : Nat) (h : nanN a = false) (w : World) : Calls Try.prog 58 #[.int .u32 (a : Int)] w fun e w' => e = .returned (.float .f64 (wideN a)) ∧ w' = w := by
  have l1 := f32from
  have l2 := fun w => run_convert_float_float (P := Try.prog) w 65 85 .f32 .f64 a _ (by kernel_rfl) Try.underlying85 (wide_conv h)
  clear h
  go_enter Try.func58, Try.ntmps58
  go_wp2_with fail
  go_ret
  exact ⟨rfl, rfl⟩
end Go.Proofs.Ytfolecnjaaakeaa

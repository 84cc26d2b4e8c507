/- What the functions of package bits, and the document's own, return of keys and of samples chosen by key; nothing in memory changes. -/
import Derived.Test.YtemfgmnindikfaaRows
import Derived.Test.YtemfgmnindikfaaMath
import Derived.WalkKit
import Derived.WalkSpells
import Derived.WalkLawsBesides
namespace Go.Proofs.Ytemfgmnindikfaa
open Go.RowKit

set_option maxHeartbeats 400000 in
theorem key_any (s : Int) (h0 : 0 ≤ s) (h1 : s ≤ 4294967295) (w : World) :
    Calls Try.prog 24 #[.int .u32 s] w fun e w' => e = .returned (.int .u32 (keyV s)) ∧ w' = w := by
  by_cases h : s < 2147483648
  · have e1 := and_lo s h0 h
    have e2 := or_lo s h0 h
    go_enter Try.func24, Try.ntmps24
    go_wp2
    go_ret
    exact ⟨ret_int (keyV_lo h).symm, rfl⟩
  · have e1 := and_hi s (by omega) h1
    go_enter Try.func24, Try.ntmps24
    go_wp2
    go_ret
    exact ⟨ret_int (keyV_hi (by omega)).symm, rfl⟩

set_option maxHeartbeats 400000 in
theorem rkey_any (s : Int) (h0 : 0 ≤ s) (h1 : s ≤ 4294967295) (w : World) :
    Calls Try.prog 25 #[.int .u32 s] w fun e w' => e = .returned (.int .u32 (keyV s)) ∧ w' = w := by
  by_cases h : s < 2147483648
  · go_enter Try.func25, Try.ntmps25
    go_wp2
    go_ret
    exact ⟨ret_int (keyV_lo h).symm, rfl⟩
  · go_enter Try.func25, Try.ntmps25
    go_wp2
    go_ret
    exact ⟨ret_int (keyV_hi (by omega)).symm, rfl⟩

set_option maxHeartbeats 400000 in
theorem fkey_any (s : Int) (h0 : 0 ≤ s) (h1 : s ≤ 4294967295) (w : World) :
    Calls Try.prog 26 #[.int .u32 s] w fun e w' => e = .returned (.int .u32 (fkeyV s)) ∧ w' = w := by
  by_cases h : s < 2147483648
  · have e1 := and_lo s h0 h
    go_enter Try.func26, Try.ntmps26
    go_wp2
    go_ret
    exact ⟨ret_int (fkeyV_lo h).symm, rfl⟩
  · have e1 := and_hi s (by omega) h1
    have e2 := andNot_hi s (by omega) h1
    go_enter Try.func26, Try.ntmps26
    go_wp2
    go_ret
    exact ⟨ret_int (fkeyV_hi (by omega)).symm, rfl⟩

set_option maxHeartbeats 400000 in
theorem rfkey_any (s : Int) (h0 : 0 ≤ s) (h1 : s ≤ 4294967295) (w : World) :
    Calls Try.prog 27 #[.int .u32 s] w fun e w' => e = .returned (.int .u32 (fkeyV s)) ∧ w' = w := by
  by_cases h : s < 2147483648
  · go_enter Try.func27, Try.ntmps27
    go_wp2
    go_ret
    exact ⟨ret_int (fkeyV_lo h).symm, rfl⟩
  · go_enter Try.func27, Try.ntmps27
    go_wp2
    go_ret
    exact ⟨ret_int (fkeyV_hi (by omega)).symm, rfl⟩

set_option maxHeartbeats 400000 in
theorem apart_any (a b : Int) (a0 : 0 ≤ a) (a1 : a ≤ 4294967295) (b0 : 0 ≤ b) (b1 : b ≤ 4294967295) (w : World) :
    Calls Try.prog 28 #[.int .u32 a, .int .u32 b] w fun e w' => e = .returned (.int .i64 (keyV b - keyV a)) ∧ w' = w := by
  obtain ⟨ka0, ka1⟩ := keyV_bd a0 a1
  obtain ⟨kb0, kb1⟩ := keyV_bd b0 b1
  go_enter Try.func28, Try.ntmps28
  go_wp2_with fail
  refine (key_any b b0 b1 _).mono ?_
  rintro e w' ⟨rfl, rfl⟩
  go_wp2_with fail
  refine (key_any a a0 a1 _).mono ?_
  rintro e w' ⟨rfl, rfl⟩
  go_wp2_with fail
  go_ret
  exact ⟨rfl, rfl⟩

set_option maxHeartbeats 400000 in
theorem rapart_any (a b : Int) (a0 : 0 ≤ a) (a1 : a ≤ 4294967295) (b0 : 0 ≤ b) (b1 : b ≤ 4294967295) (w : World) :
    Calls Try.prog 29 #[.int .u32 a, .int .u32 b] w fun e w' => e = .returned (.int .i64 (keyV b - keyV a)) ∧ w' = w := by
  obtain ⟨ka0, ka1⟩ := keyV_bd a0 a1
  obtain ⟨kb0, kb1⟩ := keyV_bd b0 b1
  go_enter Try.func29, Try.ntmps29
  go_wp2_with fail
  refine (rkey_any b b0 b1 _).mono ?_
  rintro e w' ⟨rfl, rfl⟩
  go_wp2_with fail
  refine (rkey_any a a0 a1 _).mono ?_
  rintro e w' ⟨rfl, rfl⟩
  go_wp2_with fail
  go_ret
  exact ⟨rfl, rfl⟩

set_option maxHeartbeats 400000 in
theorem before_any (a b : Int) (a0 : 0 ≤ a) (a1 : a ≤ 4294967295) (b0 : 0 ≤ b) (b1 : b ≤ 4294967295) (w : World) :
    Calls Try.prog 30 #[.int .u32 a, .int .u32 b] w fun e w' => e = .returned (.bool (befB a b)) ∧ w' = w := by
  go_enter Try.func30, Try.ntmps30
  go_wp2_with fail
  refine (key_any a a0 a1 _).mono ?_
  rintro e w' ⟨rfl, rfl⟩
  go_wp2_with fail
  refine (key_any b b0 b1 _).mono ?_
  rintro e w' ⟨rfl, rfl⟩
  go_wp2_with fail
  go_ret
  exact ⟨rfl, rfl⟩

set_option maxHeartbeats 400000 in
theorem rbefore_any (a b : Int) (a0 : 0 ≤ a) (a1 : a ≤ 4294967295) (b0 : 0 ≤ b) (b1 : b ≤ 4294967295) (w : World) :
    Calls Try.prog 31 #[.int .u32 a, .int .u32 b] w fun e w' => e = .returned (.bool (befB a b)) ∧ w' = w := by
  go_enter Try.func31, Try.ntmps31
  go_wp2_with fail
  refine (rapart_any a b a0 a1 b0 b1 _).mono ?_
  rintro e w' ⟨rfl, rfl⟩
  go_wp2_with fail
  go_ret
  exact ⟨ret_bool (by unfold befB; rw [decide_eq_decide]), rfl⟩

set_option maxHeartbeats 400000 in
theorem least_any (a b : Int) (a0 : 0 ≤ a) (a1 : a ≤ 4294967295) (b0 : 0 ≤ b) (b1 : b ≤ 4294967295) (w : World) :
    Calls Try.prog 32 #[.int .u32 a, .int .u32 b] w fun e w' => e = .returned (.int .u32 (leastV a b)) ∧ w' = w := by
  cases h : befB b a
  all_goals
    go_enter Try.func32, Try.ntmps32
    go_wp2_with fail
    refine (before_any b a b0 b1 a0 a1 _).mono ?_
    rintro e w' ⟨rfl, rfl⟩
    go_wp2_with fail
    go_ret
    exact ⟨ret_int (by simp [leastV, h]), rfl⟩

set_option maxHeartbeats 400000 in
theorem rleast_any (a b : Int) (a0 : 0 ≤ a) (a1 : a ≤ 4294967295) (b0 : 0 ≤ b) (b1 : b ≤ 4294967295) (w : World) :
    Calls Try.prog 33 #[.int .u32 a, .int .u32 b] w fun e w' => e = .returned (.int .u32 (leastV a b)) ∧ w' = w := by
  cases h : befB b a
  all_goals
    go_enter Try.func33, Try.ntmps33
    go_wp2_with fail
    refine (rbefore_any b a b0 b1 a0 a1 _).mono ?_
    rintro e w' ⟨rfl, rfl⟩
    go_wp2_with fail
    go_ret
    exact ⟨ret_int (by simp [leastV, h]), rfl⟩

set_option maxHeartbeats 400000 in
theorem greatest_any (a b : Int) (a0 : 0 ≤ a) (a1 : a ≤ 4294967295) (b0 : 0 ≤ b) (b1 : b ≤ 4294967295) (w : World) :
    Calls Try.prog 34 #[.int .u32 a, .int .u32 b] w fun e w' => e = .returned (.int .u32 (greatestV a b)) ∧ w' = w := by
  cases h : befB a b
  all_goals
    go_enter Try.func34, Try.ntmps34
    go_wp2_with fail
    refine (before_any a b a0 a1 b0 b1 _).mono ?_
    rintro e w' ⟨rfl, rfl⟩
    go_wp2_with fail
    go_ret
    exact ⟨ret_int (by simp [greatestV, h]), rfl⟩

set_option maxHeartbeats 400000 in
theorem rgreatest_any (a b : Int) (a0 : 0 ≤ a) (a1 : a ≤ 4294967295) (b0 : 0 ≤ b) (b1 : b ≤ 4294967295) (w : World) :
    Calls Try.prog 35 #[.int .u32 a, .int .u32 b] w fun e w' => e = .returned (.int .u32 (greatestV a b)) ∧ w' = w := by
  cases h : befB a b
  all_goals
    go_enter Try.func35, Try.ntmps35
    go_wp2_with fail
    refine (rbefore_any a b a0 a1 b0 b1 _).mono ?_
    rintro e w' ⟨rfl, rfl⟩
    go_wp2_with fail
    go_ret
    exact ⟨ret_int (by simp [greatestV, h]), rfl⟩

set_option maxHeartbeats 400000 in
theorem next_any (s : Int) (h0 : 0 ≤ s) (h1 : s ≤ 4294967295) (w : World) :
    Calls Try.prog 20 #[.int .u32 s] w fun e w' => e = .returned (.tuple #[.int .u32 (nextV s), .bool (nextB s)]) ∧ w' = w := by
  obtain ⟨k0, k1⟩ := keyV_bd h0 h1
  by_cases h : keyV s = 4294967295
  · have e1 : (keyV s == 4294967295) = true := beq_iff_eq.2 h
    have H : Hid (keyV s = 4294967295) := h
    clear h
    go_enter Try.func20, Try.ntmps20
    go_wp2_with fail
    refine (key_any s h0 h1 _).mono ?_
    rintro e w' ⟨rfl, rfl⟩
    go_wp2_with fail
    go_ret2
    exact ⟨ret_ib (by unfold nextV; rw [if_pos H.out]) (by unfold nextB; simp [H.out]), rfl⟩
  · have e1 : (keyV s == 4294967295) = false := beq_eq_false_iff_ne.2 h
    go_enter Try.func20, Try.ntmps20
    go_wp2_with fail
    refine (key_any s h0 h1 _).mono ?_
    rintro e w' ⟨rfl, rfl⟩
    have e2 : keyV s + 1 ≤ 4294967295 := by omega
    go_wp2_with fail
    refine (fkey_any (keyV s + 1) (by omega) e2 _).mono ?_
    rintro e w' ⟨rfl, rfl⟩
    go_wp2_with fail
    go_ret2
    exact ⟨ret_ib (by unfold nextV; rw [if_neg h]) (by unfold nextB; simp [h]), rfl⟩

set_option maxHeartbeats 400000 in
theorem rnext_any (s : Int) (h0 : 0 ≤ s) (h1 : s ≤ 4294967295) (w : World) :
    Calls Try.prog 21 #[.int .u32 s] w fun e w' => e = .returned (.tuple #[.int .u32 (nextV s), .bool (nextB s)]) ∧ w' = w := by
  obtain ⟨k0, k1⟩ := keyV_bd h0 h1
  by_cases h : keyV s = 4294967295
  · have e1 : (keyV s == 4294967295) = true := beq_iff_eq.2 h
    have H : Hid (keyV s = 4294967295) := h
    clear h
    go_enter Try.func21, Try.ntmps21
    go_wp2_with fail
    refine (rkey_any s h0 h1 _).mono ?_
    rintro e w' ⟨rfl, rfl⟩
    go_wp2_with fail
    go_ret2
    exact ⟨ret_ib (by unfold nextV; rw [if_pos H.out]) (by unfold nextB; simp [H.out]), rfl⟩
  · have e1 : (keyV s == 4294967295) = false := beq_eq_false_iff_ne.2 h
    have e2 : keyV s + 1 ≤ 4294967295 := by omega
    go_enter Try.func21, Try.ntmps21
    go_wp2_with fail
    refine (rkey_any s h0 h1 _).mono ?_
    rintro e w' ⟨rfl, rfl⟩
    go_wp2_with fail
    refine (rfkey_any (keyV s + 1) (by omega) e2 _).mono ?_
    rintro e w' ⟨rfl, rfl⟩
    go_wp2_with fail
    go_ret2
    exact ⟨ret_ib (by unfold nextV; rw [if_neg h]) (by unfold nextB; simp [h]), rfl⟩

set_option maxHeartbeats 400000 in
theorem prev_any (s : Int) (h0 : 0 ≤ s) (h1 : s ≤ 4294967295) (w : World) :
    Calls Try.prog 22 #[.int .u32 s] w fun e w' => e = .returned (.tuple #[.int .u32 (prevV s), .bool (prevB s)]) ∧ w' = w := by
  obtain ⟨k0, k1⟩ := keyV_bd h0 h1
  by_cases h : keyV s = 0
  · have e1 : (keyV s == 0) = true := beq_iff_eq.2 h
    have H : Hid (keyV s = 0) := h
    clear h
    go_enter Try.func22, Try.ntmps22
    go_wp2_with fail
    refine (key_any s h0 h1 _).mono ?_
    rintro e w' ⟨rfl, rfl⟩
    go_wp2_with fail
    go_ret2
    exact ⟨ret_ib (by unfold prevV; rw [if_pos H.out]) (by unfold prevB; simp [H.out]), rfl⟩
  · have e1 : (keyV s == 0) = false := beq_eq_false_iff_ne.2 h
    have e2 : 0 ≤ keyV s - 1 := by omega
    go_enter Try.func22, Try.ntmps22
    go_wp2_with fail
    refine (key_any s h0 h1 _).mono ?_
    rintro e w' ⟨rfl, rfl⟩
    go_wp2_with fail
    refine (fkey_any (keyV s - 1) e2 (by omega) _).mono ?_
    rintro e w' ⟨rfl, rfl⟩
    go_wp2_with fail
    go_ret2
    exact ⟨ret_ib (by unfold prevV; rw [if_neg h]) (by unfold prevB; simp [h]), rfl⟩

set_option maxHeartbeats 400000 in
theorem rprev_any (s : Int) (h0 : 0 ≤ s) (h1 : s ≤ 4294967295) (w : World) :
    Calls Try.prog 23 #[.int .u32 s] w fun e w' => e = .returned (.tuple #[.int .u32 (prevV s), .bool (prevB s)]) ∧ w' = w := by
  obtain ⟨k0, k1⟩ := keyV_bd h0 h1
  by_cases h : keyV s = 0
  · have e1 : (keyV s == 0) = true := beq_iff_eq.2 h
    have H : Hid (keyV s = 0) := h
    clear h
    go_enter Try.func23, Try.ntmps23
    go_wp2_with fail
    refine (rkey_any s h0 h1 _).mono ?_
    rintro e w' ⟨rfl, rfl⟩
    go_wp2_with fail
    go_ret2
    exact ⟨ret_ib (by unfold prevV; rw [if_pos H.out]) (by unfold prevB; simp [H.out]), rfl⟩
  · have e1 : (keyV s == 0) = false := beq_eq_false_iff_ne.2 h
    have e2 : 0 ≤ keyV s - 1 := by omega
    go_enter Try.func23, Try.ntmps23
    go_wp2_with fail
    refine (rkey_any s h0 h1 _).mono ?_
    rintro e w' ⟨rfl, rfl⟩
    go_wp2_with fail
    refine (rfkey_any (keyV s - 1) e2 (by omega) _).mono ?_
    rintro e w' ⟨rfl, rfl⟩
    go_wp2_with fail
    go_ret2
    exact ⟨ret_ib (by unfold prevV; rw [if_neg h]) (by unfold prevB; simp [h]), rfl⟩

set_option maxHeartbeats 400000 in
theorem median_any (a b c : Int) (a0 : 0 ≤ a) (a1 : a ≤ 4294967295) (b0 : 0 ≤ b) (b1 : b ≤ 4294967295) (c0 : 0 ≤ c) (c1 : c ≤ 4294967295) (w : World) :
    Calls Try.prog 36 #[.int .u32 a, .int .u32 b, .int .u32 c] w fun e w' => e = .returned (.int .u32 (medianV a b c)) ∧ w' = w := by
  obtain ⟨l0, l1⟩ := leastV_bd a0 a1 b0 b1
  obtain ⟨g0, g1⟩ := greatestV_bd a0 a1 b0 b1
  obtain ⟨m0, m1⟩ := leastV_bd g0 g1 c0 c1
  go_enter Try.func36, Try.ntmps36
  go_wp2_with fail
  refine (least_any a b a0 a1 b0 b1 _).mono ?_
  rintro e w' ⟨rfl, rfl⟩
  go_wp2_with fail
  refine (greatest_any a b a0 a1 b0 b1 _).mono ?_
  rintro e w' ⟨rfl, rfl⟩
  go_wp2_with fail
  refine (least_any (greatestV a b) c g0 g1 c0 c1 _).mono ?_
  rintro e w' ⟨rfl, rfl⟩
  go_wp2_with fail
  refine (greatest_any (leastV a b) (leastV (greatestV a b) c) l0 l1 m0 m1 _).mono ?_
  rintro e w' ⟨rfl, rfl⟩
  go_wp2_with fail
  go_ret
  exact ⟨rfl, rfl⟩

set_option maxHeartbeats 400000 in
theorem between_any (a b c : Int) (a0 : 0 ≤ a) (a1 : a ≤ 4294967295) (b0 : 0 ≤ b) (b1 : b ≤ 4294967295) (c0 : 0 ≤ c) (c1 : c ≤ 4294967295) (w : World) :
    Calls Try.prog 38 #[.int .u32 a, .int .u32 b, .int .u32 c] w fun e w' => e = .returned (.int .u32 (betweenV a b c)) ∧ w' = w := by
  obtain ⟨g0, g1⟩ := greatestV_bd a0 a1 b0 b1
  go_enter Try.func38, Try.ntmps38
  go_wp2_with fail
  refine (greatest_any a b a0 a1 b0 b1 _).mono ?_
  rintro e w' ⟨rfl, rfl⟩
  go_wp2_with fail
  refine (least_any (greatestV a b) c g0 g1 c0 c1 _).mono ?_
  rintro e w' ⟨rfl, rfl⟩
  go_wp2_with fail
  go_ret
  exact ⟨rfl, rfl⟩

set_option maxHeartbeats 400000 in
theorem rbetween_any (a b c : Int) (a0 : 0 ≤ a) (a1 : a ≤ 4294967295) (b0 : 0 ≤ b) (b1 : b ≤ 4294967295) (c0 : 0 ≤ c) (c1 : c ≤ 4294967295) (w : World) :
    Calls Try.prog 39 #[.int .u32 a, .int .u32 b, .int .u32 c] w fun e w' => e = .returned (.int .u32 (betweenV a b c)) ∧ w' = w := by
  obtain ⟨g0, g1⟩ := greatestV_bd a0 a1 b0 b1
  go_enter Try.func39, Try.ntmps39
  go_wp2_with fail
  refine (rgreatest_any a b a0 a1 b0 b1 _).mono ?_
  rintro e w' ⟨rfl, rfl⟩
  go_wp2_with fail
  refine (rleast_any (greatestV a b) c g0 g1 c0 c1 _).mono ?_
  rintro e w' ⟨rfl, rfl⟩
  go_wp2_with fail
  go_ret
  exact ⟨rfl, rfl⟩

set_option maxHeartbeats 800000 in
theorem rmedian_any (a b c : Int) (a0 : 0 ≤ a) (a1 : a ≤ 4294967295) (b0 : 0 ≤ b) (b1 : b ≤ 4294967295) (c0 : 0 ≤ c) (c1 : c ≤ 4294967295) (w : World) :
    Calls Try.prog 37 #[.int .u32 a, .int .u32 b, .int .u32 c] w fun e w' => e = .returned (.int .u32 (rmedianV a b c)) ∧ w' = w := by
  cases h1 : befB b a
  · cases h2 : befB c b
    · cases h3 : befB b a
      · go_enter Try.func37, Try.ntmps37
        go_wp2_with fail
        refine (rbefore_any b a b0 b1 a0 a1 _).mono ?_
        rintro e w' ⟨rfl, rfl⟩
        go_wp2_with fail
        refine (rbefore_any c b c0 c1 b0 b1 _).mono ?_
        rintro e w' ⟨rfl, rfl⟩
        go_wp2_with fail
        refine (rbefore_any b a b0 b1 a0 a1 _).mono ?_
        rintro e w' ⟨rfl, rfl⟩
        go_wp2_with fail
        go_ret
        exact ⟨ret_int (by simp [rmedianV, h1, h2]), rfl⟩
      · rw [h1] at h3; cases h3
    · cases h3 : befB c a
      all_goals
        go_enter Try.func37, Try.ntmps37
        go_wp2_with fail
        refine (rbefore_any b a b0 b1 a0 a1 _).mono ?_
        rintro e w' ⟨rfl, rfl⟩
        go_wp2_with fail
        refine (rbefore_any c b c0 c1 b0 b1 _).mono ?_
        rintro e w' ⟨rfl, rfl⟩
        go_wp2_with fail
        refine (rbefore_any c a c0 c1 a0 a1 _).mono ?_
        rintro e w' ⟨rfl, rfl⟩
        go_wp2_with fail
        go_ret
        exact ⟨ret_int (by simp [rmedianV, h1, h2, h3]), rfl⟩
  · cases h2 : befB c a
    · cases h3 : befB a b
      all_goals
        go_enter Try.func37, Try.ntmps37
        go_wp2_with fail
        refine (rbefore_any b a b0 b1 a0 a1 _).mono ?_
        rintro e w' ⟨rfl, rfl⟩
        go_wp2_with fail
        refine (rbefore_any c a c0 c1 a0 a1 _).mono ?_
        rintro e w' ⟨rfl, rfl⟩
        go_wp2_with fail
        refine (rbefore_any a b a0 a1 b0 b1 _).mono ?_
        rintro e w' ⟨rfl, rfl⟩
        go_wp2_with fail
        go_ret
        exact ⟨ret_int (by simp [rmedianV, h1, h2, h3]), rfl⟩
    · cases h3 : befB c b
      all_goals
        go_enter Try.func37, Try.ntmps37
        go_wp2_with fail
        refine (rbefore_any b a b0 b1 a0 a1 _).mono ?_
        rintro e w' ⟨rfl, rfl⟩
        go_wp2_with fail
        refine (rbefore_any c a c0 c1 a0 a1 _).mono ?_
        rintro e w' ⟨rfl, rfl⟩
        go_wp2_with fail
        refine (rbefore_any c b c0 c1 b0 b1 _).mono ?_
        rintro e w' ⟨rfl, rfl⟩
        go_wp2_with fail
        go_ret
        exact ⟨ret_int (by simp [rmedianV, h1, h2, h3]), rfl⟩
end Go.Proofs.Ytemfgmnindikfaa

/- The document's Convert: over letters. -/
import Derived.Test.YtedafbbpcpebbaaG28256beb
import Derived.Test.YtedafbbpcpebbaaG8f630b88
import Derived.Test.YtedafbbpcpebbaaG77c0832e
namespace Go.Proofs.Ytedafbbpcpebbaa
open Go.RowKit
set_option linter.unusedVariables false
set_option linter.unusedSimpArgs false

set_option maxHeartbeats 2000000 in
theorem rconv_12 (a b c X Y Z U V W : Nat) (ht : ∀ w : World, Calls Try.prog 11 #[.int .u32 (a : Int), .int .u32 (b : Int), .int .u32 (c : Int)] w fun e w' => e = .returned (t3 U V W) ∧ Q w w') (w : World) : Calls Try.prog 23 #[.int .i64 1, .int .i64 2, .int .u32 (a : Int), .int .u32 (b : Int), .int .u32 (c : Int)] w fun e w' => e = .returned (t4 U V W 0) ∧ Q w w' := by
  have qq := Q.refl w
  go_enter Try.func23, Try.ntmps23
  go_wp2_with fail
  refine (ht _).mono ?_
  rintro e w' ⟨rfl, q⟩
  replace qq := qq.trans q
  clear q
  unfold t3
  go_wp2_with fail
  refine bodyPost_ret (v := t4 U V W 0) (by simp [results, Try.results23, go_sem, t4]) rfl ⟨rfl, qq⟩
set_option maxHeartbeats 2000000 in
theorem rconv_13 (a b c X Y Z U V W : Nat) (t0 : ∀ w : World, Calls Try.prog 15 #[.int .u32 (a : Int)] w fun e w' => e = .returned (.int .u32 (U : Nat)) ∧ Q w w') (t1 : ∀ w : World, Calls Try.prog 15 #[.int .u32 (b : Int)] w fun e w' => e = .returned (.int .u32 (V : Nat)) ∧ Q w w') (t2 : ∀ w : World, Calls Try.prog 15 #[.int .u32 (c : Int)] w fun e w' => e = .returned (.int .u32 (W : Nat)) ∧ Q w w') (w : World) : Calls Try.prog 23 #[.int .i64 1, .int .i64 3, .int .u32 (a : Int), .int .u32 (b : Int), .int .u32 (c : Int)] w fun e w' => e = .returned (t4 U V W 0) ∧ Q w w' := by
  have qq := Q.refl w
  go_enter Try.func23, Try.ntmps23
  go_wp2_with fail
  refine (t0 _).mono ?_
  rintro e w' ⟨rfl, q⟩
  replace qq := qq.trans q
  clear q
  go_wp2_with fail
  refine (t1 _).mono ?_
  rintro e w' ⟨rfl, q⟩
  replace qq := qq.trans q
  clear q
  go_wp2_with fail
  refine (t2 _).mono ?_
  rintro e w' ⟨rfl, q⟩
  replace qq := qq.trans q
  clear q
  go_wp2_with fail
  refine bodyPost_ret (v := t4 U V W 0) (by simp [results, Try.results23, go_sem, t4]) rfl ⟨rfl, qq⟩
set_option maxHeartbeats 2000000 in
theorem rconv_14 (a b c X Y Z U V W : Nat) (ht : ∀ w : World, Calls Try.prog 19 #[.int .u32 (a : Int), .int .u32 (b : Int), .int .u32 (c : Int)] w fun e w' => e = .returned (t3 U V W) ∧ Q w w') (w : World) : Calls Try.prog 23 #[.int .i64 1, .int .i64 4, .int .u32 (a : Int), .int .u32 (b : Int), .int .u32 (c : Int)] w fun e w' => e = .returned (t4 U V W 0) ∧ Q w w' := by
  have qq := Q.refl w
  go_enter Try.func23, Try.ntmps23
  go_wp2_with fail
  refine (ht _).mono ?_
  rintro e w' ⟨rfl, q⟩
  replace qq := qq.trans q
  clear q
  unfold t3
  go_wp2_with fail
  refine bodyPost_ret (v := t4 U V W 0) (by simp [results, Try.results23, go_sem, t4]) rfl ⟨rfl, qq⟩
set_option maxHeartbeats 2000000 in
theorem rconv_21 (a b c X Y Z U V W : Nat) (hs : ∀ w : World, Calls Try.prog 13 #[.int .u32 (a : Int), .int .u32 (b : Int), .int .u32 (c : Int)] w fun e w' => e = .returned (t3 X Y Z) ∧ Q w w') (w : World) : Calls Try.prog 23 #[.int .i64 2, .int .i64 1, .int .u32 (a : Int), .int .u32 (b : Int), .int .u32 (c : Int)] w fun e w' => e = .returned (t4 X Y Z 0) ∧ Q w w' := by
  have qq := Q.refl w
  go_enter Try.func23, Try.ntmps23
  go_wp2_with fail
  refine (hs _).mono ?_
  rintro e w' ⟨rfl, q⟩
  replace qq := qq.trans q
  clear q
  unfold t3
  go_wp2_with fail
  refine bodyPost_ret (v := t4 X Y Z 0) (by simp [results, Try.results23, go_sem, t4]) rfl ⟨rfl, qq⟩
set_option maxHeartbeats 2000000 in
theorem rconv_23 (a b c X Y Z U V W : Nat) (hs : ∀ w : World, Calls Try.prog 13 #[.int .u32 (a : Int), .int .u32 (b : Int), .int .u32 (c : Int)] w fun e w' => e = .returned (t3 X Y Z) ∧ Q w w') (t0 : ∀ w : World, Calls Try.prog 15 #[.int .u32 (X : Int)] w fun e w' => e = .returned (.int .u32 (U : Nat)) ∧ Q w w') (t1 : ∀ w : World, Calls Try.prog 15 #[.int .u32 (Y : Int)] w fun e w' => e = .returned (.int .u32 (V : Nat)) ∧ Q w w') (t2 : ∀ w : World, Calls Try.prog 15 #[.int .u32 (Z : Int)] w fun e w' => e = .returned (.int .u32 (W : Nat)) ∧ Q w w') (w : World) : Calls Try.prog 23 #[.int .i64 2, .int .i64 3, .int .u32 (a : Int), .int .u32 (b : Int), .int .u32 (c : Int)] w fun e w' => e = .returned (t4 U V W 0) ∧ Q w w' := by
  have qq := Q.refl w
  go_enter Try.func23, Try.ntmps23
  go_wp2_with fail
  refine (hs _).mono ?_
  rintro e w' ⟨rfl, q⟩
  replace qq := qq.trans q
  clear q
  unfold t3
  go_wp2_with fail
  refine (t0 _).mono ?_
  rintro e w' ⟨rfl, q⟩
  replace qq := qq.trans q
  clear q
  go_wp2_with fail
  refine (t1 _).mono ?_
  rintro e w' ⟨rfl, q⟩
  replace qq := qq.trans q
  clear q
  go_wp2_with fail
  refine (t2 _).mono ?_
  rintro e w' ⟨rfl, q⟩
  replace qq := qq.trans q
  clear q
  go_wp2_with fail
  refine bodyPost_ret (v := t4 U V W 0) (by simp [results, Try.results23, go_sem, t4]) rfl ⟨rfl, qq⟩
set_option maxHeartbeats 2000000 in
theorem rconv_24 (a b c X Y Z U V W : Nat) (hs : ∀ w : World, Calls Try.prog 13 #[.int .u32 (a : Int), .int .u32 (b : Int), .int .u32 (c : Int)] w fun e w' => e = .returned (t3 X Y Z) ∧ Q w w') (ht : ∀ w : World, Calls Try.prog 19 #[.int .u32 (X : Int), .int .u32 (Y : Int), .int .u32 (Z : Int)] w fun e w' => e = .returned (t3 U V W) ∧ Q w w') (w : World) : Calls Try.prog 23 #[.int .i64 2, .int .i64 4, .int .u32 (a : Int), .int .u32 (b : Int), .int .u32 (c : Int)] w fun e w' => e = .returned (t4 U V W 0) ∧ Q w w' := by
  have qq := Q.refl w
  go_enter Try.func23, Try.ntmps23
  go_wp2_with fail
  refine (hs _).mono ?_
  rintro e w' ⟨rfl, q⟩
  replace qq := qq.trans q
  clear q
  unfold t3
  go_wp2_with fail
  refine (ht _).mono ?_
  rintro e w' ⟨rfl, q⟩
  replace qq := qq.trans q
  clear q
  unfold t3
  go_wp2_with fail
  refine bodyPost_ret (v := t4 U V W 0) (by simp [results, Try.results23, go_sem, t4]) rfl ⟨rfl, qq⟩
set_option maxHeartbeats 2000000 in
theorem rconv_31 (a b c X Y Z U V W : Nat) (s0 : ∀ w : World, Calls Try.prog 17 #[.int .u32 (a : Int)] w fun e w' => e = .returned (.int .u32 (X : Nat)) ∧ Q w w') (s1 : ∀ w : World, Calls Try.prog 17 #[.int .u32 (b : Int)] w fun e w' => e = .returned (.int .u32 (Y : Nat)) ∧ Q w w') (s2 : ∀ w : World, Calls Try.prog 17 #[.int .u32 (c : Int)] w fun e w' => e = .returned (.int .u32 (Z : Nat)) ∧ Q w w') (w : World) : Calls Try.prog 23 #[.int .i64 3, .int .i64 1, .int .u32 (a : Int), .int .u32 (b : Int), .int .u32 (c : Int)] w fun e w' => e = .returned (t4 X Y Z 0) ∧ Q w w' := by
  have qq := Q.refl w
  go_enter Try.func23, Try.ntmps23
  go_wp2_with fail
  refine (s0 _).mono ?_
  rintro e w' ⟨rfl, q⟩
  replace qq := qq.trans q
  clear q
  go_wp2_with fail
  refine (s1 _).mono ?_
  rintro e w' ⟨rfl, q⟩
  replace qq := qq.trans q
  clear q
  go_wp2_with fail
  refine (s2 _).mono ?_
  rintro e w' ⟨rfl, q⟩
  replace qq := qq.trans q
  clear q
  go_wp2_with fail
  refine bodyPost_ret (v := t4 X Y Z 0) (by simp [results, Try.results23, go_sem, t4]) rfl ⟨rfl, qq⟩
set_option maxHeartbeats 2000000 in
theorem rconv_32 (a b c X Y Z U V W : Nat) (s0 : ∀ w : World, Calls Try.prog 17 #[.int .u32 (a : Int)] w fun e w' => e = .returned (.int .u32 (X : Nat)) ∧ Q w w') (s1 : ∀ w : World, Calls Try.prog 17 #[.int .u32 (b : Int)] w fun e w' => e = .returned (.int .u32 (Y : Nat)) ∧ Q w w') (s2 : ∀ w : World, Calls Try.prog 17 #[.int .u32 (c : Int)] w fun e w' => e = .returned (.int .u32 (Z : Nat)) ∧ Q w w') (ht : ∀ w : World, Calls Try.prog 11 #[.int .u32 (X : Int), .int .u32 (Y : Int), .int .u32 (Z : Int)] w fun e w' => e = .returned (t3 U V W) ∧ Q w w') (w : World) : Calls Try.prog 23 #[.int .i64 3, .int .i64 2, .int .u32 (a : Int), .int .u32 (b : Int), .int .u32 (c : Int)] w fun e w' => e = .returned (t4 U V W 0) ∧ Q w w' := by
  have qq := Q.refl w
  go_enter Try.func23, Try.ntmps23
  go_wp2_with fail
  refine (s0 _).mono ?_
  rintro e w' ⟨rfl, q⟩
  replace qq := qq.trans q
  clear q
  go_wp2_with fail
  refine (s1 _).mono ?_
  rintro e w' ⟨rfl, q⟩
  replace qq := qq.trans q
  clear q
  go_wp2_with fail
  refine (s2 _).mono ?_
  rintro e w' ⟨rfl, q⟩
  replace qq := qq.trans q
  clear q
  go_wp2_with fail
  refine (ht _).mono ?_
  rintro e w' ⟨rfl, q⟩
  replace qq := qq.trans q
  clear q
  unfold t3
  go_wp2_with fail
  refine bodyPost_ret (v := t4 U V W 0) (by simp [results, Try.results23, go_sem, t4]) rfl ⟨rfl, qq⟩
set_option maxHeartbeats 2000000 in
theorem rconv_34 (a b c X Y Z U V W : Nat) (s0 : ∀ w : World, Calls Try.prog 17 #[.int .u32 (a : Int)] w fun e w' => e = .returned (.int .u32 (X : Nat)) ∧ Q w w') (s1 : ∀ w : World, Calls Try.prog 17 #[.int .u32 (b : Int)] w fun e w' => e = .returned (.int .u32 (Y : Nat)) ∧ Q w w') (s2 : ∀ w : World, Calls Try.prog 17 #[.int .u32 (c : Int)] w fun e w' => e = .returned (.int .u32 (Z : Nat)) ∧ Q w w') (ht : ∀ w : World, Calls Try.prog 19 #[.int .u32 (X : Int), .int .u32 (Y : Int), .int .u32 (Z : Int)] w fun e w' => e = .returned (t3 U V W) ∧ Q w w') (w : World) : Calls Try.prog 23 #[.int .i64 3, .int .i64 4, .int .u32 (a : Int), .int .u32 (b : Int), .int .u32 (c : Int)] w fun e w' => e = .returned (t4 U V W 0) ∧ Q w w' := by
  have qq := Q.refl w
  go_enter Try.func23, Try.ntmps23
  go_wp2_with fail
  refine (s0 _).mono ?_
  rintro e w' ⟨rfl, q⟩
  replace qq := qq.trans q
  clear q
  go_wp2_with fail
  refine (s1 _).mono ?_
  rintro e w' ⟨rfl, q⟩
  replace qq := qq.trans q
  clear q
  go_wp2_with fail
  refine (s2 _).mono ?_
  rintro e w' ⟨rfl, q⟩
  replace qq := qq.trans q
  clear q
  go_wp2_with fail
  refine (ht _).mono ?_
  rintro e w' ⟨rfl, q⟩
  replace qq := qq.trans q
  clear q
  unfold t3
  go_wp2_with fail
  refine bodyPost_ret (v := t4 U V W 0) (by simp [results, Try.results23, go_sem, t4]) rfl ⟨rfl, qq⟩
set_option maxHeartbeats 2000000 in
theorem rconv_41 (a b c X Y Z U V W : Nat) (hs : ∀ w : World, Calls Try.prog 21 #[.int .u32 (a : Int), .int .u32 (b : Int), .int .u32 (c : Int)] w fun e w' => e = .returned (t3 X Y Z) ∧ Q w w') (w : World) : Calls Try.prog 23 #[.int .i64 4, .int .i64 1, .int .u32 (a : Int), .int .u32 (b : Int), .int .u32 (c : Int)] w fun e w' => e = .returned (t4 X Y Z 0) ∧ Q w w' := by
  have qq := Q.refl w
  go_enter Try.func23, Try.ntmps23
  go_wp2_with fail
  refine (hs _).mono ?_
  rintro e w' ⟨rfl, q⟩
  replace qq := qq.trans q
  clear q
  unfold t3
  go_wp2_with fail
  refine bodyPost_ret (v := t4 X Y Z 0) (by simp [results, Try.results23, go_sem, t4]) rfl ⟨rfl, qq⟩
set_option maxHeartbeats 2000000 in
theorem rconv_42 (a b c X Y Z U V W : Nat) (hs : ∀ w : World, Calls Try.prog 21 #[.int .u32 (a : Int), .int .u32 (b : Int), .int .u32 (c : Int)] w fun e w' => e = .returned (t3 X Y Z) ∧ Q w w') (ht : ∀ w : World, Calls Try.prog 11 #[.int .u32 (X : Int), .int .u32 (Y : Int), .int .u32 (Z : Int)] w fun e w' => e = .returned (t3 U V W) ∧ Q w w') (w : World) : Calls Try.prog 23 #[.int .i64 4, .int .i64 2, .int .u32 (a : Int), .int .u32 (b : Int), .int .u32 (c : Int)] w fun e w' => e = .returned (t4 U V W 0) ∧ Q w w' := by
  have qq := Q.refl w
  go_enter Try.func23, Try.ntmps23
  go_wp2_with fail
  refine (hs _).mono ?_
  rintro e w' ⟨rfl, q⟩
  replace qq := qq.trans q
  clear q
  unfold t3
  go_wp2_with fail
  refine (ht _).mono ?_
  rintro e w' ⟨rfl, q⟩
  replace qq := qq.trans q
  clear q
  unfold t3
  go_wp2_with fail
  refine bodyPost_ret (v := t4 U V W 0) (by simp [results, Try.results23, go_sem, t4]) rfl ⟨rfl, qq⟩
set_option maxHeartbeats 2000000 in
theorem rconv_43 (a b c X Y Z U V W : Nat) (hs : ∀ w : World, Calls Try.prog 21 #[.int .u32 (a : Int), .int .u32 (b : Int), .int .u32 (c : Int)] w fun e w' => e = .returned (t3 X Y Z) ∧ Q w w') (t0 : ∀ w : World, Calls Try.prog 15 #[.int .u32 (X : Int)] w fun e w' => e = .returned (.int .u32 (U : Nat)) ∧ Q w w') (t1 : ∀ w : World, Calls Try.prog 15 #[.int .u32 (Y : Int)] w fun e w' => e = .returned (.int .u32 (V : Nat)) ∧ Q w w') (t2 : ∀ w : World, Calls Try.prog 15 #[.int .u32 (Z : Int)] w fun e w' => e = .returned (.int .u32 (W : Nat)) ∧ Q w w') (w : World) : Calls Try.prog 23 #[.int .i64 4, .int .i64 3, .int .u32 (a : Int), .int .u32 (b : Int), .int .u32 (c : Int)] w fun e w' => e = .returned (t4 U V W 0) ∧ Q w w' := by
  have qq := Q.refl w
  go_enter Try.func23, Try.ntmps23
  go_wp2_with fail
  refine (hs _).mono ?_
  rintro e w' ⟨rfl, q⟩
  replace qq := qq.trans q
  clear q
  unfold t3
  go_wp2_with fail
  refine (t0 _).mono ?_
  rintro e w' ⟨rfl, q⟩
  replace qq := qq.trans q
  clear q
  go_wp2_with fail
  refine (t1 _).mono ?_
  rintro e w' ⟨rfl, q⟩
  replace qq := qq.trans q
  clear q
  go_wp2_with fail
  refine (t2 _).mono ?_
  rintro e w' ⟨rfl, q⟩
  replace qq := qq.trans q
  clear q
  go_wp2_with fail
  refine bodyPost_ret (v := t4 U V W 0) (by simp [results, Try.results23, go_sem, t4]) rfl ⟨rfl, qq⟩
set_option maxHeartbeats 2000000 in
theorem rconv_same (k : Int) (h0 : 0 ≤ k) (h1 : k ≤ 4) (a b c : Nat) (w : World) : Calls Try.prog 23 #[.int .i64 k, .int .i64 k, .int .u32 (a : Int), .int .u32 (b : Int), .int .u32 (c : Int)] w fun e w' => e = .returned (t4 a b c 0) ∧ Q w w' := by
  have qq := Q.refl w
  rcases (by omega : k = 0 ∨ k = 1 ∨ k = 2 ∨ k = 3 ∨ k = 4) with rfl | rfl | rfl | rfl | rfl
  all_goals
    go_enter Try.func23, Try.ntmps23
    go_wp2_with fail
    refine bodyPost_ret (v := t4 a b c 0) (by simp [results, Try.results23, go_sem, t4]) rfl ⟨rfl, qq⟩
set_option maxHeartbeats 2000000 in
theorem rconv_bad (k l : Int) (h : k < 0 ∨ 4 < k ∨ l < 0 ∨ 4 < l ∨ (k = 0 ∧ l ≠ 0) ∨ (k ≠ 0 ∧ l = 0)) (a b c : Nat) (w : World) : Calls Try.prog 23 #[.int .i64 k, .int .i64 l, .int .u32 (a : Int), .int .u32 (b : Int), .int .u32 (c : Int)] w fun e w' => e = .returned (t4 0 0 0 70) ∧ Q w w' := by
  have qq := Q.refl w
  have key : (decide (k < 0) = true) ∨ (decide (k < 0) = false ∧ decide (4 < k) = true) ∨ (decide (k < 0) = false ∧ decide (4 < k) = false ∧ decide (l < 0) = true) ∨ (decide (k < 0) = false ∧ decide (4 < k) = false ∧ decide (l < 0) = false ∧ decide (4 < l) = true) ∨ (decide (k < 0) = false ∧ decide (4 < k) = false ∧ decide (l < 0) = false ∧ decide (4 < l) = false ∧ (k == 0) = true ∧ (l == 0) = false) ∨ (decide (k < 0) = false ∧ decide (4 < k) = false ∧ decide (l < 0) = false ∧ decide (4 < l) = false ∧ (k == 0) = false ∧ (l == 0) = true) := by
    simp only [decide_eq_true_eq, decide_eq_false_iff_not, beq_iff_eq, beq_eq_false_iff_ne]
    omega
  clear h
  rcases key with h1 | ⟨h1, h2⟩ | ⟨h1, h2, h3⟩ | ⟨h1, h2, h3, h4⟩ | ⟨h1, h2, h3, h4, h5, h6⟩ | ⟨h1, h2, h3, h4, h5, h6⟩
  all_goals
    go_enter Try.func23, Try.ntmps23
    go_wp2_with fail
    refine bodyPost_ret (v := t4 0 0 0 70) (by simp [results, Try.results23, go_sem, t4]) rfl ⟨rfl, qq⟩
end Go.Proofs.Ytedafbbpcpebbaa
/- Convert: the program and the document answer the same. -/
namespace Go.Proofs.Ytedafbbpcpebbaa
open Go.RowKit
set_option linter.unusedVariables false

theorem rg0_eq (x y z : Nat) : rg0 x y z = x := rfl
theorem rg1_eq (x y z : Nat) : rg1 x y z = y := rfl
theorem rg2_eq (x y z : Nat) : rg2 x y z = z := rfl
/-- Both answer this. -/
def BothCv (k l : Int) (a b c : Nat) (R0 R1 R2 : Nat) (E : Int) : Prop :=
  (∀ w : World, Calls Try.prog 22 #[.int .i64 k, .int .i64 l, .int .u32 (a : Int), .int .u32 (b : Int), .int .u32 (c : Int)] w fun e w' => e = .returned (t4 R0 R1 R2 E) ∧ Q w w') ∧
  (∀ w : World, Calls Try.prog 23 #[.int .i64 k, .int .i64 l, .int .u32 (a : Int), .int .u32 (b : Int), .int .u32 (c : Int)] w fun e w' => e = .returned (t4 R0 R1 R2 E) ∧ Q w w')
theorem both_12 (a b c : Nat) (ha : a < 4294967296) (hb : b < 4294967296) (hc : c < 4294967296) : BothCv 1 2 a b c (ycc0 a b c) (ycc1 a b c) (ycc2 a b c) 0 := by
  refine ⟨fun w => ?_, fun w => rconv_12 a b c a b c (ycc0 a b c) (ycc1 a b c) (ycc2 a b c) (rtoycc_any a b c ha hb hc) w⟩
  have p := conv_two (k := 1) (l := 2) (by decide) way_1 way_2 a b c ha hb hc w
  rw [rg0_eq, rg1_eq, rg2_eq] at p
  exact p
theorem both_13 (a b c : Nat) (ha : a < 4294967296) (hb : b < 4294967296) (hc : c < 4294967296) : BothCv 1 3 a b c (logV a) (logV b) (logV c) 0 := by
  refine ⟨fun w => ?_, fun w => rconv_13 a b c a b c (logV a) (logV b) (logV c) (rlog_any a ha) (rlog_any b hb) (rlog_any c hc) w⟩
  have p := conv_two (k := 1) (l := 3) (by decide) way_1 way_3 a b c ha hb hc w
  rw [rg0_eq, rg1_eq, rg2_eq] at p
  unfold ofx0 ofx1 ofx2 at p
  exact p
theorem both_14 (a b c : Nat) (ha : a < 4294967296) (hb : b < 4294967296) (hc : c < 4294967296) : BothCv 1 4 a b c (lift0 a b c) (lift1 a b c) (lift2 a b c) 0 := by
  refine ⟨fun w => ?_, fun w => rconv_14 a b c a b c (lift0 a b c) (lift1 a b c) (lift2 a b c) (rlift_any a b c ha hb hc) w⟩
  have p := conv_two (k := 1) (l := 4) (by decide) way_1 way_4 a b c ha hb hc w
  rw [rg0_eq, rg1_eq, rg2_eq] at p
  exact p
theorem both_21 (a b c : Nat) (ha : a < 4294967296) (hb : b < 4294967296) (hc : c < 4294967296) : BothCv 2 1 a b c (rgb0 a b c) (rgb1 a b c) (rgb2 a b c) 0 := by
  refine ⟨fun w => ?_, fun w => rconv_21 a b c (rgb0 a b c) (rgb1 a b c) (rgb2 a b c) (rgb0 a b c) (rgb1 a b c) (rgb2 a b c) (rfromycc_any a b c ha hb hc) w⟩
  have p := conv_two (k := 2) (l := 1) (by decide) way_2 way_1 a b c ha hb hc w
  rw [rg0_eq, rg1_eq, rg2_eq] at p
  exact p
theorem both_23 (a b c : Nat) (ha : a < 4294967296) (hb : b < 4294967296) (hc : c < 4294967296) : BothCv 2 3 a b c (logV (rgb0 a b c)) (logV (rgb1 a b c)) (logV (rgb2 a b c)) 0 := by
  refine ⟨fun w => ?_, fun w => rconv_23 a b c (rgb0 a b c) (rgb1 a b c) (rgb2 a b c) (logV (rgb0 a b c)) (logV (rgb1 a b c)) (logV (rgb2 a b c)) (rfromycc_any a b c ha hb hc) (rlog_any (rgb0 a b c) (narW_lt _)) (rlog_any (rgb1 a b c) (narW_lt _)) (rlog_any (rgb2 a b c) (narW_lt _)) w⟩
  have p := conv_two (k := 2) (l := 3) (by decide) way_2 way_3 a b c ha hb hc w
  unfold ofx0 ofx1 ofx2 at p
  exact p
theorem both_24 (a b c : Nat) (ha : a < 4294967296) (hb : b < 4294967296) (hc : c < 4294967296) : BothCv 2 4 a b c (lift0 (rgb0 a b c) (rgb1 a b c) (rgb2 a b c)) (lift1 (rgb0 a b c) (rgb1 a b c) (rgb2 a b c)) (lift2 (rgb0 a b c) (rgb1 a b c) (rgb2 a b c)) 0 := by
  refine ⟨fun w => ?_, fun w => rconv_24 a b c (rgb0 a b c) (rgb1 a b c) (rgb2 a b c) (lift0 (rgb0 a b c) (rgb1 a b c) (rgb2 a b c)) (lift1 (rgb0 a b c) (rgb1 a b c) (rgb2 a b c)) (lift2 (rgb0 a b c) (rgb1 a b c) (rgb2 a b c)) (rfromycc_any a b c ha hb hc) (rlift_any (rgb0 a b c) (rgb1 a b c) (rgb2 a b c) (narW_lt _) (narW_lt _) (narW_lt _)) w⟩
  have p := conv_two (k := 2) (l := 4) (by decide) way_2 way_4 a b c ha hb hc w
  exact p
theorem both_31 (a b c : Nat) (ha : a < 4294967296) (hb : b < 4294967296) (hc : c < 4294967296) : BothCv 3 1 a b c (expW a) (expW b) (expW c) 0 := by
  refine ⟨fun w => ?_, fun w => rconv_31 a b c (expW a) (expW b) (expW c) (expW a) (expW b) (expW c) (rexp_any a ha) (rexp_any b hb) (rexp_any c hc) w⟩
  have p := conv_two (k := 3) (l := 1) (by decide) way_3 way_1 a b c ha hb hc w
  rw [rg0_eq, rg1_eq, rg2_eq] at p
  unfold otx0 otx1 otx2 at p
  exact p
theorem both_32 (a b c : Nat) (ha : a < 4294967296) (hb : b < 4294967296) (hc : c < 4294967296) : BothCv 3 2 a b c (ycc0 (expW a) (expW b) (expW c)) (ycc1 (expW a) (expW b) (expW c)) (ycc2 (expW a) (expW b) (expW c)) 0 := by
  refine ⟨fun w => ?_, fun w => rconv_32 a b c (expW a) (expW b) (expW c) (ycc0 (expW a) (expW b) (expW c)) (ycc1 (expW a) (expW b) (expW c)) (ycc2 (expW a) (expW b) (expW c)) (rexp_any a ha) (rexp_any b hb) (rexp_any c hc) (rtoycc_any (expW a) (expW b) (expW c) (expW_lt _) (expW_lt _) (expW_lt _)) w⟩
  have p := conv_two (k := 3) (l := 2) (by decide) way_3 way_2 a b c ha hb hc w
  unfold otx0 otx1 otx2 at p
  exact p
theorem both_34 (a b c : Nat) (ha : a < 4294967296) (hb : b < 4294967296) (hc : c < 4294967296) : BothCv 3 4 a b c (lift0 (expW a) (expW b) (expW c)) (lift1 (expW a) (expW b) (expW c)) (lift2 (expW a) (expW b) (expW c)) 0 := by
  refine ⟨fun w => ?_, fun w => rconv_34 a b c (expW a) (expW b) (expW c) (lift0 (expW a) (expW b) (expW c)) (lift1 (expW a) (expW b) (expW c)) (lift2 (expW a) (expW b) (expW c)) (rexp_any a ha) (rexp_any b hb) (rexp_any c hc) (rlift_any (expW a) (expW b) (expW c) (expW_lt _) (expW_lt _) (expW_lt _)) w⟩
  have p := conv_two (k := 3) (l := 4) (by decide) way_3 way_4 a b c ha hb hc w
  unfold otx0 otx1 otx2 at p
  exact p
theorem both_41 (a b c : Nat) (ha : a < 4294967296) (hb : b < 4294967296) (hc : c < 4294967296) : BothCv 4 1 a b c (drop0 a b c) (drop1 a b c) (drop2 a b c) 0 := by
  refine ⟨fun w => ?_, fun w => rconv_41 a b c (drop0 a b c) (drop1 a b c) (drop2 a b c) (drop0 a b c) (drop1 a b c) (drop2 a b c) (rdrop_any a b c ha hb hc) w⟩
  have p := conv_two (k := 4) (l := 1) (by decide) way_4 way_1 a b c ha hb hc w
  rw [rg0_eq, rg1_eq, rg2_eq] at p
  exact p
theorem both_42 (a b c : Nat) (ha : a < 4294967296) (hb : b < 4294967296) (hc : c < 4294967296) : BothCv 4 2 a b c (ycc0 (drop0 a b c) (drop1 a b c) (drop2 a b c)) (ycc1 (drop0 a b c) (drop1 a b c) (drop2 a b c)) (ycc2 (drop0 a b c) (drop1 a b c) (drop2 a b c)) 0 := by
  refine ⟨fun w => ?_, fun w => rconv_42 a b c (drop0 a b c) (drop1 a b c) (drop2 a b c) (ycc0 (drop0 a b c) (drop1 a b c) (drop2 a b c)) (ycc1 (drop0 a b c) (drop1 a b c) (drop2 a b c)) (ycc2 (drop0 a b c) (drop1 a b c) (drop2 a b c)) (rdrop_any a b c ha hb hc) (rtoycc_any (drop0 a b c) (drop1 a b c) (drop2 a b c) (fkeyN_lt (addN_lt _ _)) (fkeyN_lt (addN_lt _ _)) (fkeyN_lt (lesN_lt _ _))) w⟩
  have p := conv_two (k := 4) (l := 2) (by decide) way_4 way_2 a b c ha hb hc w
  exact p
theorem both_43 (a b c : Nat) (ha : a < 4294967296) (hb : b < 4294967296) (hc : c < 4294967296) : BothCv 4 3 a b c (logV (drop0 a b c)) (logV (drop1 a b c)) (logV (drop2 a b c)) 0 := by
  refine ⟨fun w => ?_, fun w => rconv_43 a b c (drop0 a b c) (drop1 a b c) (drop2 a b c) (logV (drop0 a b c)) (logV (drop1 a b c)) (logV (drop2 a b c)) (rdrop_any a b c ha hb hc) (rlog_any (drop0 a b c) (fkeyN_lt (addN_lt _ _))) (rlog_any (drop1 a b c) (fkeyN_lt (addN_lt _ _))) (rlog_any (drop2 a b c) (fkeyN_lt (lesN_lt _ _))) w⟩
  have p := conv_two (k := 4) (l := 3) (by decide) way_4 way_3 a b c ha hb hc w
  unfold ofx0 ofx1 ofx2 at p
  exact p
theorem both_cv (k l : Int) (a b c : Nat) (ha : a < 4294967296) (hb : b < 4294967296) (hc : c < 4294967296) : ∃ R0 R1 R2 E, BothCv k l a b c R0 R1 R2 E := by
  by_cases h : k = l ∧ 0 ≤ k ∧ k ≤ 4
  · obtain ⟨rfl, h0, h1⟩ := h
    exact ⟨a, b, c, 0, fun w => conv_same k h0 h1 a b c w, fun w => rconv_same k h0 h1 a b c w⟩
  · by_cases hk : k = 1 ∨ k = 2 ∨ k = 3 ∨ k = 4
    · by_cases hl : l = 1 ∨ l = 2 ∨ l = 3 ∨ l = 4
      · rcases hk with rfl | rfl | rfl | rfl <;> rcases hl with rfl | rfl | rfl | rfl
        · exact absurd ⟨rfl, by decide, by decide⟩ h
        · exact ⟨_, _, _, _, both_12 a b c ha hb hc⟩
        · exact ⟨_, _, _, _, both_13 a b c ha hb hc⟩
        · exact ⟨_, _, _, _, both_14 a b c ha hb hc⟩
        · exact ⟨_, _, _, _, both_21 a b c ha hb hc⟩
        · exact absurd ⟨rfl, by decide, by decide⟩ h
        · exact ⟨_, _, _, _, both_23 a b c ha hb hc⟩
        · exact ⟨_, _, _, _, both_24 a b c ha hb hc⟩
        · exact ⟨_, _, _, _, both_31 a b c ha hb hc⟩
        · exact ⟨_, _, _, _, both_32 a b c ha hb hc⟩
        · exact absurd ⟨rfl, by decide, by decide⟩ h
        · exact ⟨_, _, _, _, both_34 a b c ha hb hc⟩
        · exact ⟨_, _, _, _, both_41 a b c ha hb hc⟩
        · exact ⟨_, _, _, _, both_42 a b c ha hb hc⟩
        · exact ⟨_, _, _, _, both_43 a b c ha hb hc⟩
        · exact absurd ⟨rfl, by decide, by decide⟩ h
      · refine ⟨0, 0, 0, 70, fun w => ?_, fun w => rconv_bad k l (by omega) a b c w⟩
        have hn := spaceOf_no l (by omega) (by omega) (by omega) (by omega)
        rcases hk with rfl | rfl | rfl | rfl
        · exact conv_bad2 (by omega) _ way_1.sp hn a b c w
        · exact conv_bad2 (by omega) _ way_2.sp hn a b c w
        · exact conv_bad2 (by omega) _ way_3.sp hn a b c w
        · exact conv_bad2 (by omega) _ way_4.sp hn a b c w
    · refine ⟨0, 0, 0, 70, fun w => ?_, fun w => rconv_bad k l (by omega) a b c w⟩
      refine conv_bad1 (by omega) (by omega) (by omega) (by omega) (by omega) ?_ a b c w
      by_cases hl : l = 1 ∨ l = 2 ∨ l = 3 ∨ l = 4
      · left
        rcases hl with rfl | rfl | rfl | rfl
        · exact ⟨_, way_1.sp⟩
        · exact ⟨_, way_2.sp⟩
        · exact ⟨_, way_3.sp⟩
        · exact ⟨_, way_4.sp⟩
      · right
        exact spaceOf_no l (by omega) (by omega) (by omega) (by omega)
end Go.Proofs.Ytedafbbpcpebbaa

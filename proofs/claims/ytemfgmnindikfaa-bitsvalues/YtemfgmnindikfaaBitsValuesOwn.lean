/- Of every finite sample the parts are its value and lead back to it, and of every two whole numbers the sample that is told is their number; no condition. -/
import Derived.Test.YtemfgmnindikfaaRows
import Derived.WalkKit
import Derived.ProofKit
import Derived.OpenShut
import Derived.WalkLawsBesides
import Derived.Test.YtemfgmnindikfaaKnown
import Derived.Test.YtemfgmnindikfaaWorth
namespace Go.Proofs.Ytemfgmnindikfaa
open Go.ChangeShapes Go.WideShapes Go.ChangeAt Go.RowKit
set_option linter.unusedVariables false

theorem bitsValues_own : ownKnob Try.prog.godebug = none := by kernel_rfl

theorem pE_bd (s : Int) : -9223372036854775808 ≤ pE s ∧ pE s ≤ 9223372036854775807 := by
  have := expV_bd s
  unfold pE
  repeat' split
  all_goals omega
/-- What the second half of the statement asks of two numbers and their sample. -/
def Sec (n e : Int) : Prop :=
  (fpB n e = false ∧ (fpV n e == 0) = true) ∨
  (fpB n e = true ∧ (n == 0) = true ∧ (fpV n e == 0) = true) ∨
  (fpB n e = true ∧ (n == 0) = false ∧ -300 ≤ e ∧ e ≤ 300 ∧ 9007199254740992 < n) ∨
  (fpB n e = true ∧ (n == 0) = false ∧ -300 ≤ e ∧ e ≤ 300 ∧ n ≤ 9007199254740992 ∧ n < -9007199254740992) ∨
  (fpB n e = true ∧ (n == 0) = false ∧ -300 ≤ e ∧ e ≤ 300 ∧ n ≤ 9007199254740992 ∧ -9007199254740992 ≤ n ∧ ∃ (M : Nat) (P : Int), 4503599627370496 ≤ M ∧ M < 9007199254740992 ∧ -52 ≤ P ∧ P ≤ 1 ∧ -1074 ≤ P + e ∧ P + e ≤ 971 ∧ floatOfInt .f64 n = wd (decide (n < 0)) M P ∧ floatToFloatBits .f32 (fpV n e).toNat .f64 = some (wd (decide (n < 0)) M (P + e)))
theorem sec {n e : Int} (n0 : -9223372036854775808 ≤ n) (n1 : n ≤ 9223372036854775807) : Sec n e := by
  unfold Sec
  by_cases hn : n = 0
  · right; left; exact ⟨fpB_0 hn, by simp [hn], by rw [fpV_0 hn]; rfl⟩
  cases hf : fitV n.natAbs e with
  | none => left; exact ⟨fpB_none hn hf, by rw [fpV_none hn hf]; rfl⟩
  | some y =>
    obtain ⟨m, x⟩ := y
    have hb : (n == 0) = false := by simp [hn]
    have he : -300 ≤ e ∧ e ≤ 300 := by
      obtain ⟨m0, m1, x0, x1, hx⟩ := fitV_bd (by omega) (by omega) hf
      obtain ⟨o, k, j, e1, e2, e3, e4⟩ := fit_spec (by omega) (by omega) hf
      have hk : k < 64 := by
        rcases Nat.lt_or_ge k 64 with h | h
        · exact h
        · exfalso
          have h2 : (2 : Int) ^ 64 ≤ 2 ^ k := by
            have := Nat.pow_le_pow_right (n := 2) (by decide) h
            exact_mod_cast this
          have h3 : 1 * (2 : Int) ^ k ≤ o * 2 ^ k := Int.mul_le_mul_of_nonneg_right (by omega) (by omega)
          omega
      have hj : j < 24 := by
        rcases Nat.lt_or_ge j 24 with h | h
        · exact h
        · exfalso
          have h2 : (2 : Int) ^ 24 ≤ 2 ^ j := by
            have := Nat.pow_le_pow_right (n := 2) (by decide) h
            exact_mod_cast this
          have h3 : 1 * (2 : Int) ^ j ≤ o * 2 ^ j := Int.mul_le_mul_of_nonneg_right (by omega) (by omega)
          omega
      omega
    have ht := fpB_some hn hf
    right; right
    by_cases c1 : 9007199254740992 < n
    · left; exact ⟨ht, hb, he.1, he.2, c1⟩
    right
    by_cases c2 : n < -9007199254740992
    · left; exact ⟨ht, hb, he.1, he.2, by omega, c2⟩
    right
    obtain ⟨M, P, a1, a2, a3, a4, _, _, a5, a6, a7, a8⟩ := widened hn (by omega) (by omega) hf
    exact ⟨ht, hb, he.1, he.2, by omega, by omega, M, P, a1, a2, a3, a4, a5, a6, a7, by rw [fpV_some hn hf]; exact a8⟩

set_option maxHeartbeats 2000000 in
theorem values_nan (a0 a1 a2 : Int) (x0 : 0 ≤ a0) (x1 : a0 ≤ 4294967295) (y0 : -9223372036854775808 ≤ a1) (y1 : a1 ≤ 9223372036854775807) (z0 : -9223372036854775808 ≤ a2) (z1 : a2 ≤ 9223372036854775807) (c1 : expV a0 = 255) (c2 : ¬ fracV a0 = 0) (w : World) :
    Calls Try.prog 7 #[.int .u32 a0, .int .i64 a1, .int .i64 a2] w fun e w' => e = .returned (.bool true) ∧ Grown w w' := by
  have l1 : (FloatKind.f32.format.order a0.toNat a0.toNat == some Ordering.eq) = false := by
    show (Ieee.single.order a0.toNat a0.toNat == some Ordering.eq) = false
    rw [order_self_nan x0 x1 c1 c2]; rfl
  have l2 : pB a0 = false := by unfold pB; simp [c1]
  clear c1 c2
  have hsec : Hid (Sec a1 a2) := sec y0 y1
  have l0 := f32from
  go_enter Try.func7, Try.ntmps7
  go_wp2_with fail
  refine (known_any _).mono ?_
  rintro e u1 ⟨rfl, q1⟩
  go_wp2_with fail
  refine (parts_any a0 x0 x1 _).mono ?_
  rintro e u2 ⟨rfl, q2⟩
  go_wp2_with fail
  refine (from_any a1 a2 y0 y1 z0 z1 _).mono ?_
  rintro e u4 ⟨rfl, q4⟩
  rcases hsec.out with ⟨s1, s2⟩ | ⟨s1, s2, s3⟩ | ⟨s1, s2, s3, s4, s5⟩ | ⟨s1, s2, s3, s4, s5, s6⟩ | ⟨s1, s2, s3, s4, s5, s6, M, P, m0, m1, p0, p1, r0, r1, t1, t2⟩
  · clear hsec
    go_wp2_with fail
    go_ret
    exact ⟨rfl, ((q1.trans q2).trans q4).grown⟩
  · clear hsec
    go_wp2_with fail
    go_ret
    exact ⟨rfl, ((q1.trans q2).trans q4).grown⟩
  · clear hsec
    go_wp2_with fail
    go_ret
    exact ⟨rfl, ((q1.trans q2).trans q4).grown⟩
  · clear hsec
    go_wp2_with fail
    go_ret
    exact ⟨rfl, ((q1.trans q2).trans q4).grown⟩
  · clear hsec
    have l7 := fun (w : World) => run_convert_float_float (P := Try.prog) w 38 40 .f32 .f64 (fpV a1 a2).toNat _ (by kernel_rfl) Try.underlying40 t2
    have l8 : (FloatKind.f64.format.order (wd (decide (a1 < 0)) M (P + a2)) (wd (decide (a1 < 0)) M (P + a2)) == some Ordering.eq) = true := by
      show (Ieee.double.order (wd (decide (a1 < 0)) M (P + a2)) (wd (decide (a1 < 0)) M (P + a2)) == some Ordering.eq) = true
      rw [order_wd_self m0 m1 r0 r1]; rfl
    clear t2
    go_wp2_with fail
    refine (lib_any (decide (a1 < 0)) M P a2 m0 m1 p0 p1 s3 s4 _).mono ?_
    rintro e u5 ⟨rfl, rfl⟩
    go_wp2_with fail
    go_ret
    exact ⟨rfl, ((q1.trans q2).trans q4).grown⟩

set_option maxHeartbeats 2000000 in
theorem values_inf (a0 a1 a2 : Int) (x0 : 0 ≤ a0) (x1 : a0 ≤ 4294967295) (y0 : -9223372036854775808 ≤ a1) (y1 : a1 ≤ 9223372036854775807) (z0 : -9223372036854775808 ≤ a2) (z1 : a2 ≤ 9223372036854775807) (c1 : expV a0 = 255) (c2 : fracV a0 = 0) (w : World) :
    Calls Try.prog 7 #[.int .u32 a0, .int .i64 a1, .int .i64 a2] w fun e w' => e = .returned (.bool true) ∧ Grown w w' := by
  have l1 : (FloatKind.f32.format.order a0.toNat a0.toNat == some Ordering.eq) = true := by
    show (Ieee.single.order a0.toNat a0.toNat == some Ordering.eq) = true
    rw [order_self x0 x1 (Or.inr c2)]; rfl
  have l2 : pB a0 = false := by unfold pB; simp [c1]
  have l3 := run_sub_inf x0 x1 c1 c2 Try.prog 38
  have l4 : ∀ u : World, (FloatKind.f32.format.order (nanw u a0.toNat) 0 == some Ordering.eq) = false := by
    intro u
    show (Ieee.single.order (nanw u a0.toNat) 0 == some Ordering.eq) = false
    rw [order_nan_left (nanw_rung u _)]; rfl
  clear c1 c2
  have hsec : Hid (Sec a1 a2) := sec y0 y1
  have l0 := f32from
  go_enter Try.func7, Try.ntmps7
  go_wp2_with fail
  refine (known_any _).mono ?_
  rintro e u1 ⟨rfl, q1⟩
  go_wp2_with fail
  refine (parts_any a0 x0 x1 _).mono ?_
  rintro e u2 ⟨rfl, q2⟩
  go_wp2_with fail
  refine (from_any a1 a2 y0 y1 z0 z1 _).mono ?_
  rintro e u4 ⟨rfl, q4⟩
  rcases hsec.out with ⟨s1, s2⟩ | ⟨s1, s2, s3⟩ | ⟨s1, s2, s3, s4, s5⟩ | ⟨s1, s2, s3, s4, s5, s6⟩ | ⟨s1, s2, s3, s4, s5, s6, M, P, m0, m1, p0, p1, r0, r1, t1, t2⟩
  · clear hsec
    go_wp2_with fail
    go_ret
    exact ⟨rfl, ((q1.trans q2).drew.trans q4).grown⟩
  · clear hsec
    go_wp2_with fail
    go_ret
    exact ⟨rfl, ((q1.trans q2).drew.trans q4).grown⟩
  · clear hsec
    go_wp2_with fail
    go_ret
    exact ⟨rfl, ((q1.trans q2).drew.trans q4).grown⟩
  · clear hsec
    go_wp2_with fail
    go_ret
    exact ⟨rfl, ((q1.trans q2).drew.trans q4).grown⟩
  · clear hsec
    have l7 := fun (w : World) => run_convert_float_float (P := Try.prog) w 38 40 .f32 .f64 (fpV a1 a2).toNat _ (by kernel_rfl) Try.underlying40 t2
    have l8 : (FloatKind.f64.format.order (wd (decide (a1 < 0)) M (P + a2)) (wd (decide (a1 < 0)) M (P + a2)) == some Ordering.eq) = true := by
      show (Ieee.double.order (wd (decide (a1 < 0)) M (P + a2)) (wd (decide (a1 < 0)) M (P + a2)) == some Ordering.eq) = true
      rw [order_wd_self m0 m1 r0 r1]; rfl
    clear t2
    go_wp2_with fail
    refine (lib_any (decide (a1 < 0)) M P a2 m0 m1 p0 p1 s3 s4 _).mono ?_
    rintro e u5 ⟨rfl, rfl⟩
    go_wp2_with fail
    go_ret
    exact ⟨rfl, ((q1.trans q2).drew.trans q4).grown⟩

set_option maxHeartbeats 2000000 in
theorem values_zero (a0 a1 a2 : Int) (x0 : 0 ≤ a0) (x1 : a0 ≤ 4294967295) (y0 : -9223372036854775808 ≤ a1) (y1 : a1 ≤ 9223372036854775807) (z0 : -9223372036854775808 ≤ a2) (z1 : a2 ≤ 9223372036854775807) (c1 : ¬ expV a0 = 255) (c2 : pN a0 = 0) (w : World) :
    Calls Try.prog 7 #[.int .u32 a0, .int .i64 a1, .int .i64 a2] w fun e w' => e = .returned (.bool true) ∧ Grown w w' := by
  have l1 : (FloatKind.f32.format.order a0.toNat a0.toNat == some Ordering.eq) = true := by
    show (Ieee.single.order a0.toNat a0.toNat == some Ordering.eq) = true
    rw [order_self x0 x1 (Or.inl c1)]; rfl
  have l2 : pB a0 = true := by unfold pB; simp [c1]
  have l3 := fun (w : World) => run_float_arith (P := Try.prog) w .sub 38 .f32 a0.toNat a0.toNat 0 (sub_self_fin x0 x1 c1)
  have l4 : (FloatKind.f32.format.order 0 0 == some Ordering.eq) = true := by decide
  obtain ⟨r, v1, v2⟩ := wide_nought (nought x0 x1 c1 c2)
  have l5 := fun (w : World) => run_convert_float_float (P := Try.prog) w 38 40 .f32 .f64 a0.toNat r (by kernel_rfl) Try.underlying40 v1
  have l6 : (FloatKind.f64.format.order 0 r != some Ordering.eq) = false := v2
  have l9 := wide_zero
  have b1 : -9223372036854775808 ≤ pE a0 ∧ pE a0 ≤ 9223372036854775807 := pE_bd a0
  have g1 : fpB 0 (pE a0) = true := fpB_0 rfl
  have g2 : fpV 0 (pE a0) = 0 := fpV_0 rfl
  clear v1 v2 c1
  by_cases c3 : a0 = 0
  · have l10 : (a0 == 0) = true := by simp [c3]
    have l11 : (0 != a0) = false := by simp [c3]
    have C3 : Hid (a0 = 0) := c3
    clear c3
    have hsec : Hid (Sec a1 a2) := sec y0 y1
    have l0 := f32from
    go_enter Try.func7, Try.ntmps7
    go_wp2_with fail
    refine (known_any _).mono ?_
    rintro e u1 ⟨rfl, q1⟩
    go_wp2_with fail
    refine (parts_any a0 x0 x1 _).mono ?_
    rintro e u2 ⟨rfl, q2⟩
    go_wp2_with fail
    refine (lib0_any (pE a0) _).mono ?_
    rintro e u3 ⟨rfl, rfl⟩
    go_wp2_with fail
    refine (from_any 0 (pE a0) (by omega) (by omega) b1.1 b1.2 _).mono ?_
    rintro e u3 ⟨rfl, q3⟩
    go_wp2_with fail
    refine (from_any a1 a2 y0 y1 z0 z1 _).mono ?_
    rintro e u4 ⟨rfl, q4⟩
    rcases hsec.out with ⟨s1, s2⟩ | ⟨s1, s2, s3⟩ | ⟨s1, s2, s3, s4, s5⟩ | ⟨s1, s2, s3, s4, s5, s6⟩ | ⟨s1, s2, s3, s4, s5, s6, M, P, m0, m1, p0, p1, r0, r1, t1, t2⟩
    · clear hsec
      go_wp2_with fail
      go_ret
      exact ⟨rfl, (((q1.trans q2).trans q3).trans q4).grown⟩
    · clear hsec
      go_wp2_with fail
      go_ret
      exact ⟨rfl, (((q1.trans q2).trans q3).trans q4).grown⟩
    · clear hsec
      go_wp2_with fail
      go_ret
      exact ⟨rfl, (((q1.trans q2).trans q3).trans q4).grown⟩
    · clear hsec
      go_wp2_with fail
      go_ret
      exact ⟨rfl, (((q1.trans q2).trans q3).trans q4).grown⟩
    · clear hsec
      have l7 := fun (w : World) => run_convert_float_float (P := Try.prog) w 38 40 .f32 .f64 (fpV a1 a2).toNat _ (by kernel_rfl) Try.underlying40 t2
      have l8 : (FloatKind.f64.format.order (wd (decide (a1 < 0)) M (P + a2)) (wd (decide (a1 < 0)) M (P + a2)) == some Ordering.eq) = true := by
        show (Ieee.double.order (wd (decide (a1 < 0)) M (P + a2)) (wd (decide (a1 < 0)) M (P + a2)) == some Ordering.eq) = true
        rw [order_wd_self m0 m1 r0 r1]; rfl
      clear t2
      go_wp2_with fail
      refine (lib_any (decide (a1 < 0)) M P a2 m0 m1 p0 p1 s3 s4 _).mono ?_
      rintro e u5 ⟨rfl, rfl⟩
      go_wp2_with fail
      go_ret
      exact ⟨rfl, (((q1.trans q2).trans q3).trans q4).grown⟩
  · have l11 : (0 != a0) = true := by simp; omega
    have hsec : Hid (Sec a1 a2) := sec y0 y1
    have l0 := f32from
    go_enter Try.func7, Try.ntmps7
    go_wp2_with fail
    refine (known_any _).mono ?_
    rintro e u1 ⟨rfl, q1⟩
    go_wp2_with fail
    refine (parts_any a0 x0 x1 _).mono ?_
    rintro e u2 ⟨rfl, q2⟩
    go_wp2_with fail
    refine (lib0_any (pE a0) _).mono ?_
    rintro e u3 ⟨rfl, rfl⟩
    go_wp2_with fail
    refine (from_any 0 (pE a0) (by omega) (by omega) b1.1 b1.2 _).mono ?_
    rintro e u3 ⟨rfl, q3⟩
    go_wp2_with fail
    refine (from_any a1 a2 y0 y1 z0 z1 _).mono ?_
    rintro e u4 ⟨rfl, q4⟩
    rcases hsec.out with ⟨s1, s2⟩ | ⟨s1, s2, s3⟩ | ⟨s1, s2, s3, s4, s5⟩ | ⟨s1, s2, s3, s4, s5, s6⟩ | ⟨s1, s2, s3, s4, s5, s6, M, P, m0, m1, p0, p1, r0, r1, t1, t2⟩
    · clear hsec
      go_wp2_with fail
      go_ret
      exact ⟨rfl, (((q1.trans q2).trans q3).trans q4).grown⟩
    · clear hsec
      go_wp2_with fail
      go_ret
      exact ⟨rfl, (((q1.trans q2).trans q3).trans q4).grown⟩
    · clear hsec
      go_wp2_with fail
      go_ret
      exact ⟨rfl, (((q1.trans q2).trans q3).trans q4).grown⟩
    · clear hsec
      go_wp2_with fail
      go_ret
      exact ⟨rfl, (((q1.trans q2).trans q3).trans q4).grown⟩
    · clear hsec
      have l7 := fun (w : World) => run_convert_float_float (P := Try.prog) w 38 40 .f32 .f64 (fpV a1 a2).toNat _ (by kernel_rfl) Try.underlying40 t2
      have l8 : (FloatKind.f64.format.order (wd (decide (a1 < 0)) M (P + a2)) (wd (decide (a1 < 0)) M (P + a2)) == some Ordering.eq) = true := by
        show (Ieee.double.order (wd (decide (a1 < 0)) M (P + a2)) (wd (decide (a1 < 0)) M (P + a2)) == some Ordering.eq) = true
        rw [order_wd_self m0 m1 r0 r1]; rfl
      clear t2
      go_wp2_with fail
      refine (lib_any (decide (a1 < 0)) M P a2 m0 m1 p0 p1 s3 s4 _).mono ?_
      rintro e u5 ⟨rfl, rfl⟩
      go_wp2_with fail
      go_ret
      exact ⟨rfl, (((q1.trans q2).trans q3).trans q4).grown⟩

set_option maxHeartbeats 2000000 in
theorem values_num (a0 a1 a2 : Int) (x0 : 0 ≤ a0) (x1 : a0 ≤ 4294967295) (y0 : -9223372036854775808 ≤ a1) (y1 : a1 ≤ 9223372036854775807) (z0 : -9223372036854775808 ≤ a2) (z1 : a2 ≤ 9223372036854775807) (c1 : ¬ expV a0 = 255) (c2 : ¬ pN a0 = 0) (w : World) :
    Calls Try.prog 7 #[.int .u32 a0, .int .i64 a1, .int .i64 a2] w fun e w' => e = .returned (.bool true) ∧ Grown w w' := by
  have l1 : (FloatKind.f32.format.order a0.toNat a0.toNat == some Ordering.eq) = true := by
    show (Ieee.single.order a0.toNat a0.toNat == some Ordering.eq) = true
    rw [order_self x0 x1 (Or.inl c1)]; rfl
  have l2 : pB a0 = true := by unfold pB; simp [c1]
  have l3 := fun (w : World) => run_float_arith (P := Try.prog) w .sub 38 .f32 a0.toNat a0.toNat 0 (sub_self_fin x0 x1 c1)
  have l4 : (FloatKind.f32.format.order 0 0 == some Ordering.eq) = true := by decide
  obtain ⟨f1, f2, f3, f4⟩ := parts_back x0 x1 c1 c2
  obtain ⟨M0, P0, k0, k1, k2, k3, k4, k5, k6, k7, k8, k9⟩ := widened c2 (by omega) (by omega) f1
  rw [f2] at k9
  have l5 := fun (w : World) => run_convert_float_float (P := Try.prog) w 38 40 .f32 .f64 a0.toNat _ (by kernel_rfl) Try.underlying40 k9
  have l6 : (FloatKind.f64.format.order (wd (decide (pN a0 < 0)) M0 (P0 + pE a0)) (wd (decide (pN a0 < 0)) M0 (P0 + pE a0)) != some Ordering.eq) = false := by
    show (Ieee.double.order (wd (decide (pN a0 < 0)) M0 (P0 + pE a0)) (wd (decide (pN a0 < 0)) M0 (P0 + pE a0)) != some Ordering.eq) = false
    rw [order_wd_self k0 k1 k6 k7]; rfl
  have g1 : fpB (pN a0) (pE a0) = true := fpB_some c2 f1
  have g2 : fpV (pN a0) (pE a0) = a0 := by rw [fpV_some c2 f1]; exact f2
  clear f1 f2 k9 c1
  have hsec : Hid (Sec a1 a2) := sec y0 y1
  have l0 := f32from
  go_enter Try.func7, Try.ntmps7
  go_wp2_with fail
  refine (known_any _).mono ?_
  rintro e u1 ⟨rfl, q1⟩
  go_wp2_with fail
  refine (parts_any a0 x0 x1 _).mono ?_
  rintro e u2 ⟨rfl, q2⟩
  go_wp2_with fail
  refine (lib_any (decide (pN a0 < 0)) M0 P0 (pE a0) k0 k1 k2 k3 k4 k5 _).mono ?_
  rintro e u3 ⟨rfl, rfl⟩
  go_wp2_with fail
  refine (from_any (pN a0) (pE a0) (by omega) (by omega) (by omega) (by omega) _).mono ?_
  rintro e u3 ⟨rfl, q3⟩
  go_wp2_with fail
  refine (from_any a1 a2 y0 y1 z0 z1 _).mono ?_
  rintro e u4 ⟨rfl, q4⟩
  rcases hsec.out with ⟨s1, s2⟩ | ⟨s1, s2, s3⟩ | ⟨s1, s2, s3, s4, s5⟩ | ⟨s1, s2, s3, s4, s5, s6⟩ | ⟨s1, s2, s3, s4, s5, s6, M, P, m0, m1, p0, p1, r0, r1, t1, t2⟩
  · clear hsec
    go_wp2_with fail
    go_ret
    exact ⟨rfl, (((q1.trans q2).trans q3).trans q4).grown⟩
  · clear hsec
    go_wp2_with fail
    go_ret
    exact ⟨rfl, (((q1.trans q2).trans q3).trans q4).grown⟩
  · clear hsec
    go_wp2_with fail
    go_ret
    exact ⟨rfl, (((q1.trans q2).trans q3).trans q4).grown⟩
  · clear hsec
    go_wp2_with fail
    go_ret
    exact ⟨rfl, (((q1.trans q2).trans q3).trans q4).grown⟩
  · clear hsec
    have l7 := fun (w : World) => run_convert_float_float (P := Try.prog) w 38 40 .f32 .f64 (fpV a1 a2).toNat _ (by kernel_rfl) Try.underlying40 t2
    have l8 : (FloatKind.f64.format.order (wd (decide (a1 < 0)) M (P + a2)) (wd (decide (a1 < 0)) M (P + a2)) == some Ordering.eq) = true := by
      show (Ieee.double.order (wd (decide (a1 < 0)) M (P + a2)) (wd (decide (a1 < 0)) M (P + a2)) == some Ordering.eq) = true
      rw [order_wd_self m0 m1 r0 r1]; rfl
    clear t2
    go_wp2_with fail
    refine (lib_any (decide (a1 < 0)) M P a2 m0 m1 p0 p1 s3 s4 _).mono ?_
    rintro e u5 ⟨rfl, rfl⟩
    go_wp2_with fail
    go_ret
    exact ⟨rfl, (((q1.trans q2).trans q3).trans q4).grown⟩

set_option maxHeartbeats 1000000 in
theorem bitsValues_walk (a0 : Int) (a1 : Int) (a2 : Int) (w0 : (Lit.int .u32 a0).wf = true) (w1 : (Lit.int .i64 a1).wf = true) (w2 : (Lit.int .i64 a2).wf = true) (w : World) :
    Calls Try.prog 7 #[.int .u32 a0, .int .i64 a1, .int .i64 a2] w fun e w' => e = .returned (.bool true) ∧ Grown w w' := by
  obtain ⟨x0, x1⟩ := bounds_u32 w0
  obtain ⟨y0, y1⟩ := bounds_i64 w1
  obtain ⟨z0, z1⟩ := bounds_i64 w2
  by_cases c1 : expV a0 = 255
  · by_cases c2 : fracV a0 = 0
    · exact values_inf a0 a1 a2 x0 x1 y0 y1 z0 z1 c1 c2 w
    · exact values_nan a0 a1 a2 x0 x1 y0 y1 z0 z1 c1 c2 w
  · by_cases c2 : pN a0 = 0
    · exact values_zero a0 a1 a2 x0 x1 y0 y1 z0 z1 c1 c2 w
    · exact values_num a0 a1 a2 x0 x1 y0 y1 z0 z1 c1 c2 w

set_option maxRecDepth 100000 in
theorem bitsValues_lifted (os : Os) (started : os.Started) (H : Type) (enc : TypeId × Value → H) :
    ReturnsInHanded {} Try.checked os 7 .any (Rows.bitsValuesSpec.pre6 enc Try.prog Try.f7 Rows.bitsValuesRow.domain false) (Rows.bitsValuesSpec.post enc Try.prog Try.f7 false true false false) := by
  refine returnsInHanded_of_change (C := Try.checked) bitsValues_own started (by kernel_rfl) Try.func7
    (ChangeSpec.witness6 (enc := enc) (C := Try.checked) false ⟨#[], #[.int .u32 0, .int .i64 0, .int .i64 0], []⟩ 8 (by kernel_rfl) (by kernel_rfl) (by kernel_rfl) (by kernel_rfl)) ?_
  intro W base args ds gs before hval0 hW hcnd _
  have hval : ∀ (j : Nat) t v, Try.f7.params[j]? = some t → args[j]? = some v → Value.okWide Try.prog W .any base t v := hval0
  have hW' := hW
  obtain ⟨p, q, hA0, hV, rfl, hfz, hnd⟩ := hW
  have hA : DataW.TrodAll enc Try.prog W 0 (fun _ => true) true Try.f7.params.toList args.toList ds p := hA0
  rw [Try.params7] at hA hval
  obtain ⟨v0, vs0, d0, ds0, p0, q0, hargs, rfl, rfl, h0, r0⟩ := trodAll_cons hA
  obtain ⟨v1, vs1, d1, ds1, p1, q1, rfl, rfl, rfl, h1, r1⟩ := trodAll_cons r0
  obtain ⟨v2, vs2, d2, ds2, p2, q2, rfl, rfl, rfl, h2, r2⟩ := trodAll_cons r1
  obtain ⟨rfl, rfl, rfl⟩ := trodAll_nil r2
  obtain rfl : args = #[v0, v1, v2] := by cases args; simp_all
  obtain ⟨rfl, rfl⟩ := trodVars_none hV
  obtain ⟨a0, rfl, rfl, rfl, w0⟩ := open_int Try.underlying22 (hval 0 22 v0 rfl rfl) h0
  obtain ⟨a1, rfl, rfl, rfl, w1⟩ := open_int Try.underlying3 (hval 1 3 v1 rfl rfl) h1
  obtain ⟨a2, rfl, rfl, rfl, w2⟩ := open_int Try.underlying3 (hval 2 3 v2 rfl rfl) h2
  clear hA0 hval0
  simp only [List.append_nil] at hW'
  refine (bitsValues_walk a0 a1 a2 w0 w1 w2 W).mono fun e W' ⟨he, hg⟩ => ?_
  subst he
  exact ⟨_, rfl, post_of_same (pa := []) (pv := []) hW' (fun _ _ _ => (trodAll_cons_mk (shut_bool Try.underlying4 _) trodAll_mk0)) (fun sp _ => (trodAll_cons_mk (shut_int Try.underlying22 w0) (trodAll_cons_mk (shut_int Try.underlying3 w1) (trodAll_cons_mk (shut_int Try.underlying3 w2) trodAll_mk0)))) (fun _ _ => rfl) rfl
    (hg.frame _) hg.2.1 (ok_one (by kernel_rfl) rfl (okWide_bool_mk Try.underlying4 _))⟩

theorem bitsValues_over : Rows.bitsValuesRow.holds Try.pinned (OpenSpec.ofChange Rows.bitsValuesSpec) :=
  OpenClaim.holds_of_wide 7 Try.f7 rfl rfl rfl rfl rfl rfl rfl ⟨rfl, rfl, rfl, rfl, rfl⟩ rfl rfl rfl rfl rfl (by kernel_rfl) Try.func7 (by kernel_rfl)
    (of_decide_eq_true (by kernel_rfl)) (by unfold Func.isWrapper; first | (rw [if_pos (by decide +kernel)]; kernel_rfl) | (rw [if_neg (by decide +kernel)]; exact ⟨rfl, rfl⟩))
    (fun os started H enc _ => bitsValues_lifted os started H enc)

theorem bitsValues_holds : Rows.BitsValuesSaid :=
  bitsValues_over
#print axioms bitsValues_holds
end Go.Proofs.Ytemfgmnindikfaa

/- Plain facts: words of one form written in the other: what is too great, and what is not. -/
import Derived.Test.YtcolhgngiflkhaaG8c4b7715
import Derived.Test.YtcolhgngiflkhaaG9907aa2c
import Derived.Test.YtcolhgngiflkhaaGa13d0b08
namespace Go.Proofs.Ytcolhgngiflkhaa
open Go.RowKit

theorem rung_word32 (f : Ieee.Format) (r : Nat) : rungOf f (mag32 r) (-149 + (plc32 r : Int)) = rungOf f (val32 r) (-149) := by
  unfold val32; rw [rung_scale]
theorem rung_word64 (f : Ieee.Format) (r : Nat) : rungOf f (mag64 r) (-1074 + (plc64 r : Int)) = rungOf f (val64 r) (-1074) := by
  unfold val64; rw [rung_scale]
theorem val_le32 {r s : Nat} (h : r ≤ s) : val32 r ≤ val32 s := by
  rcases Nat.lt_or_eq_of_le h with g | g
  · exact Nat.le_of_lt (val_mono32 g)
  · rw [g]; exact Nat.le_refl _
theorem val_le64 {r s : Nat} (h : r ≤ s) : val64 r ≤ val64 s := by
  rcases Nat.lt_or_eq_of_le h with g | g
  · exact Nat.le_of_lt (val_mono64 g)
  · rw [g]; exact Nat.le_refl _
theorem rung_le32 (f : Ieee.Format) {r s : Nat} (h : r ≤ s) : rungOf f (mag32 r) (-149 + (plc32 r : Int)) ≤ rungOf f (mag32 s) (-149 + (plc32 s : Int)) := by
  rw [rung_word32, rung_word32]; exact rung_mono f _ (val_le32 h)
theorem rung_le64 (f : Ieee.Format) {r s : Nat} (h : r ≤ s) : rungOf f (mag64 r) (-1074 + (plc64 r : Int)) ≤ rungOf f (mag64 s) (-1074 + (plc64 s : Int)) := by
  rw [rung_word64, rung_word64]; exact rung_mono f _ (val_le64 h)

theorem sgn_word32 (s : Bool) {r : Nat} (h : r < 2147483648) : sgn32 (Ieee.single.word s r) = s ∧ rung32 (Ieee.single.word s r) = r := by
  unfold sgn32 rung32; rw [word32]
  cases s
  · exact ⟨by rw [beq_eq_false_iff_ne]; simp; omega, by simp; omega⟩
  · exact ⟨by rw [beq_iff_eq]; simp; omega, by simp; omega⟩
theorem sgn_word64 (s : Bool) {r : Nat} (h : r < 9223372036854775808) : sgn64 (Ieee.double.word s r) = s ∧ rung64 (Ieee.double.word s r) = r := by
  unfold sgn64 rung64; rw [word64]
  cases s
  · exact ⟨by rw [beq_eq_false_iff_ne]; simp; omega, by simp; omega⟩
  · exact ⟨by rw [beq_iff_eq]; simp; omega, by simp; omega⟩
theorem word_of32 {a : Nat} (h : a < 4294967296) : a = Ieee.single.word (sgn32 a) (rung32 a) := by
  rw [word32]; unfold sgn32 rung32
  by_cases c : a / 2147483648 % 2 = 1
  · rw [beq_iff_eq.2 c]; simp; omega
  · rw [beq_eq_false_iff_ne.2 c]; simp; omega
theorem word_of64 {a : Nat} (h : a < 18446744073709551616) : a = Ieee.double.word (sgn64 a) (rung64 a) := by
  rw [word64]; unfold sgn64 rung64
  by_cases c : a / 9223372036854775808 % 2 = 1
  · rw [beq_iff_eq.2 c]; simp; omega
  · rw [beq_eq_false_iff_ne.2 c]; simp; omega

theorem nanN_rung (a : Nat) : nanN a = decide (2139095040 < rung32 a) := rfl
theorem nan64_rung (a : Nat) : nan64 a = decide (9218868437227405312 < rung64 a) := rfl

/-- A finite sample, made wide, is finite. -/
theorem wide_lt {a : Nat} (h : rung32 a < 2139095040) : rungOf Ieee.double (mag32 (rung32 a)) (-149 + (plc32 (rung32 a) : Int)) < 9218868437227405312 := by
  have h1 := rung_le32 Ieee.double (r := rung32 a) (s := 2139095039) (by omega)
  have h2 : rungOf Ieee.double (mag32 2139095039) (-149 + (plc32 2139095039 : Int)) < 9218868437227405312 := by decide +kernel
  omega
/-- A sample that is no NaN, as a word of 64 bits. -/
def wideN (a : Nat) : Nat := Ieee.double.write (Ieee.single.read a)
theorem wide_conv {a : Nat} (h : nanN a = false) : floatToFloatBits .f32 a .f64 = some (wideN a) := by
  rw [nanN_rung] at h
  have h := of_decide_eq_false h
  unfold floatToFloatBits
  rw [if_neg (by decide)]
  have e : FloatKind.f32.decode a = Ieee.single.read a := rfl
  rw [e]
  rcases Nat.lt_or_ge (rung32 a) 2139095040 with g | g
  · unfold wideN
    rw [read_fin32 g]
    dsimp only
    have e2 : FloatKind.f64.encode (.number (sgn32 a) (mag32 (rung32 a)) (-149 + (plc32 (rung32 a) : Int))) = Ieee.double.word (sgn32 a) (rungOf Ieee.double (mag32 (rung32 a)) (-149 + (plc32 (rung32 a) : Int))) := nearest_rung _ _ _ _
    have e3 : Ieee.double.write (.number (sgn32 a) (mag32 (rung32 a)) (-149 + (plc32 (rung32 a) : Int))) = Ieee.double.word (sgn32 a) (rungOf Ieee.double (mag32 (rung32 a)) (-149 + (plc32 (rung32 a) : Int))) := nearest_rung _ _ _ _
    rw [e2, e3]
    have hw := wide_lt g
    obtain ⟨s1, s2⟩ := sgn_word64 (sgn32 a) (r := rungOf Ieee.double (mag32 (rung32 a)) (-149 + (plc32 (rung32 a) : Int))) (by omega)
    have e4 : FloatKind.f64.decode (Ieee.double.word (sgn32 a) (rungOf Ieee.double (mag32 (rung32 a)) (-149 + (plc32 (rung32 a) : Int)))) = .number _ _ _ := read_fin64 (by rw [s2]; exact hw)
    rw [e4]; rfl
  · unfold wideN
    rw [read_inf32 (by omega)]
    rfl

/-- From the bound on a number is an infinity; below it, it is none. -/
theorem nar_hi {r : Nat} (h : 5183643170835005440 ≤ r) : rungOf Ieee.single (mag64 r) (-1074 + (plc64 r : Int)) = 2139095040 := by
  have h1 := rung_le64 Ieee.single h
  have h2 : rungOf Ieee.single (mag64 5183643170835005440) (-1074 + (plc64 5183643170835005440 : Int)) = 2139095040 := by decide +kernel
  have h3 := rungOf_le Ieee.single (mag64 r) (-1074 + (plc64 r : Int))
  rw [inf32] at h3
  omega
theorem nar_lo {r : Nat} (h : r < 5183643170835005440) : rungOf Ieee.single (mag64 r) (-1074 + (plc64 r : Int)) < 2139095040 := by
  have h1 := rung_le64 Ieee.single (r := r) (s := 5183643170835005439) (by omega)
  have h2 : rungOf Ieee.single (mag64 5183643170835005439) (-1074 + (plc64 5183643170835005439 : Int)) < 2139095040 := by decide +kernel
  omega
theorem nar_conv {x : Nat} (h : rung64 x < 5183643170835005440) : floatToFloatBits .f64 x .f32 = some (Ieee.single.write (Ieee.double.read x)) := by
  unfold floatToFloatBits
  rw [if_neg (by decide)]
  have e : FloatKind.f64.decode x = Ieee.double.read x := rfl
  rw [e, read_fin64 (by omega)]
  dsimp only
  have e2 : FloatKind.f32.encode (.number (sgn64 x) (mag64 (rung64 x)) (-1074 + (plc64 (rung64 x) : Int))) = Ieee.single.word (sgn64 x) (rungOf Ieee.single (mag64 (rung64 x)) (-1074 + (plc64 (rung64 x) : Int))) := nearest_rung _ _ _ _
  have e3 : Ieee.single.write (.number (sgn64 x) (mag64 (rung64 x)) (-1074 + (plc64 (rung64 x) : Int))) = Ieee.single.word (sgn64 x) (rungOf Ieee.single (mag64 (rung64 x)) (-1074 + (plc64 (rung64 x) : Int))) := nearest_rung _ _ _ _
  rw [e2, e3]
  have hw := nar_lo h
  obtain ⟨s1, s2⟩ := sgn_word32 (sgn64 x) (r := rungOf Ieee.single (mag64 (rung64 x)) (-1074 + (plc64 (rung64 x) : Int))) (by omega)
  have e4 : FloatKind.f32.decode (Ieee.single.word (sgn64 x) (rungOf Ieee.single (mag64 (rung64 x)) (-1074 + (plc64 (rung64 x) : Int)))) = .number _ _ _ := read_fin32 (by rw [s2]; exact hw)
  rw [e4]; rfl
/-- What is too great. -/
theorem nar_big {x : Nat} (h : 5183643170835005440 ≤ rung64 x) (hn : nan64 x = false) : toldD (some (Ieee.double.read x)) = Ieee.single.word (sgn64 x) 2139095040 := by
  rw [nan64_rung] at hn
  have hn := of_decide_eq_false hn
  rcases Nat.lt_or_ge (rung64 x) 9218868437227405312 with g | g
  · rw [read_fin64 g]
    show Ieee.single.nearest _ _ _ = _
    rw [nearest_rung, nar_hi h]
  · rw [read_inf64 (by omega)]
    show Ieee.single.word _ Ieee.single.infRung = _
    rw [inf32]
theorem nar_nan {x : Nat} (h : nan64 x = true) : toldD (some (Ieee.double.read x)) = 2143289344 := by
  obtain ⟨s, t, e⟩ := isNaN_cases (read64_nan h)
  rw [e]; rfl

theorem cmp_ge (a b : Int) : (some (compare a b) == some Ordering.gt || some (compare a b) == some Ordering.eq) = decide (b ≤ a) := by
  rcases Int.lt_trichotomy a b with h | h | h
  · rw [Int.compare_eq_lt.2 h, decide_eq_false (by omega)]; rfl
  · rw [Int.compare_eq_eq.2 h, decide_eq_true (by omega)]; rfl
  · rw [Int.compare_eq_gt.2 h, decide_eq_true (by omega)]; rfl
theorem cmp_le (a b : Int) : (some (compare a b) == some Ordering.lt || some (compare a b) == some Ordering.eq) = decide (a ≤ b) := by
  rcases Int.lt_trichotomy a b with h | h | h
  · rw [Int.compare_eq_lt.2 h, decide_eq_true (by omega)]; rfl
  · rw [Int.compare_eq_eq.2 h, decide_eq_true (by omega)]; rfl
  · rw [Int.compare_eq_gt.2 h, decide_eq_false (by omega)]; rfl
theorem cmp_lt (a b : Int) : (some (compare a b) == some Ordering.lt) = decide (a < b) := by
  rcases Int.lt_trichotomy a b with h | h | h
  · rw [Int.compare_eq_lt.2 h, decide_eq_true h]; rfl
  · rw [Int.compare_eq_eq.2 h, decide_eq_false (by omega)]; rfl
  · rw [Int.compare_eq_gt.2 h, decide_eq_false (by omega)]; rfl
theorem cmp_eq (a b : Int) : (some (compare a b) == some Ordering.eq) = decide (a = b) := by
  rcases Int.lt_trichotomy a b with h | h | h
  · rw [Int.compare_eq_lt.2 h, decide_eq_false (by omega)]; rfl
  · rw [Int.compare_eq_eq.2 h, decide_eq_true h]; rfl
  · rw [Int.compare_eq_gt.2 h, decide_eq_false (by omega)]; rfl
end Go.Proofs.Ytcolhgngiflkhaa
/- What package arith's Wide, Narrow, Div and FromInt return, in the model's own words of floats; what was in memory stays as it was. -/
namespace Go.Proofs.Ytcolhgngiflkhaa
open Go.RowKit

/-- A sample as a binary64. -/
def wideW (a : Nat) : Nat := if nanN a = true then 9221120237041090560 else wideN a
set_option maxHeartbeats 400000 in
theorem cwide_any (a : Nat) (ha : a < 4294967296) (w : World) : Calls Try.prog 58 #[.int .u32 (a : Int)] w fun e w' => e = .returned (.int .u64 (wideW a : Nat)) ∧ Q w w' := by
  cases h : nanN a
  · have l1 := fun w => run_convert_float_float (P := Try.prog) w 101 83 .f32 .f64 a _ (by kernel_rfl) Try.underlying83 (wide_conv h)
    have l2 := f64bits
    have e1 : wideW a = wideN a := by unfold wideW; rw [h]; rfl
    rw [e1]
    clear e1
    go_enter Try.func58, Try.ntmps58
    go_wp2_with fail
    refine (isnan_any a ha _).mono ?_
    rintro e w1 ⟨rfl, q1⟩
    go_wp2_with fail
    refine (number_any a _).mono ?_
    rintro e w2 ⟨rfl, rfl⟩
    go_wp2_with fail
    go_ret
    exact ⟨rfl, q1⟩
  · have e1 : wideW a = 9221120237041090560 := by unfold wideW; rw [h]; rfl
    rw [e1]
    clear e1
    go_enter Try.func58, Try.ntmps58
    go_wp2_with fail
    refine (isnan_any a ha _).mono ?_
    rintro e w1 ⟨rfl, q1⟩
    go_wp2_with fail
    go_ret
    exact ⟨rfl, q1⟩

theorem srung_bound : srung64 5183643170835005440 = 5183643170835005440 := by decide
theorem srung_bound' : srung64 14407015207689781248 = -5183643170835005440 := by decide
theorem order_bound {x : Nat} (h : nan64 x = false) : Ieee.double.order x 5183643170835005440 = some (compare (srung64 x) 5183643170835005440) := by
  rw [nan64_rung] at h
  have h := of_decide_eq_false h
  rw [order_num64 (by omega) (by decide), srung_bound]
theorem order_bound' {x : Nat} (h : nan64 x = false) : Ieee.double.order x 14407015207689781248 = some (compare (srung64 x) (-5183643170835005440)) := by
  rw [nan64_rung] at h
  have h := of_decide_eq_false h
  rw [order_num64 (by omega) (by decide), srung_bound']
/-- How a binary64 stands to the bounds of samples. -/
theorem nar_cases (x : Nat) : (nan64 x = true ∧ Ieee.double.order x 5183643170835005440 = none ∧ Ieee.double.order x 14407015207689781248 = none)
    ∨ (nan64 x = false ∧ 5183643170835005440 ≤ rung64 x ∧ sgn64 x = false ∧ (Ieee.double.order x 5183643170835005440 = some .gt ∨ Ieee.double.order x 5183643170835005440 = some .eq))
    ∨ (nan64 x = false ∧ 5183643170835005440 ≤ rung64 x ∧ sgn64 x = true ∧ Ieee.double.order x 5183643170835005440 = some .lt ∧ (Ieee.double.order x 14407015207689781248 = some .lt ∨ Ieee.double.order x 14407015207689781248 = some .eq))
    ∨ (nan64 x = false ∧ rung64 x < 5183643170835005440 ∧ Ieee.double.order x 5183643170835005440 = some .lt ∧ Ieee.double.order x 14407015207689781248 = some .gt) := by
  cases h : nan64 x
  · rw [order_bound h, order_bound' h]
    have hs : srung64 x = if sgn64 x = true then -(rung64 x : Int) else rung64 x := rfl
    rcases Nat.lt_or_ge (rung64 x) 5183643170835005440 with g | g
    · refine Or.inr (Or.inr (Or.inr ⟨rfl, g, ?_, ?_⟩))
      · congr 1; exact Int.compare_eq_lt.2 (by rw [hs]; split <;> omega)
      · congr 1; exact Int.compare_eq_gt.2 (by rw [hs]; split <;> omega)
    · cases hg : sgn64 x
      · rw [hg] at hs
        have hs : srung64 x = rung64 x := hs
        refine Or.inr (Or.inl ⟨rfl, g, rfl, ?_⟩)
        rcases Nat.lt_or_ge 5183643170835005440 (rung64 x) with k | k
        · left; congr 1; exact Int.compare_eq_gt.2 (by omega)
        · right; congr 1; exact Int.compare_eq_eq.2 (by omega)
      · rw [hg] at hs
        have hs : srung64 x = -(rung64 x : Int) := hs
        refine Or.inr (Or.inr (Or.inl ⟨rfl, g, rfl, ?_, ?_⟩))
        · congr 1; exact Int.compare_eq_lt.2 (by omega)
        · rcases Nat.lt_or_ge 5183643170835005440 (rung64 x) with k | k
          · left; congr 1; exact Int.compare_eq_lt.2 (by omega)
          · right; congr 1; exact Int.compare_eq_eq.2 (by omega)
  · have hn := read64_nan h
    exact Or.inl ⟨rfl, order_nan1 _ hn, order_nan1 _ hn⟩

set_option maxHeartbeats 400000 in
theorem narrowed_any (x : Nat) (w : World) : Calls Try.prog 59 #[.float .f64 x] w fun e w' => e = .returned (.int .u32 (toldD (some (Ieee.double.read x)) : Nat)) ∧ Q w w' := by
  rcases nar_cases x with ⟨h, o1, o2⟩ | ⟨h, g, hs, o1⟩ | ⟨h, g, hs, o1, o2⟩ | ⟨h, g, o1, o2⟩
  · have o1 : FloatKind.f64.format.order x 5183643170835005440 = none := o1
    have o2 : FloatKind.f64.format.order x 14407015207689781248 = none := o2
    have l1 := fun w => run_conv_nan (P := Try.prog) 83 101 .f64 .f32 x (by decide) (by kernel_rfl) Try.underlying101 (read64_nan h) w
    rw [nar_nan h]
    clear h
    go_enter Try.func59, Try.ntmps59
    go_wp2_with fail
    refine (sample_any _ (nanc32 x _).2 _).mono ?_
    rintro e w1 ⟨rfl, q1⟩
    go_wp2_with fail
    go_ret
    exact ⟨ret_int (by rw [madeN_nan (nanc32 x _).1]), ((Q.refl _).drew.trans q1)⟩
  · rw [nar_big g h, hs, show Ieee.single.word false 2139095040 = 2139095040 from rfl]
    clear h g hs
    rcases o1 with o1 | o1
    · have o1 : FloatKind.f64.format.order x 5183643170835005440 = some .gt := o1
      go_enter Try.func59, Try.ntmps59
      go_wp2_with fail
      go_ret
      exact ⟨rfl, Q.refl _⟩
    · have o1 : FloatKind.f64.format.order x 5183643170835005440 = some .eq := o1
      go_enter Try.func59, Try.ntmps59
      go_wp2_with fail
      go_ret
      exact ⟨rfl, Q.refl _⟩
  · rw [nar_big g h, hs, show Ieee.single.word true 2139095040 = 4286578688 from rfl]
    clear h g hs
    have o1 : FloatKind.f64.format.order x 5183643170835005440 = some .lt := o1
    rcases o2 with o2 | o2
    · have o2 : FloatKind.f64.format.order x 14407015207689781248 = some .lt := o2
      go_enter Try.func59, Try.ntmps59
      go_wp2_with fail
      go_ret
      exact ⟨rfl, Q.refl _⟩
    · have o2 : FloatKind.f64.format.order x 14407015207689781248 = some .eq := o2
      go_enter Try.func59, Try.ntmps59
      go_wp2_with fail
      go_ret
      exact ⟨rfl, Q.refl _⟩
  · have o1 : FloatKind.f64.format.order x 5183643170835005440 = some .lt := o1
    have o2 : FloatKind.f64.format.order x 14407015207689781248 = some .gt := o2
    have l1 := fun w => run_convert_float_float (P := Try.prog) w 83 101 .f64 .f32 x _ (by kernel_rfl) Try.underlying101 (nar_conv g)
    have hn : Hid ((Ieee.double.read x).isNaN = false) := read64_num h
    clear h g
    go_enter Try.func59, Try.ntmps59
    go_wp2_with fail
    refine (sample_any _ (write32_lt _) _).mono ?_
    rintro e w1 ⟨rfl, q1⟩
    go_wp2_with fail
    go_ret
    exact ⟨ret_int (by rw [madeN_of (nanN_write hn.out), toldD_some hn.out]), q1⟩

set_option maxHeartbeats 400000 in
theorem cnarrow_any (x : Nat) (w : World) : Calls Try.prog 53 #[.int .u64 (x : Int)] w fun e w' => e = .returned (.int .u32 (toldD (some (Ieee.double.read x)) : Nat)) ∧ Q w w' := by
  have l1 := f64from
  go_enter Try.func53, Try.ntmps53
  go_wp2_with fail
  refine (narrowed_any x _).mono ?_
  rintro e w1 ⟨rfl, q1⟩
  go_wp2_with fail
  go_ret
  exact ⟨rfl, q1⟩

theorem ord_zero32 (b : Nat) : (Ieee.single.order b 0 == some Ordering.eq) = decide (rung32 b = 0) := by
  cases h : nanN b
  · rw [nanN_rung] at h
    have h := of_decide_eq_false h
    rw [order_num32 (by omega) (by decide), cmp_eq, show srung32 0 = 0 from by decide]
    unfold srung32
    rw [decide_eq_decide]
    split <;> omega
  · rw [order_nan1 _ (read32_nan h)]
    rw [nanN_rung] at h
    have h := of_decide_eq_true h
    rw [decide_eq_false (by omega)]; rfl

theorem nat_xor (n : Nat) (h : n < 4294967296) : n ^^^ 2147483648 = (n + 2147483648) % 4294967296 := by
  have e1 : (n ^^^ 2147483648) / 2 ^ 31 = n / 2 ^ 31 ^^^ 1 := by rw [Nat.xor_div_two_pow]
  have e2 : (n ^^^ 2147483648) % 2 ^ 31 = n % 2 ^ 31 := by rw [Nat.xor_mod_two_pow]; simp
  have e3 := Nat.div_add_mod (n ^^^ 2147483648) (2 ^ 31)
  rw [e1, e2] at e3
  rcases Nat.lt_or_ge n 2147483648 with g | g
  · have e4 : n / 2 ^ 31 = 0 := by omega
    rw [e4] at e3
    have e5 : (0 ^^^ 1 : Nat) = 1 := rfl
    rw [e5] at e3
    omega
  · have e4 : n / 2 ^ 31 = 1 := by omega
    rw [e4] at e3
    have e5 : (1 ^^^ 1 : Nat) = 0 := rfl
    rw [e5] at e3
    omega
theorem xor_0 (a : Int) (h0 : 0 ≤ a) (h1 : a ≤ 4294967295) : bits .xor .u32 a 0 = a := by
  go_bits2
  rw [Nat.xor_zero]; omega
theorem xor_lo (a : Int) (h0 : 0 ≤ a) (h1 : a < 2147483648) : bits .xor .u32 a 2147483648 = a + 2147483648 := by
  go_bits2
  rw [nat_xor _ (by omega)]; omega
theorem xor_hi (a : Int) (h0 : 2147483648 ≤ a) (h1 : a ≤ 4294967295) : bits .xor .u32 a 2147483648 = a - 2147483648 := by
  go_bits2
  rw [nat_xor _ (by omega)]; omega

/-- A number divided by 0. -/
def noughtV (a : Nat) (s : Bool) : Nat := if nanN a = true ∨ rung32 a = 0 then 2143289344 else Ieee.single.word (sgn32 a ^^ s) 2139095040
theorem sgn_hi {a : Nat} (ha : a < 4294967296) : sgn32 a = decide (2147483648 ≤ a) := by
  unfold sgn32
  by_cases h : 2147483648 ≤ a
  · rw [decide_eq_true h, beq_iff_eq]; omega
  · rw [decide_eq_false h, beq_eq_false_iff_ne]; omega
theorem nought_bits {a : Nat} (ha : a < 4294967296) (s : Bool) :
    bits .or .u32 2139095040 (bits .and .u32 (bits .xor .u32 (a : Int) (if s = true then 2147483648 else 0)) 2147483648) = ((Ieee.single.word (sgn32 a ^^ s) 2139095040 : Nat) : Int) := by
  rw [sgn_hi ha]
  by_cases h : 2147483648 ≤ a
  · rw [decide_eq_true h]
    cases s
    · show bits .or .u32 2139095040 (bits .and .u32 (bits .xor .u32 (a : Int) 0) 2147483648) = _
      rw [xor_0 _ (by omega) (by omega), and_hi _ (by omega) (by omega)]; decide
    · show bits .or .u32 2139095040 (bits .and .u32 (bits .xor .u32 (a : Int) 2147483648) 2147483648) = _
      rw [xor_hi _ (by omega) (by omega), and_lo _ (by omega) (by omega)]; decide
  · rw [decide_eq_false h]
    cases s
    · show bits .or .u32 2139095040 (bits .and .u32 (bits .xor .u32 (a : Int) 0) 2147483648) = _
      rw [xor_0 _ (by omega) (by omega), and_lo _ (by omega) (by omega)]; decide
    · show bits .or .u32 2139095040 (bits .and .u32 (bits .xor .u32 (a : Int) 2147483648) 2147483648) = _
      rw [xor_lo _ (by omega) (by omega), and_hi _ (by omega) (by omega)]; decide

theorem quo_nought {a b : Nat} (hb : rung32 b = 0) : toldD ((Ieee.single.read a).quotient 25 (Ieee.single.read b)) = noughtV a (sgn32 b) := by
  have e0 : Ieee.single.read b = .number (sgn32 b) 0 (-149) := by
    rw [read_fin32 (by omega), hb]; rfl
  rw [e0]
  unfold noughtV
  cases h : nanN a
  · have h' := h
    rw [nanN_rung] at h'
    have h' := of_decide_eq_false h'
    rcases Nat.lt_or_ge (rung32 a) 2139095040 with g | g
    · rw [read_fin32 g]
      by_cases z : rung32 a = 0
      · rw [if_pos (Or.inr z), z]; rfl
      · rw [if_neg (by simp; exact z)]
        have hm : mag32 (rung32 a) ≠ 0 := by
          intro hm
          have := val_pos32 (r := rung32 a) (by omega)
          unfold val32 at this
          rw [hm, Nat.zero_mul] at this
          omega
        have e2 : (Ieee.Datum.number (sgn32 a) (mag32 (rung32 a)) (-149 + (plc32 (rung32 a) : Int))).quotient 25 (.number (sgn32 b) 0 (-149)) = some (.infinity (sgn32 a ^^ sgn32 b)) := by
          simp [Ieee.Datum.quotient, hm]
        rw [e2]
        show Ieee.single.word _ Ieee.single.infRung = _
        rw [inf32]
    · rw [read_inf32 (by omega), if_neg (by simp; omega)]
      show Ieee.single.word _ Ieee.single.infRung = _
      rw [inf32]
  · rw [if_pos (Or.inl rfl)]
    obtain ⟨s, t, e⟩ := isNaN_cases (read32_nan h)
    rw [e]; rfl

end Go.Proofs.Ytcolhgngiflkhaa
/- Sums: one behind the other, by halves, with what was lost carried along: what the program tells. -/
namespace Go.Proofs.Ytcolhgngiflkhaa
open Go.RowKit
set_option linter.unusedVariables false
set_option linter.unusedSimpArgs false

/-- A sum, rounded to binary32. -/
def addV (a b : Nat) : Nat := toldD ((Ieee.single.read a).sum (Ieee.single.read b))
def subV (a b : Nat) : Nat := toldD ((Ieee.single.read a).sum (Ieee.single.read b).opposite)
def leftV (l : List Nat) : Nat := if l = [] then 0 else l.foldl addV 2147483648
theorem take_succ_foldl {α β : Type} (f : β → α → β) (z : β) (l : List α) (d : α) {i : Nat} (h : i < l.length) : (l.take (i + 1)).foldl f z = f ((l.take i).foldl f z) (l.getD i d) := by
  rw [List.take_succ_eq_append_getElem h, List.foldl_append, List.getD_eq_getElem?_getD, List.getElem?_eq_getElem h]; rfl
/-- By halves, so many times at most. -/
def pairsF : Nat → List Nat → Nat
  | 0, l => if l.length = 0 then 0 else addV 2147483648 (l.getD 0 0)
  | f + 1, l => if l.length = 0 then 0 else if l.length = 1 then addV 2147483648 (l.getD 0 0) else addV (pairsF f (l.take (l.length / 2))) (pairsF f (l.drop (l.length / 2)))
theorem pairsF_more : ∀ (f : Nat) (l : List Nat), l.length ≤ f + 1 → pairsF (f + 1) l = pairsF f l := by
  intro f
  induction f with
  | zero =>
    intro l h
    unfold pairsF
    by_cases h0 : l.length = 0
    · rw [if_pos h0, if_pos h0]
    · rw [if_neg h0, if_neg h0, if_pos (by omega)]
  | succ f ih =>
    intro l h
    show (if l.length = 0 then 0 else if l.length = 1 then addV 2147483648 (l.getD 0 0) else addV (pairsF (f + 1) (l.take (l.length / 2))) (pairsF (f + 1) (l.drop (l.length / 2)))) = (if l.length = 0 then 0 else if l.length = 1 then addV 2147483648 (l.getD 0 0) else addV (pairsF f (l.take (l.length / 2))) (pairsF f (l.drop (l.length / 2))))
    by_cases h0 : l.length = 0
    · rw [if_pos h0, if_pos h0]
    · by_cases h1 : l.length = 1
      · rw [if_neg h0, if_neg h0, if_pos h1, if_pos h1]
      · rw [if_neg h0, if_neg h0, if_neg h1, if_neg h1, ih _ (by rw [List.length_take]; omega), ih _ (by rw [List.length_drop]; omega)]
theorem pairsF_any (l : List Nat) : ∀ (k f : Nat), l.length ≤ f + 1 → pairsF (f + k) l = pairsF f l := by
  intro k
  induction k with
  | zero => exact fun f _ => rfl
  | succ k ih =>
    intro f h
    rw [show f + (k + 1) = (f + k) + 1 by omega, pairsF_more (f + k) l (by omega), ih f h]
def pairsV (l : List Nat) : Nat := pairsF l.length l
theorem pairsV_none {l : List Nat} (h : l.length = 0) : pairsV l = 0 := by
  unfold pairsV
  rw [h]
  show (if l.length = 0 then 0 else _) = 0
  rw [if_pos h]
theorem pairsV_one {l : List Nat} (h : l.length = 1) : pairsV l = addV 2147483648 (l.getD 0 0) := by
  unfold pairsV
  rw [h]
  show (if l.length = 0 then 0 else if l.length = 1 then addV 2147483648 (l.getD 0 0) else _) = _
  rw [if_neg (by omega), if_pos h]
theorem pairsV_many {l : List Nat} (h : 2 ≤ l.length) : pairsV l = addV (pairsV (l.take (l.length / 2))) (pairsV (l.drop (l.length / 2))) := by
  have fit : ∀ m : List Nat, m.length ≤ l.length - 1 → pairsF (l.length - 1) m = pairsV m := fun m hm => by
    unfold pairsV
    have := pairsF_any m (l.length - 1 - m.length) m.length (by omega)
    rw [← this]
    congr 1
    omega
  have e : pairsV l = pairsF (l.length - 1 + 1) l := by unfold pairsV; congr 1; omega
  rw [e]
  show (if l.length = 0 then 0 else if l.length = 1 then addV 2147483648 (l.getD 0 0) else addV (pairsF (l.length - 1) (l.take (l.length / 2))) (pairsF (l.length - 1) (l.drop (l.length / 2)))) = _
  rw [if_neg (by omega), if_neg (by omega), fit _ (by rw [List.length_take]; omega), fit _ (by rw [List.length_drop]; omega)]
theorem UIs.take {w : World} {g o : Nat} {l : List Nat} (h : UIs w g o l) (k : Nat) : UIs w g o (l.take k) := fun i hi => by
  rw [List.length_take] at hi
  have := h i (by omega)
  rw [this]
  congr 3
  rw [List.getD_eq_getElem?_getD, List.getD_eq_getElem?_getD, List.getElem?_take, if_pos (by omega)]
theorem UIs.drop {w : World} {g o : Nat} {l : List Nat} (h : UIs w g o l) (k : Nat) : UIs w g (o + k) (l.drop k) := fun i hi => by
  rw [List.length_drop] at hi
  have := h (k + i) (by omega)
  rw [show o + k + i = o + (k + i) by omega, this]
  congr 3
  rw [List.getD_eq_getElem?_getD, List.getD_eq_getElem?_getD, List.getElem?_drop]
theorem run_slice_to {ρ : Operand → Value} {x : World} {d : Option Tmp} {ty : TypeId} {ps : String} {af : Array Edge} {g : Option (Nat × Bool)} {j k gb ob nn cc kk : Nat} (h : ρ (.tmp j) = .slice (some ⟨gb, ob, none⟩) nn cc) (h' : ρ (.tmp k) = .int .i64 (kk : Nat)) (l1 : kk < nn) (l2 : nn ≤ cc) : (execOp ρ { dst := d, op := .slice 22 (.tmp j) none (some (.tmp k)) none, type := ty, pos := ps, after := af, guard := g }).run Try.prog x = .ok (.value (.slice (some ⟨gb, ob, none⟩) kk cc)) x := by
  simp [execOp, h, h', go_sem]
  intro h4
  omega
theorem run_slice_from {ρ : Operand → Value} {x : World} {d : Option Tmp} {ty : TypeId} {ps : String} {af : Array Edge} {g : Option (Nat × Bool)} {j k gb ob nn cc kk : Nat} (h : ρ (.tmp j) = .slice (some ⟨gb, ob, none⟩) nn cc) (h' : ρ (.tmp k) = .int .i64 (kk : Nat)) (l1 : kk < nn) (l2 : nn ≤ cc) : (execOp ρ { dst := d, op := .slice 22 (.tmp j) (some (.tmp k)) none none, type := ty, pos := ps, after := af, guard := g }).run Try.prog x = .ok (.value (.slice (some ⟨gb, ob + kk, none⟩) (nn - kk) (cc - kk))) x := by
  simp [execOp, h, h', go_sem]
  rw [if_pos (Nat.le_of_lt l1), if_neg (by omega)]
def oPa_0 : Oper := { dst := some 17, op := .move (.tmp 0), type := 22, pos := "sums.go:62", after := #[], guard := none }
def oPa_1 : Oper := { dst := some 18, op := .move (.tmp 3), type := 3, pos := "sums.go:62", after := #[], guard := none }
def oPa_2 : Oper := { dst := some 19, op := .slice 22 (.tmp 17) none (some (.tmp 18)) none, type := 22, pos := "sums.go:62", after := #[⟨0, .data⟩, ⟨1, .data⟩], guard := none }
def oPa_4 : Oper := { dst := some 21, op := .move (.tmp 0), type := 22, pos := "sums.go:62", after := #[], guard := none }
def oPa_5 : Oper := { dst := some 22, op := .move (.tmp 3), type := 3, pos := "sums.go:62", after := #[], guard := none }
def oPa_6 : Oper := { dst := some 23, op := .slice 22 (.tmp 21) (some (.tmp 22)) none none, type := 22, pos := "sums.go:62", after := #[⟨4, .data⟩, ⟨5, .data⟩], guard := none }
def oPa_9 : Oper := { dst := some 2, op := .assign (.tmp 25), type := 31, pos := "sums.go:62", after := #[⟨8, .data⟩, ⟨8, .chain⟩, ⟨0, .phase⟩, ⟨1, .phase⟩, ⟨2, .phase⟩, ⟨3, .phase⟩, ⟨4, .phase⟩, ⟨5, .phase⟩, ⟨6, .phase⟩, ⟨7, .phase⟩, ⟨8, .phase⟩], guard := none }
def sPa : List Nat := [17, 18, 19, 20, 21, 22, 23, 24, 25, 2]
def spPa (gb ob nn cc kk A B : Nat) : List Spec := [spV (.slice (some ⟨gb, ob, none⟩) nn cc), spV (.int .i64 (kk : Nat)), spV (.slice (some ⟨gb, ob, none⟩) kk cc), spV (.int .u32 (A : Nat)), spV (.slice (some ⟨gb, ob, none⟩) nn cc), spV (.int .i64 (kk : Nat)), spV (.slice (some ⟨gb, ob + kk, none⟩) (nn - kk) (cc - kk)), spV (.int .u32 (B : Nat)), spV (.int .u32 (addV A B : Nat)), spV (.int .u32 (addV A B : Nat))]
def skPa (i : Nat) : Bool := [].contains i
theorem hskPa {gb ob nn cc kk A B : Nat} : ∀ (i : Nat) (x : World), skPa i = true → specAt (spPa gb ob nn cc kk A B) i undef x := by
  intro i x h
  cases h
/-- With what was lost carried along. -/
def kahS (p : Nat × Nat) (s : Nat) : Nat × Nat := (addV p.1 (subV s p.2), subV (subV (addV p.1 (subV s p.2)) p.1) (subV s p.2))
def kahV (l : List Nat) : Nat := if l = [] then 0 else ((l.drop 1).foldl kahS (addV 2147483648 (l.getD 0 0), 0)).1
end Go.Proofs.Ytcolhgngiflkhaa

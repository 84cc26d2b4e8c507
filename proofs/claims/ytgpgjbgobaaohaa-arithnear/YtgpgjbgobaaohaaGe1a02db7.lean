/- What package arith's Wide, Narrow, Div and FromInt return, in the model's own words of floats; what was in memory stays as it was. -/
import Derived.Test.YtgpgjbgobaaohaaGcaa5bdc2
import Derived.Test.YtgpgjbgobaaohaaG0ad57859
namespace Go.Proofs.Ytgpgjbgobaaohaa
open Go.RowKit

/-- A sample as a binary64. -/
def wideW (a : Nat) : Nat := if nanN a = true then 9221120237041090560 else wideN a
set_option maxHeartbeats 400000 in
theorem cwide_any (a : Nat) (ha : a < 4294967296) (w : World) : Calls Try.prog 33 #[.int .u32 (a : Int)] w fun e w' => e = .returned (.int .u64 (wideW a : Nat)) ∧ Q w w' := by
  cases h : nanN a
  · have l1 := fun w => run_convert_float_float (P := Try.prog) w 60 62 .f32 .f64 a _ (by kernel_rfl) Try.underlying62 (wide_conv h)
    have l2 := f64bits
    have e1 : wideW a = wideN a := by unfold wideW; rw [h]; rfl
    rw [e1]
    clear e1
    go_enter Try.func33, Try.ntmps33
    go_wp2_with fail
    refine (isnan_any a ha _).mono ?_
    rintro e w1 ⟨rfl, q1⟩
    go_wp2_with fail
    refine (number_any a _).mono ?_
    rintro e w2 ⟨rfl, rfl⟩
    go_wp2_with fail
    go_ret
    exact ⟨rfl, q1⟩
  · have e1 : wideW a = 9221120237041090560 := by unfold wideW; rw [h]; rfl
    rw [e1]
    clear e1
    go_enter Try.func33, Try.ntmps33
    go_wp2_with fail
    refine (isnan_any a ha _).mono ?_
    rintro e w1 ⟨rfl, q1⟩
    go_wp2_with fail
    go_ret
    exact ⟨rfl, q1⟩

theorem srung_bound : srung64 5183643170835005440 = 5183643170835005440 := by decide
theorem srung_bound' : srung64 14407015207689781248 = -5183643170835005440 := by decide
theorem order_bound {x : Nat} (h : nan64 x = false) : Ieee.double.order x 5183643170835005440 = some (compare (srung64 x) 5183643170835005440) := by
  rw [nan64_rung] at h
  have h := of_decide_eq_false h
  rw [order_num64 (by omega) (by decide), srung_bound]
theorem order_bound' {x : Nat} (h : nan64 x = false) : Ieee.double.order x 14407015207689781248 = some (compare (srung64 x) (-5183643170835005440)) := by
  rw [nan64_rung] at h
  have h := of_decide_eq_false h
  rw [order_num64 (by omega) (by decide), srung_bound']
/-- How a binary64 stands to the bounds of samples. -/
theorem nar_cases (x : Nat) : (nan64 x = true ∧ Ieee.double.order x 5183643170835005440 = none ∧ Ieee.double.order x 14407015207689781248 = none)
    ∨ (nan64 x = false ∧ 5183643170835005440 ≤ rung64 x ∧ sgn64 x = false ∧ (Ieee.double.order x 5183643170835005440 = some .gt ∨ Ieee.double.order x 5183643170835005440 = some .eq))
    ∨ (nan64 x = false ∧ 5183643170835005440 ≤ rung64 x ∧ sgn64 x = true ∧ Ieee.double.order x 5183643170835005440 = some .lt ∧ (Ieee.double.order x 14407015207689781248 = some .lt ∨ Ieee.double.order x 14407015207689781248 = some .eq))
    ∨ (nan64 x = false ∧ rung64 x < 5183643170835005440 ∧ Ieee.double.order x 5183643170835005440 = some .lt ∧ Ieee.double.order x 14407015207689781248 = some .gt) := by
  cases h : nan64 x
  · rw [order_bound h, order_bound' h]
    have hs : srung64 x = if sgn64 x = true then -(rung64 x : Int) else rung64 x := rfl
    rcases Nat.lt_or_ge (rung64 x) 5183643170835005440 with g | g
    · refine Or.inr (Or.inr (Or.inr ⟨rfl, g, ?_, ?_⟩))
      · congr 1; exact Int.compare_eq_lt.2 (by rw [hs]; split <;> omega)
      · congr 1; exact Int.compare_eq_gt.2 (by rw [hs]; split <;> omega)
    · cases hg : sgn64 x
      · rw [hg] at hs
        have hs : srung64 x = rung64 x := hs
        refine Or.inr (Or.inl ⟨rfl, g, rfl, ?_⟩)
        rcases Nat.lt_or_ge 5183643170835005440 (rung64 x) with k | k
        · left; congr 1; exact Int.compare_eq_gt.2 (by omega)
        · right; congr 1; exact Int.compare_eq_eq.2 (by omega)
      · rw [hg] at hs
        have hs : srung64 x = -(rung64 x : Int) := hs
        refine Or.inr (Or.inr (Or.inl ⟨rfl, g, rfl, ?_, ?_⟩))
        · congr 1; exact Int.compare_eq_lt.2 (by omega)
        · rcases Nat.lt_or_ge 5183643170835005440 (rung64 x) with k | k
          · left; congr 1; exact Int.compare_eq_lt.2 (by omega)
          · right; congr 1; exact Int.compare_eq_eq.2 (by omega)
  · have hn := read64_nan h
    exact Or.inl ⟨rfl, order_nan1 _ hn, order_nan1 _ hn⟩

set_option maxHeartbeats 400000 in
theorem narrowed_any (x : Nat) (w : World) : Calls Try.prog 44 #[.float .f64 x] w fun e w' => e = .returned (.int .u32 (toldD (some (Ieee.double.read x)) : Nat)) ∧ Q w w' := by
  rcases nar_cases x with ⟨h, o1, o2⟩ | ⟨h, g, hs, o1⟩ | ⟨h, g, hs, o1, o2⟩ | ⟨h, g, o1, o2⟩
  · have o1 : FloatKind.f64.format.order x 5183643170835005440 = none := o1
    have o2 : FloatKind.f64.format.order x 14407015207689781248 = none := o2
    have l1 := fun w => run_conv_nan (P := Try.prog) 62 60 .f64 .f32 x (by decide) (by kernel_rfl) Try.underlying60 (read64_nan h) w
    rw [nar_nan h]
    clear h
    go_enter Try.func44, Try.ntmps44
    go_wp2_with fail
    refine (sample_any _ (nanc32 x _).2 _).mono ?_
    rintro e w1 ⟨rfl, q1⟩
    go_wp2_with fail
    go_ret
    exact ⟨ret_int (by rw [madeN_nan (nanc32 x _).1]), ((Q.refl _).drew.trans q1)⟩
  · rw [nar_big g h, hs, show Ieee.single.word false 2139095040 = 2139095040 from rfl]
    clear h g hs
    rcases o1 with o1 | o1
    · have o1 : FloatKind.f64.format.order x 5183643170835005440 = some .gt := o1
      go_enter Try.func44, Try.ntmps44
      go_wp2_with fail
      go_ret
      exact ⟨rfl, Q.refl _⟩
    · have o1 : FloatKind.f64.format.order x 5183643170835005440 = some .eq := o1
      go_enter Try.func44, Try.ntmps44
      go_wp2_with fail
      go_ret
      exact ⟨rfl, Q.refl _⟩
  · rw [nar_big g h, hs, show Ieee.single.word true 2139095040 = 4286578688 from rfl]
    clear h g hs
    have o1 : FloatKind.f64.format.order x 5183643170835005440 = some .lt := o1
    rcases o2 with o2 | o2
    · have o2 : FloatKind.f64.format.order x 14407015207689781248 = some .lt := o2
      go_enter Try.func44, Try.ntmps44
      go_wp2_with fail
      go_ret
      exact ⟨rfl, Q.refl _⟩
    · have o2 : FloatKind.f64.format.order x 14407015207689781248 = some .eq := o2
      go_enter Try.func44, Try.ntmps44
      go_wp2_with fail
      go_ret
      exact ⟨rfl, Q.refl _⟩
  · have o1 : FloatKind.f64.format.order x 5183643170835005440 = some .lt := o1
    have o2 : FloatKind.f64.format.order x 14407015207689781248 = some .gt := o2
    have l1 := fun w => run_convert_float_float (P := Try.prog) w 62 60 .f64 .f32 x _ (by kernel_rfl) Try.underlying60 (nar_conv g)
    have hn : Hid ((Ieee.double.read x).isNaN = false) := read64_num h
    clear h g
    go_enter Try.func44, Try.ntmps44
    go_wp2_with fail
    refine (sample_any _ (write32_lt _) _).mono ?_
    rintro e w1 ⟨rfl, q1⟩
    go_wp2_with fail
    go_ret
    exact ⟨ret_int (by rw [madeN_of (nanN_write hn.out), toldD_some hn.out]), q1⟩

set_option maxHeartbeats 400000 in
theorem cnarrow_any (x : Nat) (w : World) : Calls Try.prog 34 #[.int .u64 (x : Int)] w fun e w' => e = .returned (.int .u32 (toldD (some (Ieee.double.read x)) : Nat)) ∧ Q w w' := by
  have l1 := f64from
  go_enter Try.func34, Try.ntmps34
  go_wp2_with fail
  refine (narrowed_any x _).mono ?_
  rintro e w1 ⟨rfl, q1⟩
  go_wp2_with fail
  go_ret
  exact ⟨rfl, q1⟩

theorem ord_zero32 (b : Nat) : (Ieee.single.order b 0 == some Ordering.eq) = decide (rung32 b = 0) := by
  cases h : nanN b
  · rw [nanN_rung] at h
    have h := of_decide_eq_false h
    rw [order_num32 (by omega) (by decide), cmp_eq, show srung32 0 = 0 from by decide]
    unfold srung32
    rw [decide_eq_decide]
    split <;> omega
  · rw [order_nan1 _ (read32_nan h)]
    rw [nanN_rung] at h
    have h := of_decide_eq_true h
    rw [decide_eq_false (by omega)]; rfl

theorem nat_xor (n : Nat) (h : n < 4294967296) : n ^^^ 2147483648 = (n + 2147483648) % 4294967296 := by
  have e1 : (n ^^^ 2147483648) / 2 ^ 31 = n / 2 ^ 31 ^^^ 1 := by rw [Nat.xor_div_two_pow]
  have e2 : (n ^^^ 2147483648) % 2 ^ 31 = n % 2 ^ 31 := by rw [Nat.xor_mod_two_pow]; simp
  have e3 := Nat.div_add_mod (n ^^^ 2147483648) (2 ^ 31)
  rw [e1, e2] at e3
  rcases Nat.lt_or_ge n 2147483648 with g | g
  · have e4 : n / 2 ^ 31 = 0 := by omega
    rw [e4] at e3
    have e5 : (0 ^^^ 1 : Nat) = 1 := rfl
    rw [e5] at e3
    omega
  · have e4 : n / 2 ^ 31 = 1 := by omega
    rw [e4] at e3
    have e5 : (1 ^^^ 1 : Nat) = 0 := rfl
    rw [e5] at e3
    omega
theorem xor_0 (a : Int) (h0 : 0 ≤ a) (h1 : a ≤ 4294967295) : bits .xor .u32 a 0 = a := by
  go_bits2
  rw [Nat.xor_zero]; omega
theorem xor_lo (a : Int) (h0 : 0 ≤ a) (h1 : a < 2147483648) : bits .xor .u32 a 2147483648 = a + 2147483648 := by
  go_bits2
  rw [nat_xor _ (by omega)]; omega
theorem xor_hi (a : Int) (h0 : 2147483648 ≤ a) (h1 : a ≤ 4294967295) : bits .xor .u32 a 2147483648 = a - 2147483648 := by
  go_bits2
  rw [nat_xor _ (by omega)]; omega

/-- A number divided by 0. -/
def noughtV (a : Nat) (s : Bool) : Nat := if nanN a = true ∨ rung32 a = 0 then 2143289344 else Ieee.single.word (sgn32 a ^^ s) 2139095040
theorem sgn_hi {a : Nat} (ha : a < 4294967296) : sgn32 a = decide (2147483648 ≤ a) := by
  unfold sgn32
  by_cases h : 2147483648 ≤ a
  · rw [decide_eq_true h, beq_iff_eq]; omega
  · rw [decide_eq_false h, beq_eq_false_iff_ne]; omega
theorem nought_bits {a : Nat} (ha : a < 4294967296) (s : Bool) :
    bits .or .u32 2139095040 (bits .and .u32 (bits .xor .u32 (a : Int) (if s = true then 2147483648 else 0)) 2147483648) = ((Ieee.single.word (sgn32 a ^^ s) 2139095040 : Nat) : Int) := by
  rw [sgn_hi ha]
  by_cases h : 2147483648 ≤ a
  · rw [decide_eq_true h]
    cases s
    · show bits .or .u32 2139095040 (bits .and .u32 (bits .xor .u32 (a : Int) 0) 2147483648) = _
      rw [xor_0 _ (by omega) (by omega), and_hi _ (by omega) (by omega)]; decide
    · show bits .or .u32 2139095040 (bits .and .u32 (bits .xor .u32 (a : Int) 2147483648) 2147483648) = _
      rw [xor_hi _ (by omega) (by omega), and_lo _ (by omega) (by omega)]; decide
  · rw [decide_eq_false h]
    cases s
    · show bits .or .u32 2139095040 (bits .and .u32 (bits .xor .u32 (a : Int) 0) 2147483648) = _
      rw [xor_0 _ (by omega) (by omega), and_lo _ (by omega) (by omega)]; decide
    · show bits .or .u32 2139095040 (bits .and .u32 (bits .xor .u32 (a : Int) 2147483648) 2147483648) = _
      rw [xor_lo _ (by omega) (by omega), and_hi _ (by omega) (by omega)]; decide

set_option maxHeartbeats 400000 in
theorem nought_any (a : Nat) (ha : a < 4294967296) (s : Bool) (w : World) : Calls Try.prog 51 #[.int .u32 (a : Int), .int .u32 (if s = true then 2147483648 else 0)] w fun e w' => e = .returned (.int .u32 (noughtV a s : Nat)) ∧ Q w w' := by
  obtain ⟨B, hB⟩ : ∃ B : Int, B = if s = true then 2147483648 else 0 := ⟨_, rfl⟩
  have hb := nought_bits ha s
  rw [← hB] at hb ⊢
  clear hB
  have hz : (FloatKind.f32.format.order a 0 == some Ordering.eq) = decide (rung32 a = 0) := ord_zero32 a
  cases h : nanN a
  · by_cases g : rung32 a = 0
    · have e1 : noughtV a s = 2143289344 := by unfold noughtV; rw [if_pos (Or.inr g)]
      rw [e1]
      rw [decide_eq_true g] at hz
      clear e1 g
      go_enter Try.func51, Try.ntmps51
      go_wp2_with fail
      refine (isnan_any a ha _).mono ?_
      rintro e w1 ⟨rfl, q1⟩
      go_wp2_with fail
      refine (number_any a _).mono ?_
      rintro e w2 ⟨rfl, rfl⟩
      go_wp2_with fail
      go_ret
      exact ⟨rfl, q1⟩
    · have e1 : noughtV a s = Ieee.single.word (sgn32 a ^^ s) 2139095040 := by unfold noughtV; rw [if_neg (by rw [h]; simp; exact g)]
      rw [e1]
      rw [decide_eq_false g] at hz
      clear e1 g
      go_enter Try.func51, Try.ntmps51
      go_wp2_with fail
      refine (isnan_any a ha _).mono ?_
      rintro e w1 ⟨rfl, q1⟩
      go_wp2_with fail
      refine (number_any a _).mono ?_
      rintro e w2 ⟨rfl, rfl⟩
      go_wp2_with fail
      go_ret
      exact ⟨rfl, q1⟩
  · have e1 : noughtV a s = 2143289344 := by unfold noughtV; rw [if_pos (Or.inl h)]
    rw [e1]
    clear e1 hz
    go_enter Try.func51, Try.ntmps51
    go_wp2_with fail
    refine (isnan_any a ha _).mono ?_
    rintro e w1 ⟨rfl, q1⟩
    go_wp2_with fail
    go_ret
    exact ⟨rfl, q1⟩

theorem quo_nought {a b : Nat} (hb : rung32 b = 0) : toldD ((Ieee.single.read a).quotient 25 (Ieee.single.read b)) = noughtV a (sgn32 b) := by
  have e0 : Ieee.single.read b = .number (sgn32 b) 0 (-149) := by
    rw [read_fin32 (by omega), hb]; rfl
  rw [e0]
  unfold noughtV
  cases h : nanN a
  · have h' := h
    rw [nanN_rung] at h'
    have h' := of_decide_eq_false h'
    rcases Nat.lt_or_ge (rung32 a) 2139095040 with g | g
    · rw [read_fin32 g]
      by_cases z : rung32 a = 0
      · rw [if_pos (Or.inr z), z]; rfl
      · rw [if_neg (by simp; exact z)]
        have hm : mag32 (rung32 a) ≠ 0 := by
          intro hm
          have := val_pos32 (r := rung32 a) (by omega)
          unfold val32 at this
          rw [hm, Nat.zero_mul] at this
          omega
        have e2 : (Ieee.Datum.number (sgn32 a) (mag32 (rung32 a)) (-149 + (plc32 (rung32 a) : Int))).quotient 25 (.number (sgn32 b) 0 (-149)) = some (.infinity (sgn32 a ^^ sgn32 b)) := by
          simp [Ieee.Datum.quotient, hm]
        rw [e2]
        show Ieee.single.word _ Ieee.single.infRung = _
        rw [inf32]
    · rw [read_inf32 (by omega), if_neg (by simp; omega)]
      show Ieee.single.word _ Ieee.single.infRung = _
      rw [inf32]
  · rw [if_pos (Or.inl rfl)]
    obtain ⟨s, t, e⟩ := isNaN_cases (read32_nan h)
    rw [e]; rfl

set_option maxHeartbeats 400000 in
theorem cdiv_any (a b : Nat) (ha : a < 4294967296) (hb : b < 4294967296) (w : World) : Calls Try.prog 25 #[.int .u32 (a : Int), .int .u32 (b : Int)] w fun e w' => e = .returned (.int .u32 (toldD ((Ieee.single.read a).quotient 25 (Ieee.single.read b)) : Nat)) ∧ Q w w' := by
  have hz : (FloatKind.f32.format.order b 0 == some Ordering.eq) = decide (rung32 b = 0) := ord_zero32 b
  by_cases g : rung32 b = 0
  · rw [quo_nought g]
    rw [decide_eq_true g] at hz
    have eb : (b : Int) = if sgn32 b = true then 2147483648 else 0 := by
      rw [sgn_hi hb]
      unfold rung32 at g
      by_cases h : 2147483648 ≤ b
      · rw [decide_eq_true h, if_pos rfl]; omega
      · rw [decide_eq_false h]; simp; omega
    have hN := nought_any a ha (sgn32 b)
    rw [← eb] at hN
    clear g eb
    go_enter Try.func25, Try.ntmps25
    go_wp2_with fail
    refine (number_any b _).mono ?_
    rintro e w1 ⟨rfl, rfl⟩
    go_wp2_with fail
    refine (hN _).mono ?_
    rintro e w2 ⟨rfl, q2⟩
    go_wp2_with fail
    go_ret
    exact ⟨rfl, q2⟩
  · rw [decide_eq_false g] at hz
    cases hd : (Ieee.single.read a).quotient 25 (Ieee.single.read b) with
    | none =>
      have hf : floatBits .quo .f32 a b = none := by
        show ((Ieee.single.read a).quotient 25 (Ieee.single.read b)).map Ieee.single.write = none
        rw [hd]; rfl
      have l1 := fun w => run_arith_none .quo (by simp) 60 .f32 a b hf Try.prog w
      have l2 := same32
      clear hd hf g
      go_enter Try.func25, Try.ntmps25
      go_wp2_with fail
      refine (number_any b _).mono ?_
      rintro e w1 ⟨rfl, rfl⟩
      go_wp2_with fail
      refine (number_any a _).mono ?_
      rintro e w1 ⟨rfl, rfl⟩
      go_wp2_with fail
      refine (number_any b _).mono ?_
      rintro e w1 ⟨rfl, rfl⟩
      go_wp2_with fail
      refine (sample_any _ (nanw32 a b _).2 _).mono ?_
      rintro e w1 ⟨rfl, q1⟩
      go_wp2_with fail
      go_ret
      exact ⟨ret_int (by rw [madeN_nan (nanw32 a b _).1]; rfl), ((Q.refl _).drew.trans q1)⟩
    | some d =>
      have hf : floatBits .quo .f32 a b = some (Ieee.single.write d) := by
        show ((Ieee.single.read a).quotient 25 (Ieee.single.read b)).map Ieee.single.write = _
        rw [hd]; rfl
      have l1 := fun w => run_float_arith (P := Try.prog) w .quo 60 .f32 a b _ hf
      have l2 := same32
      have hn : Hid (d.isNaN = false) := quotient_num hd
      clear hd hf g
      go_enter Try.func25, Try.ntmps25
      go_wp2_with fail
      refine (number_any b _).mono ?_
      rintro e w1 ⟨rfl, rfl⟩
      go_wp2_with fail
      refine (number_any a _).mono ?_
      rintro e w1 ⟨rfl, rfl⟩
      go_wp2_with fail
      refine (number_any b _).mono ?_
      rintro e w1 ⟨rfl, rfl⟩
      go_wp2_with fail
      refine (sample_any _ (write32_lt d) _).mono ?_
      rintro e w1 ⟨rfl, q1⟩
      go_wp2_with fail
      go_ret
      exact ⟨ret_int (by rw [madeN_of (nanN_write hn.out), toldD_some hn.out]), q1⟩

set_option maxHeartbeats 400000 in
theorem cint_any (n : Int) (w : World) : Calls Try.prog 32 #[.int .i64 n] w fun e w' => e = .returned (.int .u32 (Ieee.single.write (.number (decide (n < 0)) n.natAbs 0) : Nat)) ∧ Q w w' := by
  have hl : floatOfInt .f32 n < 4294967296 := write32_lt (.number (decide (n < 0)) n.natAbs 0)
  have hn : nanN (floatOfInt .f32 n) = false := nanN_write (d := .number (decide (n < 0)) n.natAbs 0) rfl
  go_enter Try.func32, Try.ntmps32
  go_wp2_with fail
  refine (sample_any _ hl _).mono ?_
  rintro e w1 ⟨rfl, q1⟩
  go_wp2_with fail
  go_ret
  exact ⟨ret_int (by rw [madeN_of hn]; rfl), q1⟩
end Go.Proofs.Ytgpgjbgobaaohaa

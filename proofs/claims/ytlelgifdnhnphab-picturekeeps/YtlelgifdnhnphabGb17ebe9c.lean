/- What package arith's Wide, Narrow, Div and FromInt return, in the model's own words of floats; what was in memory stays as it was. -/
import Derived.Test.YtlelgifdnhnphabGf584c594
import Derived.Test.YtlelgifdnhnphabGac69f9c9
namespace Go.Proofs.Ytlelgifdnhnphab
open Go.RowKit

/-- A sample as a binary64. -/
def wideW (a : Nat) : Nat := if nanN a = true then 9221120237041090560 else wideN a
set_option maxHeartbeats 400000 in
theorem cwide_any (a : Nat) (ha : a < 4294967296) (w : World) : Calls Try.prog 64 #[.int .u32 (a : Int)] w fun e w' => e = .returned (.int .u64 (wideW a : Nat)) ∧ Q w w' := by
  cases h : nanN a
  · have l1 := fun w => run_convert_float_float (P := Try.prog) w 59 37 .f32 .f64 a _ (by kernel_rfl) Try.underlying37 (wide_conv h)
    have l2 := f64bits
    have e1 : wideW a = wideN a := by unfold wideW; rw [h]; rfl
    rw [e1]
    clear e1
    go_enter Try.func64, Try.ntmps64
    go_wp2_with fail
    refine (isnan_any a ha _).mono ?_
    rintro e w1 ⟨rfl, q1⟩
    go_wp2_with fail
    refine (number_any a _).mono ?_
    rintro e w2 ⟨rfl, rfl⟩
    go_wp2_with fail
    go_ret
    exact ⟨rfl, q1⟩
  · have e1 : wideW a = 9221120237041090560 := by unfold wideW; rw [h]; rfl
    rw [e1]
    clear e1
    go_enter Try.func64, Try.ntmps64
    go_wp2_with fail
    refine (isnan_any a ha _).mono ?_
    rintro e w1 ⟨rfl, q1⟩
    go_wp2_with fail
    go_ret
    exact ⟨rfl, q1⟩

theorem srung_bound : srung64 5183643170835005440 = 5183643170835005440 := by decide
theorem srung_bound' : srung64 14407015207689781248 = -5183643170835005440 := by decide
theorem order_bound {x : Nat} (h : nan64 x = false) : Ieee.double.order x 5183643170835005440 = some (compare (srung64 x) 5183643170835005440) := by
  rw [nan64_rung] at h
  have h := of_decide_eq_false h
  rw [order_num64 (by omega) (by decide), srung_bound]
theorem order_bound' {x : Nat} (h : nan64 x = false) : Ieee.double.order x 14407015207689781248 = some (compare (srung64 x) (-5183643170835005440)) := by
  rw [nan64_rung] at h
  have h := of_decide_eq_false h
  rw [order_num64 (by omega) (by decide), srung_bound']
/-- How a binary64 stands to the bounds of samples. -/
theorem nar_cases (x : Nat) : (nan64 x = true ∧ Ieee.double.order x 5183643170835005440 = none ∧ Ieee.double.order x 14407015207689781248 = none)
    ∨ (nan64 x = false ∧ 5183643170835005440 ≤ rung64 x ∧ sgn64 x = false ∧ (Ieee.double.order x 5183643170835005440 = some .gt ∨ Ieee.double.order x 5183643170835005440 = some .eq))
    ∨ (nan64 x = false ∧ 5183643170835005440 ≤ rung64 x ∧ sgn64 x = true ∧ Ieee.double.order x 5183643170835005440 = some .lt ∧ (Ieee.double.order x 14407015207689781248 = some .lt ∨ Ieee.double.order x 14407015207689781248 = some .eq))
    ∨ (nan64 x = false ∧ rung64 x < 5183643170835005440 ∧ Ieee.double.order x 5183643170835005440 = some .lt ∧ Ieee.double.order x 14407015207689781248 = some .gt) := by
  cases h : nan64 x
  · rw [order_bound h, order_bound' h]
    have hs : srung64 x = if sgn64 x = true then -(rung64 x : Int) else rung64 x := rfl
    rcases Nat.lt_or_ge (rung64 x) 5183643170835005440 with g | g
    · refine Or.inr (Or.inr (Or.inr ⟨rfl, g, ?_, ?_⟩))
      · congr 1; exact Int.compare_eq_lt.2 (by rw [hs]; split <;> omega)
      · congr 1; exact Int.compare_eq_gt.2 (by rw [hs]; split <;> omega)
    · cases hg : sgn64 x
      · rw [hg] at hs
        have hs : srung64 x = rung64 x := hs
        refine Or.inr (Or.inl ⟨rfl, g, rfl, ?_⟩)
        rcases Nat.lt_or_ge 5183643170835005440 (rung64 x) with k | k
        · left; congr 1; exact Int.compare_eq_gt.2 (by omega)
        · right; congr 1; exact Int.compare_eq_eq.2 (by omega)
      · rw [hg] at hs
        have hs : srung64 x = -(rung64 x : Int) := hs
        refine Or.inr (Or.inr (Or.inl ⟨rfl, g, rfl, ?_, ?_⟩))
        · congr 1; exact Int.compare_eq_lt.2 (by omega)
        · rcases Nat.lt_or_ge 5183643170835005440 (rung64 x) with k | k
          · left; congr 1; exact Int.compare_eq_lt.2 (by omega)
          · right; congr 1; exact Int.compare_eq_eq.2 (by omega)
  · have hn := read64_nan h
    exact Or.inl ⟨rfl, order_nan1 _ hn, order_nan1 _ hn⟩

set_option maxHeartbeats 400000 in
theorem narrowed_any (x : Nat) (w : World) : Calls Try.prog 49 #[.float .f64 x] w fun e w' => e = .returned (.int .u32 (toldD (some (Ieee.double.read x)) : Nat)) ∧ Q w w' := by
  rcases nar_cases x with ⟨h, o1, o2⟩ | ⟨h, g, hs, o1⟩ | ⟨h, g, hs, o1, o2⟩ | ⟨h, g, o1, o2⟩
  · have o1 : FloatKind.f64.format.order x 5183643170835005440 = none := o1
    have o2 : FloatKind.f64.format.order x 14407015207689781248 = none := o2
    have l1 := fun w => run_conv_nan (P := Try.prog) 37 59 .f64 .f32 x (by decide) (by kernel_rfl) Try.underlying59 (read64_nan h) w
    rw [nar_nan h]
    clear h
    go_enter Try.func49, Try.ntmps49
    go_wp2_with fail
    refine (sample_any _ (nanc32 x _).2 _).mono ?_
    rintro e w1 ⟨rfl, q1⟩
    go_wp2_with fail
    go_ret
    exact ⟨ret_int (by rw [madeN_nan (nanc32 x _).1]), ((Q.refl _).drew.trans q1)⟩
  · rw [nar_big g h, hs, show Ieee.single.word false 2139095040 = 2139095040 from rfl]
    clear h g hs
    rcases o1 with o1 | o1
    · have o1 : FloatKind.f64.format.order x 5183643170835005440 = some .gt := o1
      go_enter Try.func49, Try.ntmps49
      go_wp2_with fail
      go_ret
      exact ⟨rfl, Q.refl _⟩
    · have o1 : FloatKind.f64.format.order x 5183643170835005440 = some .eq := o1
      go_enter Try.func49, Try.ntmps49
      go_wp2_with fail
      go_ret
      exact ⟨rfl, Q.refl _⟩
  · rw [nar_big g h, hs, show Ieee.single.word true 2139095040 = 4286578688 from rfl]
    clear h g hs
    have o1 : FloatKind.f64.format.order x 5183643170835005440 = some .lt := o1
    rcases o2 with o2 | o2
    · have o2 : FloatKind.f64.format.order x 14407015207689781248 = some .lt := o2
      go_enter Try.func49, Try.ntmps49
      go_wp2_with fail
      go_ret
      exact ⟨rfl, Q.refl _⟩
    · have o2 : FloatKind.f64.format.order x 14407015207689781248 = some .eq := o2
      go_enter Try.func49, Try.ntmps49
      go_wp2_with fail
      go_ret
      exact ⟨rfl, Q.refl _⟩
  · have o1 : FloatKind.f64.format.order x 5183643170835005440 = some .lt := o1
    have o2 : FloatKind.f64.format.order x 14407015207689781248 = some .gt := o2
    have l1 := fun w => run_convert_float_float (P := Try.prog) w 37 59 .f64 .f32 x _ (by kernel_rfl) Try.underlying59 (nar_conv g)
    have hn : Hid ((Ieee.double.read x).isNaN = false) := read64_num h
    clear h g
    go_enter Try.func49, Try.ntmps49
    go_wp2_with fail
    refine (sample_any _ (write32_lt _) _).mono ?_
    rintro e w1 ⟨rfl, q1⟩
    go_wp2_with fail
    go_ret
    exact ⟨ret_int (by rw [madeN_of (nanN_write hn.out), toldD_some hn.out]), q1⟩

set_option maxHeartbeats 400000 in
theorem cnarrow_any (x : Nat) (w : World) : Calls Try.prog 53 #[.int .u64 (x : Int)] w fun e w' => e = .returned (.int .u32 (toldD (some (Ieee.double.read x)) : Nat)) ∧ Q w w' := by
  have l1 := f64from
  go_enter Try.func53, Try.ntmps53
  go_wp2_with fail
  refine (narrowed_any x _).mono ?_
  rintro e w1 ⟨rfl, q1⟩
  go_wp2_with fail
  go_ret
  exact ⟨rfl, q1⟩

theorem ord_zero32 (b : Nat) : (Ieee.single.order b 0 == some Ordering.eq) = decide (rung32 b = 0) := by
  cases h : nanN b
  · rw [nanN_rung] at h
    have h := of_decide_eq_false h
    rw [order_num32 (by omega) (by decide), cmp_eq, show srung32 0 = 0 from by decide]
    unfold srung32
    rw [decide_eq_decide]
    split <;> omega
  · rw [order_nan1 _ (read32_nan h)]
    rw [nanN_rung] at h
    have h := of_decide_eq_true h
    rw [decide_eq_false (by omega)]; rfl

theorem nat_xor (n : Nat) (h : n < 4294967296) : n ^^^ 2147483648 = (n + 2147483648) % 4294967296 := by
  have e1 : (n ^^^ 2147483648) / 2 ^ 31 = n / 2 ^ 31 ^^^ 1 := by rw [Nat.xor_div_two_pow]
  have e2 : (n ^^^ 2147483648) % 2 ^ 31 = n % 2 ^ 31 := by rw [Nat.xor_mod_two_pow]; simp
  have e3 := Nat.div_add_mod (n ^^^ 2147483648) (2 ^ 31)
  rw [e1, e2] at e3
  rcases Nat.lt_or_ge n 2147483648 with g | g
  · have e4 : n / 2 ^ 31 = 0 := by omega
    rw [e4] at e3
    have e5 : (0 ^^^ 1 : Nat) = 1 := rfl
    rw [e5] at e3
    omega
  · have e4 : n / 2 ^ 31 = 1 := by omega
    rw [e4] at e3
    have e5 : (1 ^^^ 1 : Nat) = 0 := rfl
    rw [e5] at e3
    omega
theorem xor_0 (a : Int) (h0 : 0 ≤ a) (h1 : a ≤ 4294967295) : bits .xor .u32 a 0 = a := by
  go_bits2
  rw [Nat.xor_zero]; omega
theorem xor_lo (a : Int) (h0 : 0 ≤ a) (h1 : a < 2147483648) : bits .xor .u32 a 2147483648 = a + 2147483648 := by
  go_bits2
  rw [nat_xor _ (by omega)]; omega
theorem xor_hi (a : Int) (h0 : 2147483648 ≤ a) (h1 : a ≤ 4294967295) : bits .xor .u32 a 2147483648 = a - 2147483648 := by
  go_bits2
  rw [nat_xor _ (by omega)]; omega

/-- A number divided by 0. -/
def noughtV (a : Nat) (s : Bool) : Nat := if nanN a = true ∨ rung32 a = 0 then 2143289344 else Ieee.single.word (sgn32 a ^^ s) 2139095040
theorem sgn_hi {a : Nat} (ha : a < 4294967296) : sgn32 a = decide (2147483648 ≤ a) := by
  unfold sgn32
  by_cases h : 2147483648 ≤ a
  · rw [decide_eq_true h, beq_iff_eq]; omega
  · rw [decide_eq_false h, beq_eq_false_iff_ne]; omega
theorem nought_bits {a : Nat} (ha : a < 4294967296) (s : Bool) :
    bits .or .u32 2139095040 (bits .and .u32 (bits .xor .u32 (a : Int) (if s = true then 2147483648 else 0)) 2147483648) = ((Ieee.single.word (sgn32 a ^^ s) 2139095040 : Nat) : Int) := by
  rw [sgn_hi ha]
  by_cases h : 2147483648 ≤ a
  · rw [decide_eq_true h]
    cases s
    · show bits .or .u32 2139095040 (bits .and .u32 (bits .xor .u32 (a : Int) 0) 2147483648) = _
      rw [xor_0 _ (by omega) (by omega), and_hi _ (by omega) (by omega)]; decide
    · show bits .or .u32 2139095040 (bits .and .u32 (bits .xor .u32 (a : Int) 2147483648) 2147483648) = _
      rw [xor_hi _ (by omega) (by omega), and_lo _ (by omega) (by omega)]; decide
  · rw [decide_eq_false h]
    cases s
    · show bits .or .u32 2139095040 (bits .and .u32 (bits .xor .u32 (a : Int) 0) 2147483648) = _
      rw [xor_0 _ (by omega) (by omega), and_lo _ (by omega) (by omega)]; decide
    · show bits .or .u32 2139095040 (bits .and .u32 (bits .xor .u32 (a : Int) 2147483648) 2147483648) = _
      rw [xor_lo _ (by omega) (by omega), and_hi _ (by omega) (by omega)]; decide

theorem quo_nought {a b : Nat} (hb : rung32 b = 0) : toldD ((Ieee.single.read a).quotient 25 (Ieee.single.read b)) = noughtV a (sgn32 b) := by
  have e0 : Ieee.single.read b = .number (sgn32 b) 0 (-149) := by
    rw [read_fin32 (by omega), hb]; rfl
  rw [e0]
  unfold noughtV
  cases h : nanN a
  · have h' := h
    rw [nanN_rung] at h'
    have h' := of_decide_eq_false h'
    rcases Nat.lt_or_ge (rung32 a) 2139095040 with g | g
    · rw [read_fin32 g]
      by_cases z : rung32 a = 0
      · rw [if_pos (Or.inr z), z]; rfl
      · rw [if_neg (by simp; exact z)]
        have hm : mag32 (rung32 a) ≠ 0 := by
          intro hm
          have := val_pos32 (r := rung32 a) (by omega)
          unfold val32 at this
          rw [hm, Nat.zero_mul] at this
          omega
        have e2 : (Ieee.Datum.number (sgn32 a) (mag32 (rung32 a)) (-149 + (plc32 (rung32 a) : Int))).quotient 25 (.number (sgn32 b) 0 (-149)) = some (.infinity (sgn32 a ^^ sgn32 b)) := by
          simp [Ieee.Datum.quotient, hm]
        rw [e2]
        show Ieee.single.word _ Ieee.single.infRung = _
        rw [inf32]
    · rw [read_inf32 (by omega), if_neg (by simp; omega)]
      show Ieee.single.word _ Ieee.single.infRung = _
      rw [inf32]
  · rw [if_pos (Or.inl rfl)]
    obtain ⟨s, t, e⟩ := isNaN_cases (read32_nan h)
    rw [e]; rfl

end Go.Proofs.Ytlelgifdnhnphab
/- Words of binary64: what is told, of NaNs one. -/
namespace Go.Proofs.Ytlelgifdnhnphab
open Go.RowKit

/-- What is told of a datum in binary64. -/
def told64 : Option Ieee.Datum → Nat
  | none => 9221120237041090560
  | some (.nan ..) => 9221120237041090560
  | some d => Ieee.double.write d
/-- A word of binary64, of NaNs one. -/
def canW (W : Nat) : Nat := if nan64 W = true then 9221120237041090560 else W
def add64V (a b : Nat) : Nat := told64 ((Ieee.double.read a).sum (Ieee.double.read b))
theorem sum64_nan {d : Ieee.Datum} (h : d.isNaN = true) (d' : Ieee.Datum) : told64 (d.sum d') = 9221120237041090560 := by
  obtain ⟨s, t, rfl⟩ := isNaN_cases h
  cases d' <;> rfl
theorem made64 : nan64 9221120237041090560 = true := by decide
theorem can_sum (W X : Nat) : add64V (canW W) X = add64V W X := by
  unfold canW
  cases h : nan64 W
  · rfl
  · rw [if_pos rfl]
    unfold add64V
    rw [sum64_nan (read64_nan h), sum64_nan (read64_nan made64)]
theorem told64_some {d : Ieee.Datum} (h : d.isNaN = false) : told64 (some d) = Ieee.double.write d := by
  cases d with
  | nan s t => cases h
  | infinity s => rfl
  | number s m p => rfl
theorem can_some {d : Ieee.Datum} (h : d.isNaN = false) : canW (Ieee.double.write d) = told64 (some d) := by
  unfold canW
  rw [nan64_write h, if_neg (by decide), told64_some h]
theorem can_none (x y : Nat) (w : World) : canW (nanw .f64 x y w) = 9221120237041090560 := by
  unfold canW
  rw [(nanw64 x y w).1, if_pos rfl]
end Go.Proofs.Ytlelgifdnhnphab
/- Plain facts: binary64 words of normal numbers: how they are read, rounded, ordered and multiplied by one; samples made wide. -/
namespace Go.Proofs.Ytlelgifdnhnphab
open Go.RowKit

/-- The binary64 word of a sign, a full significand m (from 2^52, below 2^53) and its place p. -/
def wd (neg : Bool) (m : Nat) (p : Int) : Nat := (if neg = true then 9223372036854775808 else 0) + ((p + 1074).toNat * 4503599627370496 + m)

theorem read_wd {neg : Bool} {m : Nat} {p : Int} (h0 : 4503599627370496 ≤ m) (h1 : m < 9007199254740992) (p0 : -1074 ≤ p) (p1 : p ≤ 971) : Ieee.double.read (wd neg m p) = .number neg m p := by
  unfold Ieee.Format.read
  rw [sign64, binade64, inf64, least64]
  obtain ⟨q, hq⟩ : ∃ q : Nat, q = (p + 1074).toNat := ⟨_, rfl⟩
  have e1 : (wd neg m p / 9223372036854775808 % 2 == 1) = neg := by
    unfold wd; rw [← hq]; cases neg
    · rw [beq_eq_false_iff_ne]; simp; omega
    · rw [beq_iff_eq]; simp; omega
  have e2 : wd neg m p % 9223372036854775808 = q * 4503599627370496 + m := by
    unfold wd; rw [← hq]; cases neg <;> simp <;> omega
  simp only [e1, e2]
  rw [if_neg (by omega), if_pos (by omega)]
  have e3 : (q * 4503599627370496 + m) % 4503599627370496 = m - 4503599627370496 := by omega
  have e4 : (q * 4503599627370496 + m) / 4503599627370496 - 1 = q := by omega
  have e5 : 4503599627370496 + (m - 4503599627370496) = m := by omega
  have e6 : (-1074 : Int) + (q : Int) = p := by omega
  rw [e3, e4, e5, e6]

theorem cut_exact (neg : Bool) (q d : Nat) (h : 0 < q) : Ieee.Toward.even.cut neg (q * 2 ^ d) d = q := by
  unfold Ieee.Toward.cut
  have hl : d ≤ (q * 2 ^ d).log2 + 2 := by
    have h1 : 2 ^ d ≤ q * 2 ^ d := Nat.le_mul_of_pos_left _ h
    have h2 : q * 2 ^ d ≠ 0 := by have := Nat.two_pow_pos d; omega
    have := (Nat.le_log2 h2).2 h1
    omega
  have e1 : min d ((q * 2 ^ d).log2 + 2) = d := Nat.min_eq_left hl
  rw [e1]
  have e2 : (1 <<< d : Nat) = 2 ^ d := by rw [Nat.shiftLeft_eq, Nat.one_mul]
  rw [e2]
  have hp := Nat.two_pow_pos d
  have e3 : q * 2 ^ d / 2 ^ d = q := Nat.mul_div_cancel _ hp
  have e4 : q * 2 ^ d % 2 ^ d = 0 := Nat.mul_mod_left _ _
  simp only [e3, e4]
  have : ((decide (2 ^ d < 2 * 0)) || (2 ^ d == 2 * 0 && q % 2 == 1)) = false := by
    have hne : ¬ (2 ^ d = 0) := by omega
    simp
  rw [this]; rfl

theorem log2_shift {o L k : Nat} (h0 : 2 ^ L ≤ o) (h1 : o < 2 ^ (L + 1)) : (o * 2 ^ k).log2 = L + k := by
  have hp := Nat.two_pow_pos k
  have ho : o ≠ 0 := by have := Nat.two_pow_pos L; omega
  have hne : o * 2 ^ k ≠ 0 := Nat.mul_ne_zero ho (by omega)
  refine (Nat.log2_eq_iff hne).2 ⟨?_, ?_⟩
  · rw [Nat.pow_add]; exact Nat.mul_le_mul_right _ h0
  · rw [show L + k + 1 = (L + 1) + k by omega, Nat.pow_add]; exact Nat.mul_lt_mul_of_pos_right h1 hp

theorem frac64 : Ieee.double.fractionBits = 52 := rfl
/-- A number of at most 53 binary digits is written just as it is. -/
theorem nearest_exact {neg : Bool} {o L k : Nat} {p : Int} (h0 : 2 ^ L ≤ o) (h1 : o < 2 ^ (L + 1)) (hL : L ≤ 52) (q0 : -1074 ≤ p + k + L - 52) (q1 : p + k + L - 52 ≤ 971) :
    Ieee.double.nearest neg (o * 2 ^ k) p = wd neg (o * 2 ^ (52 - L)) (p + k + L - 52) := by
  have ho : 0 < o := by have := Nat.two_pow_pos L; omega
  have hne : o * 2 ^ k ≠ 0 := Nat.mul_ne_zero (by omega) (by have := Nat.two_pow_pos k; omega)
  unfold Ieee.Format.nearest
  rw [if_neg hne, log2_shift h0 h1, frac64, least64, binade64, inf64]
  have elast : max (p + ((L + k : Nat) : Int) - ((52 : Nat) : Int)) (-1074) = p + k + L - 52 := by omega
  have b1 : o * 2 ^ (52 - L) < 9007199254740992 := by
    have : o * 2 ^ (52 - L) < 2 ^ (L + 1) * 2 ^ (52 - L) := Nat.mul_lt_mul_of_pos_right h1 (Nat.two_pow_pos _)
    rw [← Nat.pow_add, show L + 1 + (52 - L) = 53 by omega] at this
    exact this
  have b0 : 0 < o * 2 ^ (52 - L) := Nat.mul_pos ho (Nat.two_pow_pos _)
  have ekept : Ieee.Toward.even.cut neg ((o * 2 ^ k) <<< (p - (p + k + L - 52)).toNat) ((p + k + L - 52) - p).toNat = o * 2 ^ (52 - L) := by
    rw [Nat.shiftLeft_eq]
    by_cases c : k + L ≤ 52
    · have e1 : (p - (p + k + L - 52)).toNat = 52 - L - k := by omega
      have e2 : ((p + k + L - 52) - p).toNat = 0 := by omega
      rw [e1, e2, Nat.mul_assoc, ← Nat.pow_add, show k + (52 - L - k) = 52 - L by omega]
      have := cut_exact neg (o * 2 ^ (52 - L)) 0 b0
      simpa using this
    · have e1 : (p - (p + k + L - 52)).toNat = 0 := by omega
      have e2 : ((p + k + L - 52) - p).toNat = k + L - 52 := by omega
      rw [e1, e2]
      have e3 : o * 2 ^ k * 2 ^ 0 = o * 2 ^ (52 - L) * 2 ^ (k + L - 52) := by
        rw [Nat.pow_zero, Nat.mul_one, Nat.mul_assoc, ← Nat.pow_add, show 52 - L + (k + L - 52) = k by omega]
      rw [e3]
      exact cut_exact neg _ _ b0
  simp only [elast, ekept]
  unfold Ieee.Format.word wd
  rw [sign64]
  have e5 : (p + k + L - 52 - -1074).toNat = (p + k + L - 52 + 1074).toNat := by congr 1
  rw [e5, Nat.min_eq_left (by omega)]
  cases neg <;> simp

theorem nearest_zero (neg : Bool) (p : Int) : Ieee.double.nearest neg 0 p = if neg = true then 9223372036854775808 else 0 := by
  unfold Ieee.Format.nearest Ieee.Format.word
  rw [if_pos rfl, sign64]

/-- The word of a number: its value decides. -/
theorem nearest_shift {neg : Bool} {o L k j : Nat} {p r : Int} (h0 : 2 ^ L ≤ o) (h1 : o < 2 ^ (L + 1)) (hL : L ≤ 52) (hk : p + k = r + j) (q0 : -1074 ≤ p + k + L - 52) (q1 : p + k + L - 52 ≤ 971) :
    Ieee.double.nearest neg (o * 2 ^ k) p = Ieee.double.nearest neg (o * 2 ^ j) r := by
  rw [nearest_exact h0 h1 hL q0 q1, nearest_exact h0 h1 hL (by omega) (by omega)]
  congr 1; omega

theorem order_wd_self {neg : Bool} {m : Nat} {p : Int} (h0 : 4503599627370496 ≤ m) (h1 : m < 9007199254740992) (p0 : -1074 ≤ p) (p1 : p ≤ 971) : Ieee.double.order (wd neg m p) (wd neg m p) = some .eq := by
  unfold Ieee.Format.order
  rw [read_wd h0 h1 p0 p1]
  show some (compare _ _) = _
  rw [Int.compare_eq_eq.2 rfl]

theorem signed_pos {m u : Nat} : Ieee.signed false m u = (m * 2 ^ u : Nat) := by unfold Ieee.signed; rw [Nat.shiftLeft_eq]; rfl

theorem read_zero : Ieee.double.read 0 = .number false 0 (-1074) := by decide
/-- It is not nought. -/
theorem order_wd_zero {neg : Bool} {m : Nat} {p : Int} (h0 : 4503599627370496 ≤ m) (h1 : m < 9007199254740992) (p0 : -1074 ≤ p) (p1 : p ≤ 971) : (Ieee.double.order (wd neg m p) 0 == some .eq) = false := by
  unfold Ieee.Format.order
  rw [read_wd h0 h1 p0 p1, read_zero]
  show (some (compare (Ieee.signed neg m (p - min p (-1074)).toNat) (Ieee.signed false 0 _)) == some .eq) = false
  have hp := Nat.two_pow_pos (p - min p (-1074)).toNat
  have hm : 0 < m * 2 ^ (p - min p (-1074)).toNat := Nat.mul_pos (by omega) hp
  have e : Ieee.signed false 0 (-1074 - min p (-1074)).toNat = 0 := by rw [signed_pos, Nat.zero_mul]; rfl
  rw [e]
  unfold Ieee.signed
  rw [Nat.shiftLeft_eq]
  generalize m * 2 ^ (p - min p (-1074)).toNat = z at hm
  cases neg
  · rw [show (if false = true then -((z : Nat) : Int) else ((z : Nat) : Int)) = z from rfl, Int.compare_eq_gt.2 (by omega)]; rfl
  · rw [show (if true = true then -((z : Nat) : Int) else ((z : Nat) : Int)) = -z from rfl, Int.compare_eq_lt.2 (by omega)]; rfl

theorem read_max : Ieee.double.read 9218868437227405311 = .number false 9007199254740991 971 := by decide
/-- It is not above the greatest number. -/
theorem order_wd_max {m : Nat} {p : Int} (h0 : 4503599627370496 ≤ m) (h1 : m < 9007199254740992) (p0 : -1074 ≤ p) (p1 : p ≤ 971) : (Ieee.double.order (wd false m p) 9218868437227405311 == some .gt) = false := by
  unfold Ieee.Format.order
  rw [read_wd h0 h1 p0 p1, read_max]
  show (some (compare (Ieee.signed false m (p - min p 971).toNat) (Ieee.signed false 9007199254740991 (971 - min p 971).toNat)) == some .gt) = false
  rw [signed_pos, signed_pos, show (p - min p 971).toNat = 0 by omega, Nat.pow_zero, Nat.mul_one]
  have hp := Nat.two_pow_pos (971 - min p 971).toNat
  have : 9007199254740991 * 1 ≤ 9007199254740991 * 2 ^ (971 - min p 971).toNat := Nat.mul_le_mul_left _ hp
  generalize 9007199254740991 * 2 ^ (971 - min p 971).toNat = z at this
  rcases Nat.lt_or_ge m z with g | g
  · rw [Int.compare_eq_lt.2 (by omega)]; rfl
  · rw [Int.compare_eq_eq.2 (by omega)]; rfl

theorem read_least : Ieee.double.read 4503599627370496 = .number false 4503599627370496 (-1074) := by decide
/-- It is not below the least normal number. -/
theorem order_wd_least {m : Nat} {p : Int} (h0 : 4503599627370496 ≤ m) (h1 : m < 9007199254740992) (p0 : -1074 ≤ p) (p1 : p ≤ 971) : (Ieee.double.order (wd false m p) 4503599627370496 == some .lt) = false := by
  unfold Ieee.Format.order
  rw [read_wd h0 h1 p0 p1, read_least]
  show (some (compare (Ieee.signed false m (p - min p (-1074)).toNat) (Ieee.signed false 4503599627370496 (-1074 - min p (-1074)).toNat)) == some .lt) = false
  rw [signed_pos, signed_pos, show (-1074 - min p (-1074)).toNat = 0 by omega, Nat.pow_zero, Nat.mul_one]
  have hp := Nat.two_pow_pos (p - min p (-1074)).toNat
  have : m * 1 ≤ m * 2 ^ (p - min p (-1074)).toNat := Nat.mul_le_mul_left _ hp
  generalize m * 2 ^ (p - min p (-1074)).toNat = z at this
  rcases Nat.lt_or_ge 4503599627370496 z with g | g
  · rw [Int.compare_eq_gt.2 (by omega)]; rfl
  · rw [Int.compare_eq_eq.2 (by omega)]; rfl

theorem read_one : Ieee.double.read 4607182418800017408 = .number false 4503599627370496 (-52) := by decide
/-- One times a number is the number. -/
theorem one_mul_wd {neg : Bool} {m : Nat} {p : Int} (h0 : 4503599627370496 ≤ m) (h1 : m < 9007199254740992) (p0 : -1074 ≤ p) (p1 : p ≤ 971) : Ieee.double.mul 4607182418800017408 (wd neg m p) = some (wd neg m p) := by
  unfold Ieee.Format.mul
  rw [read_wd h0 h1 p0 p1, read_one]
  show some (Ieee.double.nearest (false ^^ neg) (4503599627370496 * m) (-52 + p)) = _
  congr 1
  have e1 : 4503599627370496 * m = m * 2 ^ 52 := by rw [Nat.mul_comm]
  have e2 : (false ^^ neg) = neg := by cases neg <;> rfl
  rw [e1, e2, nearest_exact (L := 52) (by omega) (by omega) (Nat.le_refl _) (by omega) (by omega)]
  rw [Nat.sub_self, Nat.pow_zero, Nat.mul_one]
  congr 1; omega

theorem wd_word (neg : Bool) (m : Nat) (p : Int) : wd neg m p = Ieee.double.word neg ((p + 1074).toNat * 4503599627370496 + m) := by
  rw [word64]; unfold wd; cases neg <;> simp
theorem wd_rung {neg : Bool} {m : Nat} {p : Int} (h1 : m < 9007199254740992) (p1 : p ≤ 971) : rung64 (wd neg m p) = (p + 1074).toNat * 4503599627370496 + m ∧ sgn64 (wd neg m p) = neg := by
  rw [wd_word]
  obtain ⟨a, b⟩ := sgn_word64 neg (r := (p + 1074).toNat * 4503599627370496 + m) (by omega)
  exact ⟨b, a⟩
theorem wd_sum {neg : Bool} {m : Nat} {p n : Int} (p0 : -1074 ≤ p) (q0 : -1074 ≤ p + n) : ((wd neg m p : Int) + n * 4503599627370496).toNat = wd neg m (p + n) := by
  unfold wd; cases neg <;> simp <;> omega

theorem mag_ne32 {r : Nat} (h : r ≠ 0) : mag32 r ≠ 0 := by
  intro hm
  have := val_pos32 (r := r) (by omega)
  unfold val32 at this
  rw [hm, Nat.zero_mul] at this
  omega
/-- A finite sample that is not 0, made wide, is a normal number. -/
theorem wide_wd {a : Nat} (h0 : rung32 a ≠ 0) (h : rung32 a < 2139095040) : ∃ L : Nat, L ≤ 23 ∧ 2 ^ L ≤ mag32 (rung32 a) ∧ mag32 (rung32 a) < 2 ^ (L + 1) ∧
    wideN a = wd (sgn32 a) (mag32 (rung32 a) * 2 ^ (52 - L)) (-149 + (plc32 (rung32 a) : Int) + L - 52) ∧ plc32 (rung32 a) ≤ 253 := by
  have hm := mag_ne32 h0
  have hm1 := mag_lt32 (rung32 a)
  have hp : plc32 (rung32 a) ≤ 253 := by unfold plc32; omega
  have e1 := Nat.log2_self_le hm
  have e2 : mag32 (rung32 a) < 2 ^ ((mag32 (rung32 a)).log2 + 1) := Nat.lt_log2_self
  have e3 : (mag32 (rung32 a)).log2 ≤ 23 := by
    have := (Nat.log2_lt hm).2 (show mag32 (rung32 a) < 2 ^ 24 from hm1)
    omega
  refine ⟨(mag32 (rung32 a)).log2, e3, e1, e2, ?_, hp⟩
  unfold wideN
  rw [read_fin32 h]
  show Ieee.double.nearest _ _ _ = _
  have := nearest_exact (neg := sgn32 a) (o := mag32 (rung32 a)) (k := 0) (p := -149 + (plc32 (rung32 a) : Int)) e1 e2 (by omega) (by omega) (by omega)
  rw [Nat.pow_zero, Nat.mul_one] at this
  rw [this]
  congr 1; omega
theorem wide_zero {a : Nat} (h : rung32 a = 0) : wideN a = Ieee.double.word (sgn32 a) 0 := by
  unfold wideN
  rw [read_fin32 (by omega), h]
  show Ieee.double.nearest _ 0 _ = _
  rw [nearest_rung]; rfl
theorem wide_inf {a : Nat} (h : rung32 a = 2139095040) : wideN a = Ieee.double.word (sgn32 a) 9218868437227405312 := by
  unfold wideN
  rw [read_inf32 h]
  show Ieee.double.word _ Ieee.double.infRung = _
  rw [inf64]
end Go.Proofs.Ytlelgifdnhnphab

/- Plain facts: binary64 words of normal numbers: how they are read, rounded, ordered and multiplied by one; samples made wide. -/
import Derived.Test.YtieojgblamkgoaaGreatDoorGdf44e40f
namespace Go.Proofs.YtieojgblamkgoaaGreatDoor
open Go.RowKit

/-- The binary64 word of a sign, a full significand m (from 2^52, below 2^53) and its place p. -/
def wd (neg : Bool) (m : Nat) (p : Int) : Nat := (if neg = true then 9223372036854775808 else 0) + ((p + 1074).toNat * 4503599627370496 + m)

theorem read_wd {neg : Bool} {m : Nat} {p : Int} (h0 : 4503599627370496 ≤ m) (h1 : m < 9007199254740992) (p0 : -1074 ≤ p) (p1 : p ≤ 971) : Ieee.double.read (wd neg m p) = .number neg m p := by
  unfold Ieee.Format.read
  rw [sign64, binade64, inf64, least64]
  obtain ⟨q, hq⟩ : ∃ q : Nat, q = (p + 1074).toNat := ⟨_, rfl⟩
  have e1 : (wd neg m p / 9223372036854775808 % 2 == 1) = neg := by
    unfold wd; rw [← hq]; cases neg
    · rw [beq_eq_false_iff_ne]; simp; omega
    · rw [beq_iff_eq]; simp; omega
  have e2 : wd neg m p % 9223372036854775808 = q * 4503599627370496 + m := by
    unfold wd; rw [← hq]; cases neg <;> simp <;> omega
  simp only [e1, e2]
  rw [if_neg (by omega), if_pos (by omega)]
  have e3 : (q * 4503599627370496 + m) % 4503599627370496 = m - 4503599627370496 := by omega
  have e4 : (q * 4503599627370496 + m) / 4503599627370496 - 1 = q := by omega
  have e5 : 4503599627370496 + (m - 4503599627370496) = m := by omega
  have e6 : (-1074 : Int) + (q : Int) = p := by omega
  rw [e3, e4, e5, e6]

theorem cut_exact (neg : Bool) (q d : Nat) (h : 0 < q) : Ieee.Toward.even.cut neg (q * 2 ^ d) d = q := by
  unfold Ieee.Toward.cut
  have hl : d ≤ (q * 2 ^ d).log2 + 2 := by
    have h1 : 2 ^ d ≤ q * 2 ^ d := Nat.le_mul_of_pos_left _ h
    have h2 : q * 2 ^ d ≠ 0 := by have := Nat.two_pow_pos d; omega
    have := (Nat.le_log2 h2).2 h1
    omega
  have e1 : min d ((q * 2 ^ d).log2 + 2) = d := Nat.min_eq_left hl
  rw [e1]
  have e2 : (1 <<< d : Nat) = 2 ^ d := by rw [Nat.shiftLeft_eq, Nat.one_mul]
  rw [e2]
  have hp := Nat.two_pow_pos d
  have e3 : q * 2 ^ d / 2 ^ d = q := Nat.mul_div_cancel _ hp
  have e4 : q * 2 ^ d % 2 ^ d = 0 := Nat.mul_mod_left _ _
  simp only [e3, e4]
  have : ((decide (2 ^ d < 2 * 0)) || (2 ^ d == 2 * 0 && q % 2 == 1)) = false := by
    have hne : ¬ (2 ^ d = 0) := by omega
    simp
  rw [this]; rfl

theorem log2_shift {o L k : Nat} (h0 : 2 ^ L ≤ o) (h1 : o < 2 ^ (L + 1)) : (o * 2 ^ k).log2 = L + k := by
  have hp := Nat.two_pow_pos k
  have ho : o ≠ 0 := by have := Nat.two_pow_pos L; omega
  have hne : o * 2 ^ k ≠ 0 := Nat.mul_ne_zero ho (by omega)
  refine (Nat.log2_eq_iff hne).2 ⟨?_, ?_⟩
  · rw [Nat.pow_add]; exact Nat.mul_le_mul_right _ h0
  · rw [show L + k + 1 = (L + 1) + k by omega, Nat.pow_add]; exact Nat.mul_lt_mul_of_pos_right h1 hp

theorem frac64 : Ieee.double.fractionBits = 52 := rfl
/-- A number of at most 53 binary digits is written just as it is. -/
theorem nearest_exact {neg : Bool} {o L k : Nat} {p : Int} (h0 : 2 ^ L ≤ o) (h1 : o < 2 ^ (L + 1)) (hL : L ≤ 52) (q0 : -1074 ≤ p + k + L - 52) (q1 : p + k + L - 52 ≤ 971) :
    Ieee.double.nearest neg (o * 2 ^ k) p = wd neg (o * 2 ^ (52 - L)) (p + k + L - 52) := by
  have ho : 0 < o := by have := Nat.two_pow_pos L; omega
  have hne : o * 2 ^ k ≠ 0 := Nat.mul_ne_zero (by omega) (by have := Nat.two_pow_pos k; omega)
  unfold Ieee.Format.nearest
  rw [if_neg hne, log2_shift h0 h1, frac64, least64, binade64, inf64]
  have elast : max (p + ((L + k : Nat) : Int) - ((52 : Nat) : Int)) (-1074) = p + k + L - 52 := by omega
  have b1 : o * 2 ^ (52 - L) < 9007199254740992 := by
    have : o * 2 ^ (52 - L) < 2 ^ (L + 1) * 2 ^ (52 - L) := Nat.mul_lt_mul_of_pos_right h1 (Nat.two_pow_pos _)
    rw [← Nat.pow_add, show L + 1 + (52 - L) = 53 by omega] at this
    exact this
  have b0 : 0 < o * 2 ^ (52 - L) := Nat.mul_pos ho (Nat.two_pow_pos _)
  have ekept : Ieee.Toward.even.cut neg ((o * 2 ^ k) <<< (p - (p + k + L - 52)).toNat) ((p + k + L - 52) - p).toNat = o * 2 ^ (52 - L) := by
    rw [Nat.shiftLeft_eq]
    by_cases c : k + L ≤ 52
    · have e1 : (p - (p + k + L - 52)).toNat = 52 - L - k := by omega
      have e2 : ((p + k + L - 52) - p).toNat = 0 := by omega
      rw [e1, e2, Nat.mul_assoc, ← Nat.pow_add, show k + (52 - L - k) = 52 - L by omega]
      have := cut_exact neg (o * 2 ^ (52 - L)) 0 b0
      simpa using this
    · have e1 : (p - (p + k + L - 52)).toNat = 0 := by omega
      have e2 : ((p + k + L - 52) - p).toNat = k + L - 52 := by omega
      rw [e1, e2]
      have e3 : o * 2 ^ k * 2 ^ 0 = o * 2 ^ (52 - L) * 2 ^ (k + L - 52) := by
        rw [Nat.pow_zero, Nat.mul_one, Nat.mul_assoc, ← Nat.pow_add, show 52 - L + (k + L - 52) = k by omega]
      rw [e3]
      exact cut_exact neg _ _ b0
  simp only [elast, ekept]
  unfold Ieee.Format.word wd
  rw [sign64]
  have e5 : (p + k + L - 52 - -1074).toNat = (p + k + L - 52 + 1074).toNat := by congr 1
  rw [e5, Nat.min_eq_left (by omega)]
  cases neg <;> simp

theorem nearest_zero (neg : Bool) (p : Int) : Ieee.double.nearest neg 0 p = if neg = true then 9223372036854775808 else 0 := by
  unfold Ieee.Format.nearest Ieee.Format.word
  rw [if_pos rfl, sign64]

/-- The word of a number: its value decides. -/
theorem nearest_shift {neg : Bool} {o L k j : Nat} {p r : Int} (h0 : 2 ^ L ≤ o) (h1 : o < 2 ^ (L + 1)) (hL : L ≤ 52) (hk : p + k = r + j) (q0 : -1074 ≤ p + k + L - 52) (q1 : p + k + L - 52 ≤ 971) :
    Ieee.double.nearest neg (o * 2 ^ k) p = Ieee.double.nearest neg (o * 2 ^ j) r := by
  rw [nearest_exact h0 h1 hL q0 q1, nearest_exact h0 h1 hL (by omega) (by omega)]
  congr 1; omega

theorem order_wd_self {neg : Bool} {m : Nat} {p : Int} (h0 : 4503599627370496 ≤ m) (h1 : m < 9007199254740992) (p0 : -1074 ≤ p) (p1 : p ≤ 971) : Ieee.double.order (wd neg m p) (wd neg m p) = some .eq := by
  unfold Ieee.Format.order
  rw [read_wd h0 h1 p0 p1]
  show some (compare _ _) = _
  rw [Int.compare_eq_eq.2 rfl]

theorem signed_pos {m u : Nat} : Ieee.signed false m u = (m * 2 ^ u : Nat) := by unfold Ieee.signed; rw [Nat.shiftLeft_eq]; rfl

theorem read_zero : Ieee.double.read 0 = .number false 0 (-1074) := by decide
/-- It is not nought. -/
theorem order_wd_zero {neg : Bool} {m : Nat} {p : Int} (h0 : 4503599627370496 ≤ m) (h1 : m < 9007199254740992) (p0 : -1074 ≤ p) (p1 : p ≤ 971) : (Ieee.double.order (wd neg m p) 0 == some .eq) = false := by
  unfold Ieee.Format.order
  rw [read_wd h0 h1 p0 p1, read_zero]
  show (some (compare (Ieee.signed neg m (p - min p (-1074)).toNat) (Ieee.signed false 0 _)) == some .eq) = false
  have hp := Nat.two_pow_pos (p - min p (-1074)).toNat
  have hm : 0 < m * 2 ^ (p - min p (-1074)).toNat := Nat.mul_pos (by omega) hp
  have e : Ieee.signed false 0 (-1074 - min p (-1074)).toNat = 0 := by rw [signed_pos, Nat.zero_mul]; rfl
  rw [e]
  unfold Ieee.signed
  rw [Nat.shiftLeft_eq]
  generalize m * 2 ^ (p - min p (-1074)).toNat = z at hm
  cases neg
  · rw [show (if false = true then -((z : Nat) : Int) else ((z : Nat) : Int)) = z from rfl, Int.compare_eq_gt.2 (by omega)]; rfl
  · rw [show (if true = true then -((z : Nat) : Int) else ((z : Nat) : Int)) = -z from rfl, Int.compare_eq_lt.2 (by omega)]; rfl

theorem read_max : Ieee.double.read 9218868437227405311 = .number false 9007199254740991 971 := by decide
/-- It is not above the greatest number. -/
theorem order_wd_max {m : Nat} {p : Int} (h0 : 4503599627370496 ≤ m) (h1 : m < 9007199254740992) (p0 : -1074 ≤ p) (p1 : p ≤ 971) : (Ieee.double.order (wd false m p) 9218868437227405311 == some .gt) = false := by
  unfold Ieee.Format.order
  rw [read_wd h0 h1 p0 p1, read_max]
  show (some (compare (Ieee.signed false m (p - min p 971).toNat) (Ieee.signed false 9007199254740991 (971 - min p 971).toNat)) == some .gt) = false
  rw [signed_pos, signed_pos, show (p - min p 971).toNat = 0 by omega, Nat.pow_zero, Nat.mul_one]
  have hp := Nat.two_pow_pos (971 - min p 971).toNat
  have : 9007199254740991 * 1 ≤ 9007199254740991 * 2 ^ (971 - min p 971).toNat := Nat.mul_le_mul_left _ hp
  generalize 9007199254740991 * 2 ^ (971 - min p 971).toNat = z at this
  rcases Nat.lt_or_ge m z with g | g
  · rw [Int.compare_eq_lt.2 (by omega)]; rfl
  · rw [Int.compare_eq_eq.2 (by omega)]; rfl

theorem read_least : Ieee.double.read 4503599627370496 = .number false 4503599627370496 (-1074) := by decide
/-- It is not below the least normal number. -/
theorem order_wd_least {m : Nat} {p : Int} (h0 : 4503599627370496 ≤ m) (h1 : m < 9007199254740992) (p0 : -1074 ≤ p) (p1 : p ≤ 971) : (Ieee.double.order (wd false m p) 4503599627370496 == some .lt) = false := by
  unfold Ieee.Format.order
  rw [read_wd h0 h1 p0 p1, read_least]
  show (some (compare (Ieee.signed false m (p - min p (-1074)).toNat) (Ieee.signed false 4503599627370496 (-1074 - min p (-1074)).toNat)) == some .lt) = false
  rw [signed_pos, signed_pos, show (-1074 - min p (-1074)).toNat = 0 by omega, Nat.pow_zero, Nat.mul_one]
  have hp := Nat.two_pow_pos (p - min p (-1074)).toNat
  have : m * 1 ≤ m * 2 ^ (p - min p (-1074)).toNat := Nat.mul_le_mul_left _ hp
  generalize m * 2 ^ (p - min p (-1074)).toNat = z at this
  rcases Nat.lt_or_ge 4503599627370496 z with g | g
  · rw [Int.compare_eq_gt.2 (by omega)]; rfl
  · rw [Int.compare_eq_eq.2 (by omega)]; rfl

theorem read_one : Ieee.double.read 4607182418800017408 = .number false 4503599627370496 (-52) := by decide
/-- One times a number is the number. -/
theorem one_mul_wd {neg : Bool} {m : Nat} {p : Int} (h0 : 4503599627370496 ≤ m) (h1 : m < 9007199254740992) (p0 : -1074 ≤ p) (p1 : p ≤ 971) : Ieee.double.mul 4607182418800017408 (wd neg m p) = some (wd neg m p) := by
  unfold Ieee.Format.mul
  rw [read_wd h0 h1 p0 p1, read_one]
  show some (Ieee.double.nearest (false ^^ neg) (4503599627370496 * m) (-52 + p)) = _
  congr 1
  have e1 : 4503599627370496 * m = m * 2 ^ 52 := by rw [Nat.mul_comm]
  have e2 : (false ^^ neg) = neg := by cases neg <;> rfl
  rw [e1, e2, nearest_exact (L := 52) (by omega) (by omega) (Nat.le_refl _) (by omega) (by omega)]
  rw [Nat.sub_self, Nat.pow_zero, Nat.mul_one]
  congr 1; omega

theorem wd_word (neg : Bool) (m : Nat) (p : Int) : wd neg m p = Ieee.double.word neg ((p + 1074).toNat * 4503599627370496 + m) := by
  rw [word64]; unfold wd; cases neg <;> simp
theorem wd_rung {neg : Bool} {m : Nat} {p : Int} (h1 : m < 9007199254740992) (p1 : p ≤ 971) : rung64 (wd neg m p) = (p + 1074).toNat * 4503599627370496 + m ∧ sgn64 (wd neg m p) = neg := by
  rw [wd_word]
  obtain ⟨a, b⟩ := sgn_word64 neg (r := (p + 1074).toNat * 4503599627370496 + m) (by omega)
  exact ⟨b, a⟩
theorem wd_sum {neg : Bool} {m : Nat} {p n : Int} (p0 : -1074 ≤ p) (q0 : -1074 ≤ p + n) : ((wd neg m p : Int) + n * 4503599627370496).toNat = wd neg m (p + n) := by
  unfold wd; cases neg <;> simp <;> omega

theorem mag_ne32 {r : Nat} (h : r ≠ 0) : mag32 r ≠ 0 := by
  intro hm
  have := val_pos32 (r := r) (by omega)
  unfold val32 at this
  rw [hm, Nat.zero_mul] at this
  omega
/-- A finite sample that is not 0, made wide, is a normal number. -/
theorem wide_wd {a : Nat} (h0 : rung32 a ≠ 0) (h : rung32 a < 2139095040) : ∃ L : Nat, L ≤ 23 ∧ 2 ^ L ≤ mag32 (rung32 a) ∧ mag32 (rung32 a) < 2 ^ (L + 1) ∧
    wideN a = wd (sgn32 a) (mag32 (rung32 a) * 2 ^ (52 - L)) (-149 + (plc32 (rung32 a) : Int) + L - 52) ∧ plc32 (rung32 a) ≤ 253 := by
  have hm := mag_ne32 h0
  have hm1 := mag_lt32 (rung32 a)
  have hp : plc32 (rung32 a) ≤ 253 := by unfold plc32; omega
  have e1 := Nat.log2_self_le hm
  have e2 : mag32 (rung32 a) < 2 ^ ((mag32 (rung32 a)).log2 + 1) := Nat.lt_log2_self
  have e3 : (mag32 (rung32 a)).log2 ≤ 23 := by
    have := (Nat.log2_lt hm).2 (show mag32 (rung32 a) < 2 ^ 24 from hm1)
    omega
  refine ⟨(mag32 (rung32 a)).log2, e3, e1, e2, ?_, hp⟩
  unfold wideN
  rw [read_fin32 h]
  show Ieee.double.nearest _ _ _ = _
  have := nearest_exact (neg := sgn32 a) (o := mag32 (rung32 a)) (k := 0) (p := -149 + (plc32 (rung32 a) : Int)) e1 e2 (by omega) (by omega) (by omega)
  rw [Nat.pow_zero, Nat.mul_one] at this
  rw [this]
  congr 1; omega
theorem wide_zero {a : Nat} (h : rung32 a = 0) : wideN a = Ieee.double.word (sgn32 a) 0 := by
  unfold wideN
  rw [read_fin32 (by omega), h]
  show Ieee.double.nearest _ 0 _ = _
  rw [nearest_rung]; rfl
theorem wide_inf {a : Nat} (h : rung32 a = 2139095040) : wideN a = Ieee.double.word (sgn32 a) 9218868437227405312 := by
  unfold wideN
  rw [read_inf32 h]
  show Ieee.double.word _ Ieee.double.infRung = _
  rw [inf64]
end Go.Proofs.YtieojgblamkgoaaGreatDoor
/- What the library's Ldexp returns of a binary64 number and a power that keeps it normal, and package arith's Scale; what was in memory stays as it was. -/
namespace Go.Proofs.YtieojgblamkgoaaGreatDoor
open Go.RowKit

theorem i64_and (a b : Nat) (ha : a < 9223372036854775808) (hb : b < 9223372036854775808) : bits .and .i64 (a : Int) (b : Int) = ((a &&& b : Nat) : Int) := by
  have hx : a &&& b < 2 ^ 63 := Nat.and_lt_two_pow _ (by omega)
  show IntKind.i64.wrap ((BitVec.ofInt 64 (a : Int) &&& BitVec.ofInt 64 (b : Int)).toNat : Int) = _
  rw [BitVec.toNat_and, ofInt_u64 a (by omega), ofInt_u64 b (by omega), IntKind.wrap_i64]
  omega
theorem top_off (r : Int) (h0 : 0 ≤ r) (h1 : r < 9223372036854775808) : bits .andNot .u64 (9223372036854775808 + r) 9223372036854775808 = r := by go_bits2
theorem top_off' (r : Int) (h0 : 0 ≤ r) (h1 : r < 9223372036854775808) : bits .andNot .u64 r 9223372036854775808 = r := by go_bits2
theorem nat_clear (x : Nat) : x &&& 9227875636482146303 = x / 9223372036854775808 % 2 * 9223372036854775808 + x % 4503599627370496 := by
  have e : (9227875636482146303 : Nat) = 2 ^ 63 ||| (2 ^ 52 - 1) := by decide
  rw [e, Nat.and_or_distrib_left, nat_bit 63 x, Nat.and_two_pow_sub_one_eq_mod]
  exact nat_join 63 _ _ (Nat.mul_mod_left _ _) (Nat.lt_trans (Nat.mod_lt _ (by decide)) (by decide))
theorem nat_lay (s q f : Nat) (hq : q < 2048) (hf : f < 4503599627370496) : (s * 9223372036854775808 + f) ||| (q * 4503599627370496) = s * 9223372036854775808 + (q * 4503599627370496 + f) := by
  have e1 : s * 9223372036854775808 + f = s * 9223372036854775808 ||| f := (nat_join 63 _ _ (by show s * 2 ^ 63 % 2 ^ 63 = 0; exact Nat.mul_mod_left _ _) (by omega)).symm
  have e2 : f ||| q * 4503599627370496 = q * 4503599627370496 + f := by
    rw [Nat.or_comm]; exact nat_join 52 _ _ (by show q * 2 ^ 52 % 2 ^ 52 = 0; exact Nat.mul_mod_left _ _) (by omega)
  rw [e1, Nat.or_assoc, e2]
  exact nat_join 63 _ _ (by show s * 2 ^ 63 % 2 ^ 63 = 0; exact Nat.mul_mod_left _ _) (by omega)

/-- The word as sign, exponent and the rest. -/
theorem wd_form (neg : Bool) (m : Nat) (p : Int) : wd neg m p = neg.toNat * 9223372036854775808 + ((p + 1074).toNat * 4503599627370496 + m) := by
  unfold wd; cases neg <;> simp
theorem wd_lt {neg : Bool} {m : Nat} {p : Int} (h1 : m < 9007199254740992) (p1 : p ≤ 971) : wd neg m p < 18446744073709551616 := by
  rw [wd_form]; have := Bool.toNat_lt neg; omega
theorem wd_exp {neg : Bool} {m : Nat} {p : Int} (h0 : 4503599627370496 ≤ m) (h1 : m < 9007199254740992) (p0 : -1074 ≤ p) (p1 : p ≤ 971) : bits .and .i64 ((wd neg m p : Int) / 4503599627370496) 2047 = p + 1075 := by
  have e1 : (wd neg m p : Int) / 4503599627370496 = ((wd neg m p / 4503599627370496 : Nat) : Int) := by omega
  have hlt := wd_lt (neg := neg) h1 p1
  rw [e1, show (2047 : Int) = ((2047 : Nat) : Int) from rfl, i64_and _ _ (by omega) (by omega), nat_mask11]
  have hb := Bool.toNat_lt neg
  rw [wd_form]
  omega
theorem wd_clear {neg : Bool} {m : Nat} {p : Int} (h0 : 4503599627370496 ≤ m) (h1 : m < 9007199254740992) (p1 : p ≤ 971) : bits .andNot .u64 (wd neg m p : Int) 9218868437227405312 = ((neg.toNat * 9223372036854775808 + (m - 4503599627370496) : Nat) : Int) := by
  have hlt := wd_lt (neg := neg) h1 p1
  rw [u64_andNot _ _ (by omega) (by omega) (by omega) (by omega)]
  rw [show (18446744073709551615 - (9218868437227405312 : Int).toNat) = 9227875636482146303 from rfl, nat_clear, Int.toNat_natCast]
  have hb := Bool.toNat_lt neg
  rw [wd_form]
  omega
theorem wd_lay {neg : Bool} {m : Nat} {x : Int} (h0 : 4503599627370496 ≤ m) (h1 : m < 9007199254740992) (x0 : 1 ≤ x) (x1 : x ≤ 2046) : bits .or .u64 ((neg.toNat * 9223372036854775808 + (m - 4503599627370496) : Nat) : Int) (x * 4503599627370496) = (wd neg m (x - 1075) : Int) := by
  have hb := Bool.toNat_lt neg
  obtain ⟨q, rfl⟩ := Int.eq_ofNat_of_zero_le (show 0 ≤ x by omega)
  rw [show ((q : Int) * 4503599627370496) = ((q * 4503599627370496 : Nat) : Int) by omega, u64_or_nat _ _ (by omega) (by omega), nat_lay _ _ _ (by omega) (by omega), wd_form]
  omega

theorem abs_bits {x : Nat} (hx : x < 18446744073709551616) : bits .andNot .u64 (x : Int) 9223372036854775808 = (rung64 x : Int) := by
  unfold rung64
  rcases Nat.lt_or_ge x 9223372036854775808 with g | g
  · rw [top_off' _ (by omega) (by omega)]; omega
  · obtain ⟨r, rfl⟩ : ∃ r, x = 9223372036854775808 + r := ⟨x - 9223372036854775808, by omega⟩
    rw [show ((9223372036854775808 + r : Nat) : Int) = 9223372036854775808 + (r : Int) by omega, top_off _ (by omega) (by omega)]; omega
set_option maxHeartbeats 400000 in
theorem abs_any (x : Nat) (hx : x < 18446744073709551616) (w : World) :
    Calls Tryz.prog 166 #[.float .f64 x] w fun e w' => e = .returned (.float .f64 (rung64 x)) ∧ w' = w := by
  have l1 := f64bits
  have l2 := f64from
  have e1 := abs_bits hx
  go_enter Tryz.func166, Tryz.ntmps166
  go_wp2_with fail
  go_ret
  exact ⟨rfl, rfl⟩
theorem rung_rung (x : Nat) : rung64 (rung64 x) = rung64 x ∧ sgn64 (rung64 x) = false := by
  unfold rung64 sgn64
  exact ⟨by omega, by rw [beq_eq_false_iff_ne]; omega⟩
theorem order_max (x : Nat) : (Ieee.double.order (rung64 x) 9218868437227405311 == some Ordering.gt) = decide (rung64 x = 9218868437227405312) := by
  obtain ⟨r1, r2⟩ := rung_rung x
  rcases Nat.lt_or_ge 9218868437227405312 (rung64 x) with g | g
  · rw [order_nan1 _ (read64_nan (by rw [nan64_rung, r1]; exact decide_eq_true g)), decide_eq_false (by omega)]; rfl
  · rw [order_num64 (by rw [r1]; exact g) (by decide)]
    have e1 : srung64 (rung64 x) = rung64 x := by unfold srung64; rw [r1, r2]; rfl
    have e2 : srung64 9218868437227405311 = 9218868437227405311 := by decide
    rw [e1, e2]
    rcases Nat.lt_or_ge 9218868437227405311 (rung64 x) with k | k
    · rw [Int.compare_eq_gt.2 (by omega), decide_eq_true (by omega)]; rfl
    · rw [decide_eq_false (by omega)]
      rcases Nat.lt_or_ge (rung64 x) 9218868437227405311 with j | j
      · rw [Int.compare_eq_lt.2 (by omega)]; rfl
      · rw [Int.compare_eq_eq.2 (by omega)]; rfl
theorem order_least (x : Nat) (h : 4503599627370496 ≤ rung64 x) : (Ieee.double.order (rung64 x) 4503599627370496 == some Ordering.lt) = false := by
  obtain ⟨r1, r2⟩ := rung_rung x
  rcases Nat.lt_or_ge 9218868437227405312 (rung64 x) with g | g
  · rw [order_nan1 _ (read64_nan (by rw [nan64_rung, r1]; exact decide_eq_true g))]; rfl
  · rw [order_num64 (by rw [r1]; exact g) (by decide)]
    have e1 : srung64 (rung64 x) = rung64 x := by unfold srung64; rw [r1, r2]; rfl
    have e2 : srung64 4503599627370496 = 4503599627370496 := by decide
    rw [e1, e2, cmp_lt, decide_eq_false (by omega)]
theorem order_self64 (x : Nat) : (Ieee.double.order x x != some Ordering.eq) = nan64 x := by
  cases h : nan64 x
  · rw [nan64_rung] at h
    have h := of_decide_eq_false h
    rw [order_num64 (by omega) (by omega), Int.compare_eq_eq.2 rfl]; rfl
  · rw [order_nan1 _ (read64_nan h)]; rfl
theorem ord_zero64 (b : Nat) : (Ieee.double.order b 0 == some Ordering.eq) = decide (rung64 b = 0) := by
  cases h : nan64 b
  · rw [nan64_rung] at h
    have h := of_decide_eq_false h
    rw [order_num64 (by omega) (by decide), cmp_eq, show srung64 0 = 0 from by decide]
    unfold srung64
    rw [decide_eq_decide]
    split <;> omega
  · rw [order_nan1 _ (read64_nan h)]
    rw [nan64_rung] at h
    have h := of_decide_eq_true h
    rw [decide_eq_false (by omega)]; rfl
set_option maxHeartbeats 400000 in
theorem isinf_any (x : Nat) (hx : x < 18446744073709551616) (w : World) :
    Calls Tryz.prog 161 #[.float .f64 x, .int .i64 0] w fun e w' => e = .returned (.bool (decide (rung64 x = 9218868437227405312))) ∧ w' = w := by
  have e1 : (FloatKind.f64.format.order (rung64 x) 9218868437227405311 == some Ordering.gt) = decide (rung64 x = 9218868437227405312) := order_max x
  go_enter Tryz.func161, Tryz.ntmps161
  go_wp2_with fail
  refine (abs_any x hx _).mono ?_
  rintro e v ⟨rfl, rfl⟩
  go_wp2_with fail
  go_ret
  exact ⟨by rw [← order_max]; rfl, rfl⟩
set_option maxHeartbeats 400000 in
theorem isnan64_any (x : Nat) (w : World) :
    Calls Tryz.prog 162 #[.float .f64 x] w fun e w' => e = .returned (.bool (nan64 x)) ∧ w' = w := by
  go_enter Tryz.func162, Tryz.ntmps162
  go_wp2_with fail
  go_ret
  exact ⟨by rw [← order_self64]; rfl, rfl⟩
set_option maxHeartbeats 400000 in
theorem normal_any (x : Nat) (hx : x < 18446744073709551616) (h : 4503599627370496 ≤ rung64 x) (w : World) :
    Calls Tryz.prog 163 #[.float .f64 x] w fun e w' => e = .returned (.tuple #[.float .f64 x, .int .i64 0]) ∧ w' = w := by
  have e1 : (FloatKind.f64.format.order (rung64 x) 4503599627370496 == some Ordering.lt) = false := order_least x h
  go_enter Tryz.func163, Tryz.ntmps163
  go_wp2_with fail
  refine (abs_any x hx _).mono ?_
  rintro e v ⟨rfl, rfl⟩
  go_wp2_with fail
  go_ret2
  exact ⟨rfl, rfl⟩

set_option maxHeartbeats 1000000 in
theorem ldexp_any (neg : Bool) (m : Nat) (p x : Int) (h0 : 4503599627370496 ≤ m) (h1 : m < 9007199254740992) (p0 : -201 ≤ p) (p1 : p ≤ 75) (x0 : -300 ≤ x) (x1 : x ≤ 300) (w : World) :
    Calls Tryz.prog 159 #[.float .f64 (wd neg m p), .int .i64 x] w fun e w' => e = .returned (.float .f64 (wd neg m (p + x))) ∧ w' = w := by
  have l1 := f64bits
  have l2 := f64from
  obtain ⟨r1, r2⟩ := wd_rung (neg := neg) h1 (show p ≤ 971 by omega)
  have hl := wd_lt (neg := neg) h1 (show p ≤ 971 by omega)
  have hNo : 4503599627370496 ≤ rung64 (wd neg m p) := by rw [r1]; omega
  have hI : decide (rung64 (wd neg m p) = 9218868437227405312) = false := by rw [r1]; exact decide_eq_false (by omega)
  have hN : nan64 (wd neg m p) = false := by rw [nan64_rung, r1]; exact decide_eq_false (by omega)
  clear r1 r2
  have e1 : (FloatKind.f64.format.order (wd neg m p) 0 == some Ordering.eq) = false := order_wd_zero h0 h1 (by omega) (by omega)
  have e2 : bits .and .i64 (wrap64 ((wd neg m p : Int) / 4503599627370496)) 2047 = p + 1075 := by
    rw [show wrap64 ((wd neg m p : Int) / 4503599627370496) = (wd neg m p : Int) / 4503599627370496 by unfold wrap64; omega]
    exact wd_exp h0 h1 (by omega) (by omega)
  have e4 : bits .or .u64 ((neg.toNat : Int) * 9223372036854775808 + ((m - 4503599627370496 : Nat) : Int)) ((x + (p + 1075 - 1023) + 1023) * 4503599627370496) = (wd neg m (p + x) : Int) := by
    have h := wd_lay (neg := neg) (x := x + (p + 1075 - 1023) + 1023) h0 h1 (by omega) (by omega)
    rw [show x + (p + 1075 - 1023) + 1023 - 1075 = p + x by omega] at h
    rw [← h, show ((neg.toNat : Int) * 9223372036854775808 + ((m - 4503599627370496 : Nat) : Int)) = ((neg.toNat * 9223372036854775808 + (m - 4503599627370496) : Nat) : Int) by omega]
  have l3 := fun (w : World) => run_float_arith (P := Tryz.prog) w .mul 108 .f64 4607182418800017408 (wd neg m (p + x)) (wd neg m (p + x)) (one_mul_wd h0 h1 (by omega) (by omega))
  have e3 := wd_clear (neg := neg) (p := p) h0 h1 (by omega)
  go_enter Tryz.func159, Tryz.ntmps159
  go_wp2_with fail
  refine (isinf_any _ hl _).mono ?_
  rintro e v ⟨rfl, rfl⟩
  go_wp2_with fail
  refine (isnan64_any _ _).mono ?_
  rintro e v ⟨rfl, rfl⟩
  go_wp2_with fail
  refine (normal_any _ hl hNo _).mono ?_
  rintro e v ⟨rfl, rfl⟩
  clear hl hNo hI hN
  go_wp2_with fail
  go_ret
  exact ⟨rfl, rfl⟩

set_option maxHeartbeats 400000 in
theorem ldexp_odd (y : Nat) (x : Int) (hy : y < 18446744073709551616) (h : rung64 y = 0 ∨ 9218868437227405312 ≤ rung64 y) (w : World) :
    Calls Tryz.prog 159 #[.float .f64 y, .int .i64 x] w fun e w' => e = .returned (.float .f64 y) ∧ w' = w := by
  have hz : (FloatKind.f64.format.order y 0 == some Ordering.eq) = decide (rung64 y = 0) := ord_zero64 y
  by_cases g : rung64 y = 0
  · rw [decide_eq_true g] at hz
    clear g h
    go_enter Tryz.func159, Tryz.ntmps159
    go_wp2_with fail
    go_ret
    exact ⟨rfl, rfl⟩
  · rw [decide_eq_false g] at hz
    by_cases k : rung64 y = 9218868437227405312
    · have hI : decide (rung64 y = 9218868437227405312) = true := decide_eq_true k
      clear g h k
      go_enter Tryz.func159, Tryz.ntmps159
      go_wp2_with fail
      refine (isinf_any _ hy _).mono ?_
      rintro e v ⟨rfl, rfl⟩
      go_wp2_with fail
      go_ret
      exact ⟨rfl, rfl⟩
    · have hI : decide (rung64 y = 9218868437227405312) = false := decide_eq_false k
      have hN : nan64 y = true := by rw [nan64_rung]; exact decide_eq_true (by omega)
      clear g h k
      go_enter Tryz.func159, Tryz.ntmps159
      go_wp2_with fail
      refine (isinf_any _ hy _).mono ?_
      rintro e v ⟨rfl, rfl⟩
      go_wp2_with fail
      refine (isnan64_any _ _).mono ?_
      rintro e v ⟨rfl, rfl⟩
      go_wp2_with fail
      go_ret
      exact ⟨rfl, rfl⟩

/-- A binary64 times a power of two. -/
def ldV (y : Nat) (x : Int) : Nat := if rung64 y = 0 ∨ 9218868437227405312 ≤ rung64 y then y else ((y : Int) + x * 4503599627370496).toNat
theorem ldV_wd {neg : Bool} {m : Nat} {p x : Int} (h0 : 4503599627370496 ≤ m) (h1 : m < 9007199254740992) (p0 : -1074 ≤ p) (p1 : p ≤ 970) (q0 : -1074 ≤ p + x) : ldV (wd neg m p) x = wd neg m (p + x) := by
  obtain ⟨r1, r2⟩ := wd_rung (neg := neg) h1 (show p ≤ 971 by omega)
  unfold ldV
  rw [if_neg (by rw [r1]; omega)]
  exact wd_sum p0 q0
set_option maxHeartbeats 400000 in
theorem lib_any (a : Nat) (h : nanN a = false) (x : Int) (x0 : -300 ≤ x) (x1 : x ≤ 300) (w : World) :
    Calls Tryz.prog 153 #[.float .f64 (wideN a), .int .i64 x] w fun e w' => e = .returned (.float .f64 (ldV (wideN a) x)) ∧ w' = w := by
  have hl : wideN a < 18446744073709551616 := write64_lt _
  have hn := h
  rw [nanN_rung] at hn
  have hn := of_decide_eq_false hn
  by_cases g : rung32 a = 0 ∨ rung32 a = 2139095040
  · have hr : rung64 (wideN a) = 0 ∨ 9218868437227405312 ≤ rung64 (wideN a) := by
      rcases g with g | g
      · rw [wide_zero g, (sgn_word64 _ (by decide)).2]; exact Or.inl rfl
      · rw [wide_inf g, (sgn_word64 _ (by decide)).2]; exact Or.inr (Nat.le_refl _)
    have e1 : ldV (wideN a) x = wideN a := by unfold ldV; rw [if_pos hr]
    rw [e1]
    clear e1 g hn
    have hL := fun w => ldexp_odd (wideN a) x hl hr w
    clear hr hl
    go_enter Tryz.func153, Tryz.ntmps153
    go_wp2_with fail
    refine (hL _).mono ?_
    rintro e v ⟨rfl, rfl⟩
    go_wp2_with fail
    go_ret
    exact ⟨rfl, rfl⟩
  · obtain ⟨L, hL, m0, m1, e, hp⟩ := wide_wd (a := a) (by omega) (by omega)
    have b0 : 4503599627370496 ≤ mag32 (rung32 a) * 2 ^ (52 - L) := by
      have := Nat.mul_le_mul_right (2 ^ (52 - L)) m0
      rw [← Nat.pow_add, show L + (52 - L) = 52 by omega] at this
      exact this
    have b1 : mag32 (rung32 a) * 2 ^ (52 - L) < 9007199254740992 := by
      have := Nat.mul_lt_mul_of_pos_right m1 (Nat.two_pow_pos (52 - L))
      rw [← Nat.pow_add, show L + 1 + (52 - L) = 53 by omega] at this
      exact this
    rw [e]
    generalize mag32 (rung32 a) * 2 ^ (52 - L) = M at b0 b1
    obtain ⟨P, hP⟩ : ∃ P : Int, P = -149 + (plc32 (rung32 a) : Int) + L - 52 := ⟨_, rfl⟩
    have P0 : -201 ≤ P := by omega
    have P1 : P ≤ 75 := by omega
    rw [← hP, ldV_wd b0 b1 (by omega) (by omega) (by omega)]
    have hL' := fun w => ldexp_any (sgn32 a) M P x b0 b1 P0 P1 x0 x1 w
    clear e hP m0 m1 b0 b1 P0 P1 hp hL g hn hl h
    go_enter Tryz.func153, Tryz.ntmps153
    go_wp2_with fail
    refine (hL' _).mono ?_
    rintro e v ⟨rfl, rfl⟩
    go_wp2_with fail
    go_ret
    exact ⟨rfl, rfl⟩
set_option maxHeartbeats 400000 in
theorem lib_nan (y : Nat) (x : Int) (hy : y < 18446744073709551616) (h : nan64 y = true) (w : World) :
    Calls Tryz.prog 153 #[.float .f64 y, .int .i64 x] w fun e w' => e = .returned (.float .f64 y) ∧ w' = w := by
  have hr : rung64 y = 0 ∨ 9218868437227405312 ≤ rung64 y := by
    rw [nan64_rung] at h
    have h := of_decide_eq_true h
    omega
  have hL := fun w => ldexp_odd y x hy hr w
  clear hr
  go_enter Tryz.func153, Tryz.ntmps153
  go_wp2_with fail
  refine (hL _).mono ?_
  rintro e v ⟨rfl, rfl⟩
  go_wp2_with fail
  go_ret
  exact ⟨rfl, rfl⟩

/-- A power, not too far. -/
def clampV (n : Int) : Int := if n < -300 then -300 else if 300 < n then 300 else n
theorem clamp_bd (n : Int) : -300 ≤ clampV n ∧ clampV n ≤ 300 := by unfold clampV; split <;> (try split) <;> omega
/-- A sample times a power of two. -/
def scaleV (a : Nat) (n : Int) : Nat := if nanN a = true then 2143289344 else toldD (some (Ieee.double.read (ldV (wideN a) (clampV n))))
end Go.Proofs.YtieojgblamkgoaaGreatDoor
/- What package arith's Fma returns, by its steps in binary64, in the model's own words of floats; what was in memory stays as it was. -/
namespace Go.Proofs.YtieojgblamkgoaaGreatDoor
open Go.RowKit

theorem sum_nan1 {a : Ieee.Datum} (h : a.isNaN = true) (b : Ieee.Datum) : a.sum b = none := by
  obtain ⟨s, t, rfl⟩ := isNaN_cases h; cases b <;> rfl
theorem sum_nan2 {b : Ieee.Datum} (h : b.isNaN = true) (a : Ieee.Datum) : a.sum b = none := by
  obtain ⟨s, t, rfl⟩ := isNaN_cases h; cases a <;> rfl
theorem product_nan1 {a : Ieee.Datum} (h : a.isNaN = true) (b : Ieee.Datum) : a.product b = none := by
  obtain ⟨s, t, rfl⟩ := isNaN_cases h; cases b <;> rfl
theorem product_nan2 {b : Ieee.Datum} (h : b.isNaN = true) (a : Ieee.Datum) : a.product b = none := by
  obtain ⟨s, t, rfl⟩ := isNaN_cases h; cases a <;> rfl
theorem opp_nan {a : Ieee.Datum} (h : a.isNaN = true) : a.opposite.isNaN = true := by
  obtain ⟨s, t, rfl⟩ := isNaN_cases h; rfl
theorem add_nan1 {x : Nat} (h : nan64 x = true) (y : Nat) : floatBits .add .f64 x y = none := by
  show ((Ieee.double.read x).sum (Ieee.double.read y)).map _ = none
  rw [sum_nan1 (read64_nan h)]; rfl
theorem add_nan2 {y : Nat} (h : nan64 y = true) (x : Nat) : floatBits .add .f64 x y = none := by
  show ((Ieee.double.read x).sum (Ieee.double.read y)).map _ = none
  rw [sum_nan2 (read64_nan h)]; rfl
theorem sub_nan1 {x : Nat} (h : nan64 x = true) (y : Nat) : floatBits .sub .f64 x y = none := by
  show ((Ieee.double.read x).sum (Ieee.double.read y).opposite).map _ = none
  rw [sum_nan1 (read64_nan h)]; rfl
theorem sub_nan2 {y : Nat} (h : nan64 y = true) (x : Nat) : floatBits .sub .f64 x y = none := by
  show ((Ieee.double.read x).sum (Ieee.double.read y).opposite).map _ = none
  rw [sum_nan2 (opp_nan (read64_nan h))]; rfl
theorem mul_nan1 {x : Nat} (h : nan64 x = true) (y : Nat) : floatBits .mul .f64 x y = none := by
  show ((Ieee.double.read x).product (Ieee.double.read y)).map _ = none
  rw [product_nan1 (read64_nan h)]; rfl
theorem mul_nan2 {y : Nat} (h : nan64 y = true) (x : Nat) : floatBits .mul .f64 x y = none := by
  show ((Ieee.double.read x).product (Ieee.double.read y)).map _ = none
  rw [product_nan2 (read64_nan h)]; rfl
theorem same64 (x : Nat) (w : World) : (convert 108 108 (.float .f64 x)).run Tryz.prog w = .ok (.float .f64 x) w :=
  run_convert_float_float w 108 108 .f64 .f64 x x (by kernel_rfl) Tryz.underlying108 rfl

/-- What is drawn of a NaN goes on as one. -/
theorem go_sub1 (a b : Nat) (u : World) (y : Nat) (w : World) : (binOp .sub 108 (.float .f64 (nanw .f64 a b u)) (.float .f64 y)).run Tryz.prog w = .ok (.float .f64 (nanw .f64 (nanw .f64 a b u) y w)) w.drew :=
  run_arith_none .sub (by simp) 108 .f64 _ y (sub_nan1 (nanw64 a b u).1 y) Tryz.prog w
theorem go_sub2 (a b : Nat) (u : World) (x : Nat) (w : World) : (binOp .sub 108 (.float .f64 x) (.float .f64 (nanw .f64 a b u))).run Tryz.prog w = .ok (.float .f64 (nanw .f64 x (nanw .f64 a b u) w)) w.drew :=
  run_arith_none .sub (by simp) 108 .f64 x _ (sub_nan2 (nanw64 a b u).1 x) Tryz.prog w
theorem go_add1 (a b : Nat) (u : World) (y : Nat) (w : World) : (binOp .add 108 (.float .f64 (nanw .f64 a b u)) (.float .f64 y)).run Tryz.prog w = .ok (.float .f64 (nanw .f64 (nanw .f64 a b u) y w)) w.drew :=
  run_arith_none .add (by simp) 108 .f64 _ y (add_nan1 (nanw64 a b u).1 y) Tryz.prog w

/-- The sum, or where something is lost the one of the two about it that is odd. -/
def oddV (s l : Nat) : Nat := if s % 2 = 1 ∨ rung64 l = 0 then s else if (Ieee.double.order l 0 == some Ordering.lt) = (Ieee.double.order s 0 == some Ordering.lt) then s + 1 else s - 1
end Go.Proofs.YtieojgblamkgoaaGreatDoor
/- Plain facts: a sample times a power of two by way of binary64. -/
namespace Go.Proofs.YtieojgblamkgoaaGreatDoor
open Go.RowKit

theorem toldD_num (s : Bool) (m : Nat) (p : Int) : toldD (some (.number s m p)) = Ieee.single.word s (rungOf Ieee.single m p) := nearest_rung _ _ _ _
theorem rung_big {m : Nat} {p : Int} (hm : m ≠ 0) (hp : 128 ≤ p) : rungOf Ieee.single m p = 2139095040 := by
  have h1 : rungOf Ieee.single 1 128 ≤ rungOf Ieee.single (m * 2 ^ (p - 128).toNat) 128 := rung_mono _ _ (Nat.mul_pos (by omega) (Nat.two_pow_pos _))
  rw [rung_scale, show (128 : Int) + (((p - 128).toNat : Nat) : Int) = p by omega] at h1
  have h2 : rungOf Ieee.single 1 128 = 2139095040 := by decide +kernel
  have h3 := rungOf_le Ieee.single m p
  rw [inf32] at h3
  omega
theorem rung_small {m : Nat} {p : Int} (hm : m < 16777216) (hp : p ≤ -174) : rungOf Ieee.single m p = 0 := by
  have h1 : rungOf Ieee.single m p ≤ rungOf Ieee.single (16777216 * 2 ^ (-174 - p).toNat) p := rung_mono _ _ (by
    have : 16777216 * 1 ≤ 16777216 * 2 ^ (-174 - p).toNat := Nat.mul_le_mul_left _ (Nat.two_pow_pos _)
    omega)
  rw [rung_scale, show p + (((-174 - p).toNat : Nat) : Int) = -174 by omega] at h1
  have h2 : rungOf Ieee.single 16777216 (-174) = 0 := by decide +kernel
  omega
theorem rungOf_zero (f : Ieee.Format) (p : Int) : rungOf f 0 p = 0 := by unfold rungOf; rw [if_pos rfl]
theorem read_word64 (s : Bool) : Ieee.double.read (Ieee.double.word s 0) = .number s 0 (-1074) := by
  obtain ⟨a, b⟩ := sgn_word64 s (r := 0) (by decide)
  rw [read_fin64 (by rw [b]; decide), a, b]; rfl
theorem read_winf64 (s : Bool) : Ieee.double.read (Ieee.double.word s 9218868437227405312) = .infinity s := by
  obtain ⟨a, b⟩ := sgn_word64 s (r := 9218868437227405312) (by decide)
  rw [read_inf64 b, a]
/-- What Scale tells of a sample that is no NaN: nought, infinity, or the number rounded. -/
theorem scaleV_fin {a : Nat} (h0 : rung32 a ≠ 0) (h : rung32 a < 2139095040) (n : Int) : scaleV a n = Ieee.single.word (sgn32 a) (rungOf Ieee.single (mag32 (rung32 a)) (-149 + (plc32 (rung32 a) : Int) + n)) := by
  have hn : nanN a = false := by rw [nanN_rung]; exact decide_eq_false (by omega)
  unfold scaleV
  rw [hn, if_neg (by decide)]
  obtain ⟨L, hL, m0, m1, e, hp⟩ := wide_wd h0 h
  obtain ⟨c0, c1⟩ := clamp_bd n
  have b0 : 4503599627370496 ≤ mag32 (rung32 a) * 2 ^ (52 - L) := by
    have := Nat.mul_le_mul_right (2 ^ (52 - L)) m0
    rw [← Nat.pow_add, show L + (52 - L) = 52 by omega] at this
    exact this
  have b1 : mag32 (rung32 a) * 2 ^ (52 - L) < 9007199254740992 := by
    have := Nat.mul_lt_mul_of_pos_right m1 (Nat.two_pow_pos (52 - L))
    rw [← Nat.pow_add, show L + 1 + (52 - L) = 53 by omega] at this
    exact this
  rw [e, ldV_wd b0 b1 (by omega) (by omega) (by omega), read_wd b0 b1 (by omega) (by omega)]
  rw [toldD_num, rung_scale, show -149 + (plc32 (rung32 a) : Int) + L - 52 + clampV n + ((52 - L : Nat) : Int) = -149 + (plc32 (rung32 a) : Int) + clampV n by omega]
  refine congrArg (Ieee.single.word (sgn32 a)) ?_
  have hm := mag_ne32 h0
  have hm1 := mag_lt32 (rung32 a)
  unfold clampV
  split
  · rw [rung_small hm1 (by omega), rung_small hm1 (by omega)]
  · split
    · rw [rung_big hm (by omega), rung_big hm (by omega)]
    · rfl
theorem scaleV_zero {a : Nat} (h : rung32 a = 0) (n : Int) : scaleV a n = Ieee.single.word (sgn32 a) 0 := by
  have hn : nanN a = false := by rw [nanN_rung]; exact decide_eq_false (by omega)
  unfold scaleV ldV
  rw [hn, if_neg (by decide), wide_zero h, if_pos (Or.inl (sgn_word64 _ (by decide)).2), read_word64]
  rw [toldD_num, rungOf_zero]
theorem scaleV_inf {a : Nat} (h : rung32 a = 2139095040) (n : Int) : scaleV a n = Ieee.single.word (sgn32 a) 2139095040 := by
  have hn : nanN a = false := by rw [nanN_rung]; exact decide_eq_false (by omega)
  unfold scaleV ldV
  rw [hn, if_neg (by decide), wide_inf h, if_pos (Or.inr (by rw [(sgn_word64 _ (by decide)).2]; exact Nat.le_refl _)), read_winf64]
  show Ieee.single.word _ Ieee.single.infRung = _
  rw [inf32]
theorem scaleV_nan {a : Nat} (h : nanN a = true) (n : Int) : scaleV a n = 2143289344 := by
  unfold scaleV; rw [h]; rfl
end Go.Proofs.YtieojgblamkgoaaGreatDoor
/- Plain facts: numbers of binary64 in its least units: rounding, what it keeps, sums and differences; what is lost of a sum is told exactly. -/
namespace Go.Proofs.YtieojgblamkgoaaGreatDoor
open Go.RowKit

/-- How many digits a number in least units loses. -/
def lostK (M : Nat) : Nat := M.log2 - 52
theorem kept_bd {M : Nat} : rne M (lostK M) ≤ 9007199254740992 ∧ (0 < lostK M → 4503599627370496 ≤ rne M (lostK M)) := by
  have e1 : lastOf Ieee.double M (-1074) = -1074 + (lostK M : Int) := by unfold lastOf lostK; rw [least64, frac64]; omega
  have e3 : (-1074 : Int) - (-1074 + (lostK M : Int)) = -(lostK M : Int) := by omega
  have hk := kept_le Ieee.double M (-1074)
  rw [e1, e3, rz_neg, binade64] at hk
  refine ⟨hk, fun h => ?_⟩
  have hM : M ≠ 0 := by intro h0; subst h0; exact absurd h (by decide)
  have := le_kept Ieee.double hM (-1074) (by rw [e1, frac64]; unfold lostK at *; omega)
  rw [e1, e3, rz_neg, binade64] at this
  exact this
theorem rung64_eq {M : Nat} (hM : M.log2 ≤ 2000) : rungOf Ieee.double M (-1074) = lostK M * 4503599627370496 + rne M (lostK M) := by
  by_cases h : M = 0
  · subst h
    rw [rungOf_zero, show lostK 0 = 0 from by decide, rne_zero]
  · unfold rungOf
    rw [if_neg h]
    have e1 : lastOf Ieee.double M (-1074) = -1074 + (lostK M : Int) := by unfold lastOf lostK; rw [least64, frac64]; omega
    have e2 : (-1074 + (lostK M : Int) - -1074).toNat = lostK M := by omega
    have e3 : (-1074 : Int) - (-1074 + (lostK M : Int)) = -(lostK M : Int) := by omega
    rw [e1, least64, binade64, inf64, e2, e3, rz_neg]
    have hk := (kept_bd (M := M)).1
    have hl : lostK M ≤ 1948 := by unfold lostK; omega
    rw [Nat.min_eq_left (by omega)]
theorem val_of {K c : Nat} (h : c ≤ 9007199254740992) (h' : 0 < K → 4503599627370496 ≤ c) : val64 (K * 4503599627370496 + c) = c * 2 ^ K := by
  unfold val64 mag64
  rcases Nat.lt_or_ge c 9007199254740992 with g | g
  · rcases Nat.lt_or_ge c 4503599627370496 with k | k
    · have hK : K = 0 := by omega
      subst hK
      have e : plc64 (0 * 4503599627370496 + c) = 0 := by unfold plc64; omega
      rw [e]; congr 1; omega
    · have e : plc64 (K * 4503599627370496 + c) = K := by unfold plc64; omega
      rw [e]; congr 1; omega
  · have e : plc64 (K * 4503599627370496 + c) = K + 1 := by unfold plc64; omega
    rw [e, Nat.pow_succ]
    have e2 : K * 4503599627370496 + c - (K + 1) * 4503599627370496 = 4503599627370496 := by omega
    have e3 : c = 4503599627370496 * 2 := by omega
    rw [e2, e3, Nat.mul_assoc, Nat.mul_comm (2 ^ K) 2]
theorem vN_eq {M : Nat} (hM : M.log2 ≤ 2000) : val64 (rungOf Ieee.double M (-1074)) = rne M (lostK M) * 2 ^ lostK M := by
  rw [rung64_eq hM, val_of kept_bd.1 kept_bd.2]
theorem vN_div {M : Nat} (hM : M.log2 ≤ 2000) (h : 2 ^ lostK M ∣ M) : val64 (rungOf Ieee.double M (-1074)) = M := by
  rw [vN_eq hM]
  obtain ⟨o, ho⟩ := h
  have : rne M (lostK M) = o := by
    have e := rne_exact o (lostK M)
    rw [Nat.mul_comm, ← ho] at e
    exact e
  rw [this, Nat.mul_comm, ← ho]
theorem vN_exact {M g : Nat} (hM : M.log2 ≤ 2000) (hd : 2 ^ g ∣ M) (hb : M < 2 ^ (53 + g)) : val64 (rungOf Ieee.double M (-1074)) = M := by
  by_cases h0 : M = 0
  · subst h0; rw [rungOf_zero]; exact val_zero64
  · refine vN_div hM ?_
    have hl := (Nat.log2_lt h0).2 hb
    exact Nat.dvd_trans (Nat.pow_dvd_pow 2 (by unfold lostK; omega)) hd
theorem vN_dvd {M g : Nat} (hM : M.log2 ≤ 2000) (hd : 2 ^ g ∣ M) : 2 ^ g ∣ val64 (rungOf Ieee.double M (-1074)) := by
  rcases Nat.le_total g (lostK M) with h | h
  · rw [vN_eq hM]
    exact Nat.dvd_trans (Nat.pow_dvd_pow 2 h) (Nat.dvd_mul_left _ _)
  · rw [vN_div hM (Nat.dvd_trans (Nat.pow_dvd_pow 2 h) hd)]
    exact hd
/-- Of all multiples the rounded one is the nearest. -/
theorem rne_best (M K j : Nat) : ((rne M K * 2 ^ K : Nat) - (M : Int)).natAbs ≤ ((j * 2 ^ K : Nat) - (M : Int)).natAbs := by
  obtain ⟨a1, a2⟩ := rne_near M K
  rcases Nat.lt_trichotomy j (rne M K) with h | h | h
  · have : (j + 1) * 2 ^ K ≤ rne M K * 2 ^ K := Nat.mul_le_mul_right _ h
    rw [Nat.add_mul, Nat.one_mul] at this
    omega
  · rw [h]; exact Nat.le_refl _
  · have : (rne M K + 1) * 2 ^ K ≤ j * 2 ^ K := Nat.mul_le_mul_right _ h
    rw [Nat.add_mul, Nat.one_mul] at this
    omega
theorem vN_best {M : Nat} (hM : M.log2 ≤ 2000) (r : Nat) : ((val64 (rungOf Ieee.double M (-1074)) : Int) - (M : Int)).natAbs ≤ ((val64 r : Int) - (M : Int)).natAbs := by
  rw [vN_eq hM]
  rcases Nat.lt_or_ge (plc64 r) (lostK M) with h | h
  · -- it lies below the least multiple that is not above
    have hm : 2 ^ (52 + lostK M) ≤ M := by
      have h0 : M ≠ 0 := by intro h0; subst h0; exact absurd h (by rw [show lostK 0 = 0 from by decide]; omega)
      exact Nat.le_trans (Nat.pow_le_pow_right (by decide) (by unfold lostK; unfold lostK at h; omega)) (Nat.log2_self_le h0)
    have hv : val64 r < 2 ^ (52 + lostK M) := by
      unfold val64
      have a1 : mag64 r * 2 ^ plc64 r < 2 ^ 53 * 2 ^ plc64 r := Nat.mul_lt_mul_of_pos_right (mag_lt64 r) (Nat.two_pow_pos _)
      rw [← Nat.pow_add] at a1
      exact Nat.lt_of_lt_of_le a1 (Nat.pow_le_pow_right (by decide) (by omega))
    have hb := rne_best M (lostK M) (2 ^ 52)
    rw [← Nat.pow_add] at hb
    omega
  · have e : val64 r = mag64 r * 2 ^ (plc64 r - lostK M) * 2 ^ lostK M := by
      unfold val64
      rw [Nat.mul_assoc, ← Nat.pow_add, show plc64 r - lostK M + lostK M = plc64 r by omega]
    rw [e]
    exact rne_best M (lostK M) _

/-- A whole number of least units, rounded to binary64. -/
def RN (Z : Int) : Int := if Z < 0 then -(val64 (rungOf Ieee.double Z.natAbs (-1074)) : Int) else (val64 (rungOf Ieee.double Z.natAbs (-1074)) : Int)
theorem RN_abs (Z : Int) : (RN Z).natAbs = val64 (rungOf Ieee.double Z.natAbs (-1074)) := by unfold RN; split <;> omega
theorem RN_exact {Z : Int} {g : Nat} (hs : Z.natAbs.log2 ≤ 2000) (hd : ((2 ^ g : Nat) : Int) ∣ Z) (hb : Z.natAbs < 2 ^ (53 + g)) : RN Z = Z := by
  unfold RN
  rw [vN_exact hs (Int.ofNat_dvd_left.1 hd) hb]
  split <;> omega
theorem RN_dvd {Z : Int} {g : Nat} (hs : Z.natAbs.log2 ≤ 2000) (hd : ((2 ^ g : Nat) : Int) ∣ Z) : ((2 ^ g : Nat) : Int) ∣ RN Z := by
  rw [Int.ofNat_dvd_left, RN_abs]
  exact vN_dvd hs (Int.ofNat_dvd_left.1 hd)
theorem RN_zero : RN 0 = 0 := by
  unfold RN
  rw [show (0 : Int).natAbs = 0 from rfl, rungOf_zero, val_zero64]; rfl
theorem RN_best {Z : Int} (hs : Z.natAbs.log2 ≤ 2000) (v : Nat) : (RN Z - Z).natAbs ≤ (sval64 v - Z).natAbs := by
  have h1 := vN_best hs (rung64 v)
  have h0 := vN_best hs 0
  rw [val_zero64] at h0
  unfold RN sval64
  generalize val64 (rungOf Ieee.double Z.natAbs (-1074)) = V at h0 h1
  generalize val64 (rung64 v) = W at h1
  split <;> split <;> omega
theorem RN_self {v : Nat} (hs : (sval64 v).natAbs.log2 ≤ 2000) : RN (sval64 v) = sval64 v := by
  have := RN_best hs v
  rw [Int.sub_self] at this
  omega
theorem RN_le {Z : Int} (hs : Z.natAbs.log2 ≤ 2000) : (RN Z).natAbs ≤ 2 * Z.natAbs := by
  have h := RN_best hs 0
  have e : sval64 0 = 0 := by decide
  rw [e] at h
  omega

/-- The word of a sign and a number of least units. -/
def wordOf (σ : Bool) (Z : Int) : Nat := Ieee.double.word σ (rungOf Ieee.double Z.natAbs (-1074))
theorem wordOf_facts {σ : Bool} {Z : Int} (hs : Z.natAbs.log2 ≤ 2000) (hσ : Z ≠ 0 → σ = decide (Z < 0)) :
    rung64 (wordOf σ Z) = rungOf Ieee.double Z.natAbs (-1074) ∧ sgn64 (wordOf σ Z) = σ ∧ rung64 (wordOf σ Z) < 9218868437227405312 ∧ sval64 (wordOf σ Z) = RN Z := by
  have hr : rungOf Ieee.double Z.natAbs (-1074) < 9218868437227405312 := by
    rw [rung64_eq hs]
    have := (kept_bd (M := Z.natAbs)).1
    have : lostK Z.natAbs ≤ 1948 := by unfold lostK; omega
    omega
  obtain ⟨a, b⟩ := sgn_word64 σ (r := rungOf Ieee.double Z.natAbs (-1074)) (by omega)
  refine ⟨b, a, by unfold wordOf; rw [b]; exact hr, ?_⟩
  unfold sval64 wordOf RN
  rw [a, b]
  by_cases h : Z = 0
  · subst h
    rw [show (0 : Int).natAbs = 0 from rfl, rungOf_zero, val_zero64]
    cases σ <;> rfl
  · rw [hσ h]
    by_cases k : Z < 0
    · rw [decide_eq_true k, if_pos rfl, if_pos k]
    · rw [decide_eq_false k, if_neg (by decide), if_neg k]

/-- The sign of a sum. -/
def sg (s t : Bool) (Z : Int) : Bool := if Z = 0 then s && t else decide (Z < 0)
theorem sg_of {s t : Bool} {Z : Int} (h : Z ≠ 0) : sg s t Z = decide (Z < 0) := by unfold sg; rw [if_neg h]
/-- An exact sum, in least units. -/
theorem sum_units (s t : Bool) (m n : Nat) (i j : Int) (hi : -1074 ≤ i) (hj : -1074 ≤ j) :
    ∃ N b, (Ieee.Datum.number s m i).sum (.number t n j) = some (.number (sg s t (Ieee.signed s m (i + 1074).toNat + Ieee.signed t n (j + 1074).toNat)) N b) ∧
      ∀ f, rungOf f N b = rungOf f (Ieee.signed s m (i + 1074).toNat + Ieee.signed t n (j + 1074).toNat).natAbs (-1074) := by
  obtain ⟨k, hk⟩ : ∃ k : Nat, min i j = -1074 + (k : Int) := ⟨(min i j + 1074).toNat, by omega⟩
  obtain ⟨Y, hY⟩ : ∃ Y, Y = Ieee.signed s m (i - min i j).toNat + Ieee.signed t n (j - min i j).toNat := ⟨_, rfl⟩
  have e : Ieee.signed s m (i + 1074).toNat + Ieee.signed t n (j + 1074).toNat = Y * 2 ^ k := by
    rw [hY, Int.add_mul, signed_shift, signed_shift, show (i - min i j).toNat + k = (i + 1074).toNat by omega, show (j - min i j).toNat + k = (j + 1074).toNat by omega]
    unfold Ieee.signed
    rw [Nat.shiftLeft_eq, Nat.shiftLeft_eq, Nat.shiftLeft_zero, Nat.shiftLeft_zero]
  have hp : (0 : Int) < 2 ^ k := Int.pow_pos (by decide)
  have hz : (Y * 2 ^ k = 0) ↔ Y = 0 := by
    constructor
    · intro h; rcases Int.mul_eq_zero.1 h with h | h
      · exact h
      · omega
    · intro h; rw [h, Int.zero_mul]
  have hl : (Y * 2 ^ k < 0) ↔ Y < 0 := by
    constructor
    · intro h
      rcases Int.lt_or_le Y 0 with g | g
      · exact g
      · have := Int.mul_nonneg g (Int.le_of_lt hp); omega
    · intro h; exact Int.mul_neg_of_neg_of_pos h hp
  refine ⟨Y.natAbs, min i j, ?_, ?_⟩
  · rw [e]
    show some (Ieee.Datum.number (if Ieee.signed s m (i - min i j).toNat + Ieee.signed t n (j - min i j).toNat = 0 then s && t else decide (Ieee.signed s m (i - min i j).toNat + Ieee.signed t n (j - min i j).toNat < 0)) (Ieee.signed s m (i - min i j).toNat + Ieee.signed t n (j - min i j).toNat).natAbs (min i j)) = _
    rw [← hY]
    unfold sg
    simp only [hz, hl]
  · intro f
    rw [e, rung_down f Y.natAbs k, show min i j - (k : Int) = -1074 by omega]
    congr 1
    rw [Int.natAbs_mul, Int.natAbs_pow]; rfl
theorem signed_read (x : Nat) : Ieee.signed (sgn64 x) (mag64 (rung64 x)) (-1074 + (plc64 (rung64 x) : Int) + 1074).toNat = sval64 x := by
  rw [show (-1074 + (plc64 (rung64 x) : Int) + 1074).toNat = plc64 (rung64 x) by omega]
  unfold Ieee.signed sval64 val64
  rw [Nat.shiftLeft_eq]
theorem signed_neg (s : Bool) (m k : Nat) : Ieee.signed (!s) m k = -Ieee.signed s m k := by
  unfold Ieee.signed; cases s <;> simp
theorem add_fin {x y : Nat} (hx : rung64 x < 9218868437227405312) (hy : rung64 y < 9218868437227405312) :
    floatBits .add .f64 x y = some (wordOf (sg (sgn64 x) (sgn64 y) (sval64 x + sval64 y)) (sval64 x + sval64 y)) := by
  show ((Ieee.double.read x).sum (Ieee.double.read y)).map Ieee.double.write = _
  rw [read_fin64 hx, read_fin64 hy]
  obtain ⟨N, b, e1, e2⟩ := sum_units (sgn64 x) (sgn64 y) (mag64 (rung64 x)) (mag64 (rung64 y)) (-1074 + (plc64 (rung64 x) : Int)) (-1074 + (plc64 (rung64 y) : Int)) (by omega) (by omega)
  rw [e1]
  show some (Ieee.double.nearest _ N b) = _
  rw [nearest_rung, e2, signed_read, signed_read]; rfl
theorem sub_fin {x y : Nat} (hx : rung64 x < 9218868437227405312) (hy : rung64 y < 9218868437227405312) :
    floatBits .sub .f64 x y = some (wordOf (sg (sgn64 x) (!sgn64 y) (sval64 x - sval64 y)) (sval64 x - sval64 y)) := by
  show ((Ieee.double.read x).sum (Ieee.double.read y).opposite).map Ieee.double.write = _
  rw [read_fin64 hx, read_fin64 hy]
  obtain ⟨N, b, e1, e2⟩ := sum_units (sgn64 x) (!sgn64 y) (mag64 (rung64 x)) (mag64 (rung64 y)) (-1074 + (plc64 (rung64 x) : Int)) (-1074 + (plc64 (rung64 y) : Int)) (by omega) (by omega)
  show ((Ieee.Datum.number (sgn64 x) (mag64 (rung64 x)) (-1074 + (plc64 (rung64 x) : Int))).sum (.number (!sgn64 y) (mag64 (rung64 y)) (-1074 + (plc64 (rung64 y) : Int)))).map Ieee.double.write = _
  rw [e1]
  show some (Ieee.double.nearest _ N b) = _
  rw [nearest_rung, e2, signed_neg, signed_read, signed_read, ← Int.sub_eq_add_neg]; rfl
end Go.Proofs.YtieojgblamkgoaaGreatDoor

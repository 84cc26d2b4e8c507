/- Plain facts: binary64 words of normal numbers: how they are read, rounded, ordered and multiplied by one; samples made wide. -/
import Derived.Test.YtdbbpmadkhedlaaGaa5d5b59
import Derived.Test.YtdbbpmadkhedlaaG582a762c
import Derived.Test.YtdbbpmadkhedlaaGbf0ce6c2
namespace Go.Proofs.Ytdbbpmadkhedlaa
open Go.RowKit

/-- The binary64 word of a sign, a full significand m (from 2^52, below 2^53) and its place p. -/
def wd (neg : Bool) (m : Nat) (p : Int) : Nat := (if neg = true then 9223372036854775808 else 0) + ((p + 1074).toNat * 4503599627370496 + m)

theorem read_wd {neg : Bool} {m : Nat} {p : Int} (h0 : 4503599627370496 ≤ m) (h1 : m < 9007199254740992) (p0 : -1074 ≤ p) (p1 : p ≤ 971) : Ieee.double.read (wd neg m p) = .number neg m p := by
  unfold Ieee.Format.read
  rw [sign64, binade64, inf64, least64]
  obtain ⟨q, hq⟩ : ∃ q : Nat, q = (p + 1074).toNat := ⟨_, rfl⟩
  have e1 : (wd neg m p / 9223372036854775808 % 2 == 1) = neg := by
    unfold wd; rw [← hq]; cases neg
    · rw [beq_eq_false_iff_ne]; simp; omega
    · rw [beq_iff_eq]; simp; omega
  have e2 : wd neg m p % 9223372036854775808 = q * 4503599627370496 + m := by
    unfold wd; rw [← hq]; cases neg <;> simp <;> omega
  simp only [e1, e2]
  rw [if_neg (by omega), if_pos (by omega)]
  have e3 : (q * 4503599627370496 + m) % 4503599627370496 = m - 4503599627370496 := by omega
  have e4 : (q * 4503599627370496 + m) / 4503599627370496 - 1 = q := by omega
  have e5 : 4503599627370496 + (m - 4503599627370496) = m := by omega
  have e6 : (-1074 : Int) + (q : Int) = p := by omega
  rw [e3, e4, e5, e6]

theorem cut_exact (neg : Bool) (q d : Nat) (h : 0 < q) : Ieee.Toward.even.cut neg (q * 2 ^ d) d = q := by
  unfold Ieee.Toward.cut
  have hl : d ≤ (q * 2 ^ d).log2 + 2 := by
    have h1 : 2 ^ d ≤ q * 2 ^ d := Nat.le_mul_of_pos_left _ h
    have h2 : q * 2 ^ d ≠ 0 := by have := Nat.two_pow_pos d; omega
    have := (Nat.le_log2 h2).2 h1
    omega
  have e1 : min d ((q * 2 ^ d).log2 + 2) = d := Nat.min_eq_left hl
  rw [e1]
  have e2 : (1 <<< d : Nat) = 2 ^ d := by rw [Nat.shiftLeft_eq, Nat.one_mul]
  rw [e2]
  have hp := Nat.two_pow_pos d
  have e3 : q * 2 ^ d / 2 ^ d = q := Nat.mul_div_cancel _ hp
  have e4 : q * 2 ^ d % 2 ^ d = 0 := Nat.mul_mod_left _ _
  simp only [e3, e4]
  have : ((decide (2 ^ d < 2 * 0)) || (2 ^ d == 2 * 0 && q % 2 == 1)) = false := by
    have hne : ¬ (2 ^ d = 0) := by omega
    simp
  rw [this]; rfl

theorem log2_shift {o L k : Nat} (h0 : 2 ^ L ≤ o) (h1 : o < 2 ^ (L + 1)) : (o * 2 ^ k).log2 = L + k := by
  have hp := Nat.two_pow_pos k
  have ho : o ≠ 0 := by have := Nat.two_pow_pos L; omega
  have hne : o * 2 ^ k ≠ 0 := Nat.mul_ne_zero ho (by omega)
  refine (Nat.log2_eq_iff hne).2 ⟨?_, ?_⟩
  · rw [Nat.pow_add]; exact Nat.mul_le_mul_right _ h0
  · rw [show L + k + 1 = (L + 1) + k by omega, Nat.pow_add]; exact Nat.mul_lt_mul_of_pos_right h1 hp

theorem frac64 : Ieee.double.fractionBits = 52 := rfl
/-- A number of at most 53 binary digits is written just as it is. -/
theorem nearest_exact {neg : Bool} {o L k : Nat} {p : Int} (h0 : 2 ^ L ≤ o) (h1 : o < 2 ^ (L + 1)) (hL : L ≤ 52) (q0 : -1074 ≤ p + k + L - 52) (q1 : p + k + L - 52 ≤ 971) :
    Ieee.double.nearest neg (o * 2 ^ k) p = wd neg (o * 2 ^ (52 - L)) (p + k + L - 52) := by
  have ho : 0 < o := by have := Nat.two_pow_pos L; omega
  have hne : o * 2 ^ k ≠ 0 := Nat.mul_ne_zero (by omega) (by have := Nat.two_pow_pos k; omega)
  unfold Ieee.Format.nearest
  rw [if_neg hne, log2_shift h0 h1, frac64, least64, binade64, inf64]
  have elast : max (p + ((L + k : Nat) : Int) - ((52 : Nat) : Int)) (-1074) = p + k + L - 52 := by omega
  have b1 : o * 2 ^ (52 - L) < 9007199254740992 := by
    have : o * 2 ^ (52 - L) < 2 ^ (L + 1) * 2 ^ (52 - L) := Nat.mul_lt_mul_of_pos_right h1 (Nat.two_pow_pos _)
    rw [← Nat.pow_add, show L + 1 + (52 - L) = 53 by omega] at this
    exact this
  have b0 : 0 < o * 2 ^ (52 - L) := Nat.mul_pos ho (Nat.two_pow_pos _)
  have ekept : Ieee.Toward.even.cut neg ((o * 2 ^ k) <<< (p - (p + k + L - 52)).toNat) ((p + k + L - 52) - p).toNat = o * 2 ^ (52 - L) := by
    rw [Nat.shiftLeft_eq]
    by_cases c : k + L ≤ 52
    · have e1 : (p - (p + k + L - 52)).toNat = 52 - L - k := by omega
      have e2 : ((p + k + L - 52) - p).toNat = 0 := by omega
      rw [e1, e2, Nat.mul_assoc, ← Nat.pow_add, show k + (52 - L - k) = 52 - L by omega]
      have := cut_exact neg (o * 2 ^ (52 - L)) 0 b0
      simpa using this
    · have e1 : (p - (p + k + L - 52)).toNat = 0 := by omega
      have e2 : ((p + k + L - 52) - p).toNat = k + L - 52 := by omega
      rw [e1, e2]
      have e3 : o * 2 ^ k * 2 ^ 0 = o * 2 ^ (52 - L) * 2 ^ (k + L - 52) := by
        rw [Nat.pow_zero, Nat.mul_one, Nat.mul_assoc, ← Nat.pow_add, show 52 - L + (k + L - 52) = k by omega]
      rw [e3]
      exact cut_exact neg _ _ b0
  simp only [elast, ekept]
  unfold Ieee.Format.word wd
  rw [sign64]
  have e5 : (p + k + L - 52 - -1074).toNat = (p + k + L - 52 + 1074).toNat := by congr 1
  rw [e5, Nat.min_eq_left (by omega)]
  cases neg <;> simp

theorem nearest_zero (neg : Bool) (p : Int) : Ieee.double.nearest neg 0 p = if neg = true then 9223372036854775808 else 0 := by
  unfold Ieee.Format.nearest Ieee.Format.word
  rw [if_pos rfl, sign64]

/-- The word of a number: its value decides. -/
theorem nearest_shift {neg : Bool} {o L k j : Nat} {p r : Int} (h0 : 2 ^ L ≤ o) (h1 : o < 2 ^ (L + 1)) (hL : L ≤ 52) (hk : p + k = r + j) (q0 : -1074 ≤ p + k + L - 52) (q1 : p + k + L - 52 ≤ 971) :
    Ieee.double.nearest neg (o * 2 ^ k) p = Ieee.double.nearest neg (o * 2 ^ j) r := by
  rw [nearest_exact h0 h1 hL q0 q1, nearest_exact h0 h1 hL (by omega) (by omega)]
  congr 1; omega

theorem order_wd_self {neg : Bool} {m : Nat} {p : Int} (h0 : 4503599627370496 ≤ m) (h1 : m < 9007199254740992) (p0 : -1074 ≤ p) (p1 : p ≤ 971) : Ieee.double.order (wd neg m p) (wd neg m p) = some .eq := by
  unfold Ieee.Format.order
  rw [read_wd h0 h1 p0 p1]
  show some (compare _ _) = _
  rw [Int.compare_eq_eq.2 rfl]

theorem signed_pos {m u : Nat} : Ieee.signed false m u = (m * 2 ^ u : Nat) := by unfold Ieee.signed; rw [Nat.shiftLeft_eq]; rfl

theorem read_zero : Ieee.double.read 0 = .number false 0 (-1074) := by decide
/-- It is not nought. -/
theorem order_wd_zero {neg : Bool} {m : Nat} {p : Int} (h0 : 4503599627370496 ≤ m) (h1 : m < 9007199254740992) (p0 : -1074 ≤ p) (p1 : p ≤ 971) : (Ieee.double.order (wd neg m p) 0 == some .eq) = false := by
  unfold Ieee.Format.order
  rw [read_wd h0 h1 p0 p1, read_zero]
  show (some (compare (Ieee.signed neg m (p - min p (-1074)).toNat) (Ieee.signed false 0 _)) == some .eq) = false
  have hp := Nat.two_pow_pos (p - min p (-1074)).toNat
  have hm : 0 < m * 2 ^ (p - min p (-1074)).toNat := Nat.mul_pos (by omega) hp
  have e : Ieee.signed false 0 (-1074 - min p (-1074)).toNat = 0 := by rw [signed_pos, Nat.zero_mul]; rfl
  rw [e]
  unfold Ieee.signed
  rw [Nat.shiftLeft_eq]
  generalize m * 2 ^ (p - min p (-1074)).toNat = z at hm
  cases neg
  · rw [show (if false = true then -((z : Nat) : Int) else ((z : Nat) : Int)) = z from rfl, Int.compare_eq_gt.2 (by omega)]; rfl
  · rw [show (if true = true then -((z : Nat) : Int) else ((z : Nat) : Int)) = -z from rfl, Int.compare_eq_lt.2 (by omega)]; rfl

theorem read_max : Ieee.double.read 9218868437227405311 = .number false 9007199254740991 971 := by decide
/-- It is not above the greatest number. -/
theorem order_wd_max {m : Nat} {p : Int} (h0 : 4503599627370496 ≤ m) (h1 : m < 9007199254740992) (p0 : -1074 ≤ p) (p1 : p ≤ 971) : (Ieee.double.order (wd false m p) 9218868437227405311 == some .gt) = false := by
  unfold Ieee.Format.order
  rw [read_wd h0 h1 p0 p1, read_max]
  show (some (compare (Ieee.signed false m (p - min p 971).toNat) (Ieee.signed false 9007199254740991 (971 - min p 971).toNat)) == some .gt) = false
  rw [signed_pos, signed_pos, show (p - min p 971).toNat = 0 by omega, Nat.pow_zero, Nat.mul_one]
  have hp := Nat.two_pow_pos (971 - min p 971).toNat
  have : 9007199254740991 * 1 ≤ 9007199254740991 * 2 ^ (971 - min p 971).toNat := Nat.mul_le_mul_left _ hp
  generalize 9007199254740991 * 2 ^ (971 - min p 971).toNat = z at this
  rcases Nat.lt_or_ge m z with g | g
  · rw [Int.compare_eq_lt.2 (by omega)]; rfl
  · rw [Int.compare_eq_eq.2 (by omega)]; rfl

theorem read_least : Ieee.double.read 4503599627370496 = .number false 4503599627370496 (-1074) := by decide
/-- It is not below the least normal number. -/
theorem order_wd_least {m : Nat} {p : Int} (h0 : 4503599627370496 ≤ m) (h1 : m < 9007199254740992) (p0 : -1074 ≤ p) (p1 : p ≤ 971) : (Ieee.double.order (wd false m p) 4503599627370496 == some .lt) = false := by
  unfold Ieee.Format.order
  rw [read_wd h0 h1 p0 p1, read_least]
  show (some (compare (Ieee.signed false m (p - min p (-1074)).toNat) (Ieee.signed false 4503599627370496 (-1074 - min p (-1074)).toNat)) == some .lt) = false
  rw [signed_pos, signed_pos, show (-1074 - min p (-1074)).toNat = 0 by omega, Nat.pow_zero, Nat.mul_one]
  have hp := Nat.two_pow_pos (p - min p (-1074)).toNat
  have : m * 1 ≤ m * 2 ^ (p - min p (-1074)).toNat := Nat.mul_le_mul_left _ hp
  generalize m * 2 ^ (p - min p (-1074)).toNat = z at this
  rcases Nat.lt_or_ge 4503599627370496 z with g | g
  · rw [Int.compare_eq_gt.2 (by omega)]; rfl
  · rw [Int.compare_eq_eq.2 (by omega)]; rfl

theorem read_one : Ieee.double.read 4607182418800017408 = .number false 4503599627370496 (-52) := by decide
/-- One times a number is the number. -/
theorem one_mul_wd {neg : Bool} {m : Nat} {p : Int} (h0 : 4503599627370496 ≤ m) (h1 : m < 9007199254740992) (p0 : -1074 ≤ p) (p1 : p ≤ 971) : Ieee.double.mul 4607182418800017408 (wd neg m p) = some (wd neg m p) := by
  unfold Ieee.Format.mul
  rw [read_wd h0 h1 p0 p1, read_one]
  show some (Ieee.double.nearest (false ^^ neg) (4503599627370496 * m) (-52 + p)) = _
  congr 1
  have e1 : 4503599627370496 * m = m * 2 ^ 52 := by rw [Nat.mul_comm]
  have e2 : (false ^^ neg) = neg := by cases neg <;> rfl
  rw [e1, e2, nearest_exact (L := 52) (by omega) (by omega) (Nat.le_refl _) (by omega) (by omega)]
  rw [Nat.sub_self, Nat.pow_zero, Nat.mul_one]
  congr 1; omega

theorem wd_word (neg : Bool) (m : Nat) (p : Int) : wd neg m p = Ieee.double.word neg ((p + 1074).toNat * 4503599627370496 + m) := by
  rw [word64]; unfold wd; cases neg <;> simp
theorem wd_rung {neg : Bool} {m : Nat} {p : Int} (h1 : m < 9007199254740992) (p1 : p ≤ 971) : rung64 (wd neg m p) = (p + 1074).toNat * 4503599627370496 + m ∧ sgn64 (wd neg m p) = neg := by
  rw [wd_word]
  obtain ⟨a, b⟩ := sgn_word64 neg (r := (p + 1074).toNat * 4503599627370496 + m) (by omega)
  exact ⟨b, a⟩
theorem wd_sum {neg : Bool} {m : Nat} {p n : Int} (p0 : -1074 ≤ p) (q0 : -1074 ≤ p + n) : ((wd neg m p : Int) + n * 4503599627370496).toNat = wd neg m (p + n) := by
  unfold wd; cases neg <;> simp <;> omega

theorem mag_ne32 {r : Nat} (h : r ≠ 0) : mag32 r ≠ 0 := by
  intro hm
  have := val_pos32 (r := r) (by omega)
  unfold val32 at this
  rw [hm, Nat.zero_mul] at this
  omega
/-- A finite sample that is not 0, made wide, is a normal number. -/
theorem wide_wd {a : Nat} (h0 : rung32 a ≠ 0) (h : rung32 a < 2139095040) : ∃ L : Nat, L ≤ 23 ∧ 2 ^ L ≤ mag32 (rung32 a) ∧ mag32 (rung32 a) < 2 ^ (L + 1) ∧
    wideN a = wd (sgn32 a) (mag32 (rung32 a) * 2 ^ (52 - L)) (-149 + (plc32 (rung32 a) : Int) + L - 52) ∧ plc32 (rung32 a) ≤ 253 := by
  have hm := mag_ne32 h0
  have hm1 := mag_lt32 (rung32 a)
  have hp : plc32 (rung32 a) ≤ 253 := by unfold plc32; omega
  have e1 := Nat.log2_self_le hm
  have e2 : mag32 (rung32 a) < 2 ^ ((mag32 (rung32 a)).log2 + 1) := Nat.lt_log2_self
  have e3 : (mag32 (rung32 a)).log2 ≤ 23 := by
    have := (Nat.log2_lt hm).2 (show mag32 (rung32 a) < 2 ^ 24 from hm1)
    omega
  refine ⟨(mag32 (rung32 a)).log2, e3, e1, e2, ?_, hp⟩
  unfold wideN
  rw [read_fin32 h]
  show Ieee.double.nearest _ _ _ = _
  have := nearest_exact (neg := sgn32 a) (o := mag32 (rung32 a)) (k := 0) (p := -149 + (plc32 (rung32 a) : Int)) e1 e2 (by omega) (by omega) (by omega)
  rw [Nat.pow_zero, Nat.mul_one] at this
  rw [this]
  congr 1; omega
theorem wide_zero {a : Nat} (h : rung32 a = 0) : wideN a = Ieee.double.word (sgn32 a) 0 := by
  unfold wideN
  rw [read_fin32 (by omega), h]
  show Ieee.double.nearest _ 0 _ = _
  rw [nearest_rung]; rfl
theorem wide_inf {a : Nat} (h : rung32 a = 2139095040) : wideN a = Ieee.double.word (sgn32 a) 9218868437227405312 := by
  unfold wideN
  rw [read_inf32 h]
  show Ieee.double.word _ Ieee.double.infRung = _
  rw [inf64]
end Go.Proofs.Ytdbbpmadkhedlaa
/- What the library's Ldexp returns of a binary64 number and a power that keeps it normal, and package arith's Scale; what was in memory stays as it was. -/
namespace Go.Proofs.Ytdbbpmadkhedlaa
open Go.RowKit

theorem i64_and (a b : Nat) (ha : a < 9223372036854775808) (hb : b < 9223372036854775808) : bits .and .i64 (a : Int) (b : Int) = ((a &&& b : Nat) : Int) := by
  have hx : a &&& b < 2 ^ 63 := Nat.and_lt_two_pow _ (by omega)
  show IntKind.i64.wrap ((BitVec.ofInt 64 (a : Int) &&& BitVec.ofInt 64 (b : Int)).toNat : Int) = _
  rw [BitVec.toNat_and, ofInt_u64 a (by omega), ofInt_u64 b (by omega), IntKind.wrap_i64]
  omega
theorem top_off (r : Int) (h0 : 0 ≤ r) (h1 : r < 9223372036854775808) : bits .andNot .u64 (9223372036854775808 + r) 9223372036854775808 = r := by go_bits2
theorem top_off' (r : Int) (h0 : 0 ≤ r) (h1 : r < 9223372036854775808) : bits .andNot .u64 r 9223372036854775808 = r := by go_bits2
theorem nat_clear (x : Nat) : x &&& 9227875636482146303 = x / 9223372036854775808 % 2 * 9223372036854775808 + x % 4503599627370496 := by
  have e : (9227875636482146303 : Nat) = 2 ^ 63 ||| (2 ^ 52 - 1) := by decide
  rw [e, Nat.and_or_distrib_left, nat_bit 63 x, Nat.and_two_pow_sub_one_eq_mod]
  exact nat_join 63 _ _ (Nat.mul_mod_left _ _) (Nat.lt_trans (Nat.mod_lt _ (by decide)) (by decide))
theorem nat_lay (s q f : Nat) (hq : q < 2048) (hf : f < 4503599627370496) : (s * 9223372036854775808 + f) ||| (q * 4503599627370496) = s * 9223372036854775808 + (q * 4503599627370496 + f) := by
  have e1 : s * 9223372036854775808 + f = s * 9223372036854775808 ||| f := (nat_join 63 _ _ (by show s * 2 ^ 63 % 2 ^ 63 = 0; exact Nat.mul_mod_left _ _) (by omega)).symm
  have e2 : f ||| q * 4503599627370496 = q * 4503599627370496 + f := by
    rw [Nat.or_comm]; exact nat_join 52 _ _ (by show q * 2 ^ 52 % 2 ^ 52 = 0; exact Nat.mul_mod_left _ _) (by omega)
  rw [e1, Nat.or_assoc, e2]
  exact nat_join 63 _ _ (by show s * 2 ^ 63 % 2 ^ 63 = 0; exact Nat.mul_mod_left _ _) (by omega)

/-- The word as sign, exponent and the rest. -/
theorem wd_form (neg : Bool) (m : Nat) (p : Int) : wd neg m p = neg.toNat * 9223372036854775808 + ((p + 1074).toNat * 4503599627370496 + m) := by
  unfold wd; cases neg <;> simp
theorem wd_lt {neg : Bool} {m : Nat} {p : Int} (h1 : m < 9007199254740992) (p1 : p ≤ 971) : wd neg m p < 18446744073709551616 := by
  rw [wd_form]; have := Bool.toNat_lt neg; omega
theorem wd_exp {neg : Bool} {m : Nat} {p : Int} (h0 : 4503599627370496 ≤ m) (h1 : m < 9007199254740992) (p0 : -1074 ≤ p) (p1 : p ≤ 971) : bits .and .i64 ((wd neg m p : Int) / 4503599627370496) 2047 = p + 1075 := by
  have e1 : (wd neg m p : Int) / 4503599627370496 = ((wd neg m p / 4503599627370496 : Nat) : Int) := by omega
  have hlt := wd_lt (neg := neg) h1 p1
  rw [e1, show (2047 : Int) = ((2047 : Nat) : Int) from rfl, i64_and _ _ (by omega) (by omega), nat_mask11]
  have hb := Bool.toNat_lt neg
  rw [wd_form]
  omega
theorem wd_clear {neg : Bool} {m : Nat} {p : Int} (h0 : 4503599627370496 ≤ m) (h1 : m < 9007199254740992) (p1 : p ≤ 971) : bits .andNot .u64 (wd neg m p : Int) 9218868437227405312 = ((neg.toNat * 9223372036854775808 + (m - 4503599627370496) : Nat) : Int) := by
  have hlt := wd_lt (neg := neg) h1 p1
  rw [u64_andNot _ _ (by omega) (by omega) (by omega) (by omega)]
  rw [show (18446744073709551615 - (9218868437227405312 : Int).toNat) = 9227875636482146303 from rfl, nat_clear, Int.toNat_natCast]
  have hb := Bool.toNat_lt neg
  rw [wd_form]
  omega
theorem wd_lay {neg : Bool} {m : Nat} {x : Int} (h0 : 4503599627370496 ≤ m) (h1 : m < 9007199254740992) (x0 : 1 ≤ x) (x1 : x ≤ 2046) : bits .or .u64 ((neg.toNat * 9223372036854775808 + (m - 4503599627370496) : Nat) : Int) (x * 4503599627370496) = (wd neg m (x - 1075) : Int) := by
  have hb := Bool.toNat_lt neg
  obtain ⟨q, rfl⟩ := Int.eq_ofNat_of_zero_le (show 0 ≤ x by omega)
  rw [show ((q : Int) * 4503599627370496) = ((q * 4503599627370496 : Nat) : Int) by omega, u64_or_nat _ _ (by omega) (by omega), nat_lay _ _ _ (by omega) (by omega), wd_form]
  omega

theorem abs_bits {x : Nat} (hx : x < 18446744073709551616) : bits .andNot .u64 (x : Int) 9223372036854775808 = (rung64 x : Int) := by
  unfold rung64
  rcases Nat.lt_or_ge x 9223372036854775808 with g | g
  · rw [top_off' _ (by omega) (by omega)]; omega
  · obtain ⟨r, rfl⟩ : ∃ r, x = 9223372036854775808 + r := ⟨x - 9223372036854775808, by omega⟩
    rw [show ((9223372036854775808 + r : Nat) : Int) = 9223372036854775808 + (r : Int) by omega, top_off _ (by omega) (by omega)]; omega
theorem rung_rung (x : Nat) : rung64 (rung64 x) = rung64 x ∧ sgn64 (rung64 x) = false := by
  unfold rung64 sgn64
  exact ⟨by omega, by rw [beq_eq_false_iff_ne]; omega⟩
theorem order_max (x : Nat) : (Ieee.double.order (rung64 x) 9218868437227405311 == some Ordering.gt) = decide (rung64 x = 9218868437227405312) := by
  obtain ⟨r1, r2⟩ := rung_rung x
  rcases Nat.lt_or_ge 9218868437227405312 (rung64 x) with g | g
  · rw [order_nan1 _ (read64_nan (by rw [nan64_rung, r1]; exact decide_eq_true g)), decide_eq_false (by omega)]; rfl
  · rw [order_num64 (by rw [r1]; exact g) (by decide)]
    have e1 : srung64 (rung64 x) = rung64 x := by unfold srung64; rw [r1, r2]; rfl
    have e2 : srung64 9218868437227405311 = 9218868437227405311 := by decide
    rw [e1, e2]
    rcases Nat.lt_or_ge 9218868437227405311 (rung64 x) with k | k
    · rw [Int.compare_eq_gt.2 (by omega), decide_eq_true (by omega)]; rfl
    · rw [decide_eq_false (by omega)]
      rcases Nat.lt_or_ge (rung64 x) 9218868437227405311 with j | j
      · rw [Int.compare_eq_lt.2 (by omega)]; rfl
      · rw [Int.compare_eq_eq.2 (by omega)]; rfl
theorem order_least (x : Nat) (h : 4503599627370496 ≤ rung64 x) : (Ieee.double.order (rung64 x) 4503599627370496 == some Ordering.lt) = false := by
  obtain ⟨r1, r2⟩ := rung_rung x
  rcases Nat.lt_or_ge 9218868437227405312 (rung64 x) with g | g
  · rw [order_nan1 _ (read64_nan (by rw [nan64_rung, r1]; exact decide_eq_true g))]; rfl
  · rw [order_num64 (by rw [r1]; exact g) (by decide)]
    have e1 : srung64 (rung64 x) = rung64 x := by unfold srung64; rw [r1, r2]; rfl
    have e2 : srung64 4503599627370496 = 4503599627370496 := by decide
    rw [e1, e2, cmp_lt, decide_eq_false (by omega)]
theorem order_self64 (x : Nat) : (Ieee.double.order x x != some Ordering.eq) = nan64 x := by
  cases h : nan64 x
  · rw [nan64_rung] at h
    have h := of_decide_eq_false h
    rw [order_num64 (by omega) (by omega), Int.compare_eq_eq.2 rfl]; rfl
  · rw [order_nan1 _ (read64_nan h)]; rfl
theorem ord_zero64 (b : Nat) : (Ieee.double.order b 0 == some Ordering.eq) = decide (rung64 b = 0) := by
  cases h : nan64 b
  · rw [nan64_rung] at h
    have h := of_decide_eq_false h
    rw [order_num64 (by omega) (by decide), cmp_eq, show srung64 0 = 0 from by decide]
    unfold srung64
    rw [decide_eq_decide]
    split <;> omega
  · rw [order_nan1 _ (read64_nan h)]
    rw [nan64_rung] at h
    have h := of_decide_eq_true h
    rw [decide_eq_false (by omega)]; rfl
/-- A binary64 times a power of two. -/
def ldV (y : Nat) (x : Int) : Nat := if rung64 y = 0 ∨ 9218868437227405312 ≤ rung64 y then y else ((y : Int) + x * 4503599627370496).toNat
theorem ldV_wd {neg : Bool} {m : Nat} {p x : Int} (h0 : 4503599627370496 ≤ m) (h1 : m < 9007199254740992) (p0 : -1074 ≤ p) (p1 : p ≤ 970) (q0 : -1074 ≤ p + x) : ldV (wd neg m p) x = wd neg m (p + x) := by
  obtain ⟨r1, r2⟩ := wd_rung (neg := neg) h1 (show p ≤ 971 by omega)
  unfold ldV
  rw [if_neg (by rw [r1]; omega)]
  exact wd_sum p0 q0
/-- A power, not too far. -/
def clampV (n : Int) : Int := if n < -300 then -300 else if 300 < n then 300 else n
theorem clamp_bd (n : Int) : -300 ≤ clampV n ∧ clampV n ≤ 300 := by unfold clampV; split <;> (try split) <;> omega
/-- A sample times a power of two. -/
def scaleV (a : Nat) (n : Int) : Nat := if nanN a = true then 2143289344 else toldD (some (Ieee.double.read (ldV (wideN a) (clampV n))))
end Go.Proofs.Ytdbbpmadkhedlaa
/- Words of binary64: what is told, of NaNs one. -/
namespace Go.Proofs.Ytdbbpmadkhedlaa
open Go.RowKit

/-- What is told of a datum in binary64. -/
def told64 : Option Ieee.Datum → Nat
  | none => 9221120237041090560
  | some (.nan ..) => 9221120237041090560
  | some d => Ieee.double.write d
/-- A word of binary64, of NaNs one. -/
def canW (W : Nat) : Nat := if nan64 W = true then 9221120237041090560 else W
def add64V (a b : Nat) : Nat := told64 ((Ieee.double.read a).sum (Ieee.double.read b))
theorem sum64_nan {d : Ieee.Datum} (h : d.isNaN = true) (d' : Ieee.Datum) : told64 (d.sum d') = 9221120237041090560 := by
  obtain ⟨s, t, rfl⟩ := isNaN_cases h
  cases d' <;> rfl
theorem made64 : nan64 9221120237041090560 = true := by decide
theorem can_sum (W X : Nat) : add64V (canW W) X = add64V W X := by
  unfold canW
  cases h : nan64 W
  · rfl
  · rw [if_pos rfl]
    unfold add64V
    rw [sum64_nan (read64_nan h), sum64_nan (read64_nan made64)]
theorem told64_some {d : Ieee.Datum} (h : d.isNaN = false) : told64 (some d) = Ieee.double.write d := by
  cases d with
  | nan s t => cases h
  | infinity s => rfl
  | number s m p => rfl
theorem can_some {d : Ieee.Datum} (h : d.isNaN = false) : canW (Ieee.double.write d) = told64 (some d) := by
  unfold canW
  rw [nan64_write h, if_neg (by decide), told64_some h]
theorem can_none (x y : Nat) (w : World) : canW (nanw .f64 x y w) = 9221120237041090560 := by
  unfold canW
  rw [(nanw64 x y w).1, if_pos rfl]
end Go.Proofs.Ytdbbpmadkhedlaa
/- Sums in binary64, one behind the other: what the program tells. -/
namespace Go.Proofs.Ytdbbpmadkhedlaa
open Go.RowKit
set_option linter.unusedVariables false
set_option linter.unusedSimpArgs false

set_option maxHeartbeats 400000 in
theorem swide_any (a : Nat) (ha : a < 4294967296) (w : World) : Calls Try.prog 68 #[.int .u32 (a : Int)] w fun e w' => e = .returned (.float .f64 (wideW a)) ∧ Q w w' := by
  have l1 := f64from
  go_enter Try.func68, Try.ntmps68
  go_wp2_with fail
  refine (cwide_any a ha _).mono ?_
  rintro e w1 ⟨rfl, q1⟩
  go_wp2_with fail
  go_ret
  exact ⟨by simp, q1⟩
set_option maxHeartbeats 400000 in
theorem copysign_any (w : World) : Calls Try.prog 67 #[.float .f64 0, .float .f64 13830554455654793216] w fun e w' => e = .returned (.float .f64 9223372036854775808) ∧ w' = w := by
  have l1 : ∀ w, (callFunc 70 #[.float .f64 0]).run Try.prog w = .ok (.value (.int .u64 0)) w := fun w => f64bits 0 w
  have l2 : ∀ w, (callFunc 70 #[.float .f64 13830554455654793216]).run Try.prog w = .ok (.value (.int .u64 13830554455654793216)) w := fun w => f64bits 13830554455654793216 w
  have l3 : ∀ w, (callFunc 72 #[.int .u64 9223372036854775808]).run Try.prog w = .ok (.value (.float .f64 9223372036854775808)) w := fun w => f64from 9223372036854775808 w
  have e1 : bits .andNot .u64 0 9223372036854775808 = 0 := by decide +kernel
  have e2 : bits .and .u64 13830554455654793216 9223372036854775808 = 9223372036854775808 := by decide +kernel
  have e3 : bits .or .u64 0 9223372036854775808 = 9223372036854775808 := by decide +kernel
  go_enter Try.func67, Try.ntmps67
  go_wp2_with fail
  go_ret
  exact ⟨rfl, rfl⟩
def left64V (l : List Nat) : Nat := if l = [] then 0 else l.foldl (fun z s => add64V z (wideW s)) 9223372036854775808
end Go.Proofs.Ytdbbpmadkhedlaa
/- sums' narrow. -/
namespace Go.Proofs.Ytdbbpmadkhedlaa
open Go.RowKit
set_option linter.unusedVariables false
set_option linter.unusedSimpArgs false

set_option maxHeartbeats 400000 in
theorem snarrow_any (W : Nat) (w : World) : Calls Try.prog 64 #[.float .f64 W] w fun e w' => e = .returned (.int .u32 (toldD (some (Ieee.double.read W)) : Nat)) ∧ Q w w' := by
  have l1 := f64bits
  go_enter Try.func64, Try.ntmps64
  go_wp2_with fail
  refine (cnarrow_any W _).mono ?_
  rintro e w1 ⟨rfl, q1⟩
  go_wp2_with fail
  go_ret
  exact ⟨rfl, q1⟩
end Go.Proofs.Ytdbbpmadkhedlaa
/- Lists of whole numbers in memory. -/
namespace Go.Proofs.Ytdbbpmadkhedlaa
open Go.RowKit
set_option linter.unusedVariables false
set_option linter.unusedSimpArgs false

/-- A list of whole numbers in memory. -/
def ISl (w : World) (v : Value) (l : List Int) : Prop := (∃ g o cap, v = .slice (some ⟨g, o, none⟩) l.length cap ∧ ∀ i, i < l.length → w.cell? ⟨g, o + i, none⟩ = some (.int .i64 (l.getD i 0))) ∨ (∃ a c, v = .slice a 0 c ∧ l = [])
theorem ISl.next {w w' : World} {v : Value} {l : List Int} (h : ISl w v l) (q : Q w w') : ISl w' v l := by
  rcases h with ⟨g, o, cap, h1, h2⟩ | h
  · exact Or.inl ⟨g, o, cap, h1, fun i hi => q.cell (h2 i hi)⟩
  · exact Or.inr h
theorem ISl.form {w : World} {v : Value} {l : List Int} (h : ISl w v l) : ∃ a cap, v = .slice a l.length cap := by
  rcases h with ⟨g, o, cap, h1, h2⟩ | ⟨a, c, h1, h2⟩
  · exact ⟨_, _, h1⟩
  · subst h2; exact ⟨a, c, h1⟩
theorem ISl.some {w : World} {v : Value} {l : List Int} (h : ISl w v l) (h1 : 1 ≤ l.length) : ∃ g o cap, v = .slice (some ⟨g, o, none⟩) l.length cap ∧ ∀ i, i < l.length → w.cell? ⟨g, o + i, none⟩ = some (.int .i64 (l.getD i 0)) := by
  rcases h with h | ⟨_, _, _, h2⟩
  · exact h
  · subst h2; cases h1
end Go.Proofs.Ytdbbpmadkhedlaa
/- Sums of products with weights, where each product is a number. -/
namespace Go.Proofs.Ytdbbpmadkhedlaa
open Go.RowKit
set_option linter.unusedVariables false
set_option linter.unusedSimpArgs false

/-- The sum of products. -/
def dotF (l : List Nat) : Nat := if l = [] then 0 else l.foldl add64V 9223372036854775808
set_option maxHeartbeats 4000000 in
set_option maxRecDepth 100000 in
theorem dot_fin (vw vl : Value) (W : List Int) (S Ps : List Nat) (w : World) (hw : ISl w vw W) (hl : USl w vl S) (hn : S.length ≤ 35184372087808) (he : W.length = S.length) (hb : ∀ i, S.getD i 0 < 4294967296)
    (hW : ∀ i, i < W.length → W.getD i 0 ≤ 268435456 ∧ -268435456 ≤ W.getD i 0) (hP : Ps.length = S.length) (hp : ∀ i, i < S.length → floatBits .mul .f64 (floatOfInt .f64 (W.getD i 0)) (wideW (S.getD i 0)) = some (Ps.getD i 0)) :
    Calls Try.prog 63 #[vw, vl] w fun e w' => ∃ X : Nat, e = .returned (.tuple #[.float .f64 X, .int .i64 0]) ∧ X < 18446744073709551616 ∧ canW X = dotF Ps ∧ Q w w' := by
  obtain ⟨aw, cw, rfl⟩ := hw.form
  obtain ⟨al, cl, rfl⟩ := hl.form
  have hn' : W.length ≤ 35184372087808 := by rw [he]; exact hn
  have ne0 : ((W.length : Int) != (S.length : Int)) = false := by rw [he]; simp
  have HS : Hid (USl w (.slice al S.length cl) S) := hl
  have HI : Hid (ISl w (.slice aw W.length cw) W) := hw
  have HB : Hid (∀ i, S.getD i 0 < 4294967296) := hb
  have HW : Hid _ := hW
  have HP : Hid _ := hp
  have HE : Hid (W.length = S.length) := he
  have HL : Hid (Ps.length = S.length) := hP
  clear hl hw hb hW hp he hP
  go_enter Try.func63, Try.ntmps63
  go_wp2_with fail
  go_loopg [19] (W.length) (fun gh s19 wr => ∃ i : Nat, s19 = .int .i64 (i : Int) ∧ i ≤ W.length ∧ gh = W.length - i ∧ wr = w)
  case atStart => exact ⟨0, rfl, by omega, rfl, rfl⟩
  case round =>
    obtain ⟨i, rfl, hi, rfl, rfl⟩ := hrel
    by_cases hlt : i < W.length
    · obtain ⟨g, o, cap', hsl, hI⟩ := HI.out.some (by omega)
      injection hsl with hs1 hs2 hs3
      subst hs1 hs3
      clear hs2
      have hc := hI i hlt
      obtain ⟨h1, h2⟩ := HW.out i hlt
      have h1' : ¬ 268435456 < W.getD i 0 := by omega
      have h2' : ¬ W.getD i 0 < -268435456 := by omega
      generalize W.getD i 0 = x at *
      clear hI h1 h2
      go_wp2_with fail
      go_roundg (W.length - (i + 1))
      case measure => go_light; omega
      case rel => go_light; exact ⟨i + 1, by simp, by omega, rfl, rfl⟩
    · obtain rfl : i = W.length := by omega
      have hge : ¬ (W.length : Int) < (W.length : Int) := by omega
      by_cases h0 : S.length = 0
      · have b0 : ((S.length : Int) == 0) = true := by rw [h0]; rfl
        have HF : Hid (dotF Ps = 0) := by
          show dotF Ps = 0
          rw [List.eq_nil_of_length_eq_zero (HL.out.trans h0)]; rfl
        clear h0
        go_wp2_with fail
        go_ret2
        exact ⟨0, rfl, by decide, by rw [HF.out]; decide +kernel, Q.refl _⟩
      · have b0 : ((S.length : Int) == 0) = false := by rw [beq_eq_false_iff_ne]; omega
        have HF : Hid (dotF Ps = Ps.foldl add64V 9223372036854775808) := by
          show dotF Ps = _
          unfold dotF
          rw [if_neg (fun e => h0 (by rw [← HL.out, e]; rfl))]
        clear h0
        go_wp2_with fail
        refine (copysign_any _).mono ?_
        rintro e w0 ⟨rfl, rfl⟩
        go_wp2_with fail
        go_loopg [8, 36] (S.length) (fun gh s8 s36 wr => ∃ i X : Nat, s8 = .float .f64 X ∧ Hid (canW X = (Ps.take i).foldl add64V 9223372036854775808) ∧ X < 18446744073709551616 ∧ s36 = .int .i64 (i : Int) ∧ i ≤ S.length ∧ gh = S.length - i ∧ Q w0 wr)
        case atStart => exact ⟨0, 9223372036854775808, rfl, (show canW 9223372036854775808 = 9223372036854775808 by decide +kernel), by decide, rfl, by omega, rfl, Q.refl _⟩
        case round =>
          obtain ⟨i, X, rfl, HX, hX, rfl, hi2, rfl, qr⟩ := hrel
          by_cases hlt : i < S.length
          · obtain ⟨g, o, cap', hsl, hcap, hI⟩ := HS.out.some (by omega)
            injection hsl with hs1 hs2 hs3
            subst hs1 hs3
            clear hs2
            have hwi : i < W.length := by rw [HE.out]; exact hlt
            have hwi' : (i : Int) < (W.length : Int) := by omega
            obtain ⟨g2, o2, cap2, hsl2, hI2⟩ := HI.out.some (by omega)
            injection hsl2 with hs1 hs2 hs3
            subst hs1 hs3
            clear hs2
            have hc := qr.cell (hI i hlt)
            have hc2 := qr.cell (hI2 i hwi)
            have hx := HB.out i
            have hpi := HP.out i hlt
            have HFo : Hid ((Ps.take (i + 1)).foldl add64V 9223372036854775808 = add64V ((Ps.take i).foldl add64V 9223372036854775808) (Ps.getD i 0)) := take_succ_foldl _ _ _ _ (by rw [HL.out]; exact hlt)
            have HQ : Hid (Q w0 wr) := qr
            generalize S.getD i 0 = x at *
            generalize W.getD i 0 = y at *
            generalize Ps.getD i 0 = p at *
            have HC : Hid (∀ X', canW X' = add64V X p → canW X' = (Ps.take (i + 1)).foldl add64V 9223372036854775808) := fun X' h => by rw [HFo.out, ← HX.out, can_sum]; exact h
            have l1 := fun w => run_float_arith (P := Try.prog) w .mul 100 .f64 _ _ _ hpi
            have SW : Hid (∀ n : QW wr, Calls Try.prog 68 #[.int .u32 (x : Int)] n.x fun e w' => e = .returned (.float .f64 (wideW x)) ∧ Q n.x w') := fun n => swide_any x hx n.x
            clear qr HFo HX hI hI2 hpi
            have dc2 := qw_cell hc2
            have n0 := qw_some wr
            go_wp2_with fail
            refine wp_region_quiet_Q (by kernel_rfl) (by kernel_rfl) ?_
            repeat (first | go_big_quiet_step (first | (go_at_call 68; exact calls_qw (SW.out _))) | quiet_step (first | (go_at_call 68; exact calls_qw (SW.out _))))
            refine wpQuiet_nil ?_
            intro w4 hw'
            have hq4 := qw_out hw'
            clear hw' n0 dc2 SW hc hc2
            cases hd : (Ieee.double.read X).sum (Ieee.double.read p) with
            | none =>
              have hf : floatBits .add .f64 X p = none := by
                show ((Ieee.double.read X).sum (Ieee.double.read p)).map Ieee.double.write = none
                rw [hd]; rfl
              have l2 := fun w => run_arith_none .add (by simp) 100 .f64 X p hf Try.prog w
              have HE2 : Hid (add64V X p = 9221120237041090560) := by show add64V X p = _; unfold add64V; rw [hd]; rfl
              clear hd hf l1
              go_wp2_with fail
              go_roundg (S.length - (i + 1))
              case measure => go_light; omega
              case rel =>
                go_light
                exact ⟨i + 1, _, rfl, HC.out _ (by rw [HE2.out]; exact can_none _ _ _), (nanw64 _ _ _).2, by simp, by omega, rfl, (HQ.out.trans hq4).drew⟩
            | some d =>
              have hf : floatBits .add .f64 X p = some (Ieee.double.write d) := by
                show ((Ieee.double.read X).sum (Ieee.double.read p)).map Ieee.double.write = _
                rw [hd]; rfl
              have l2 := fun w => run_float_arith (P := Try.prog) w .add 100 .f64 X p _ hf
              have HE2 : Hid (add64V X p = told64 (some d)) := by show add64V X p = _; unfold add64V; rw [hd]
              have HD : Hid (d.isNaN = false) := sum_num hd
              clear hd hf l1
              go_wp2_with fail
              go_roundg (S.length - (i + 1))
              case measure => go_light; omega
              case rel =>
                go_light
                exact ⟨i + 1, _, rfl, HC.out _ (by rw [HE2.out]; exact can_some HD.out), write64_lt _, by simp, by omega, rfl, HQ.out.trans hq4⟩
          · obtain rfl : i = S.length := by omega
            have hge2 : ¬ (S.length : Int) < (S.length : Int) := by omega
            have HQ : Hid (Q w0 wr) := qr
            have HZ : Hid (canW X = dotF Ps) := by
              show canW X = dotF Ps
              rw [HF.out, HX.out, ← HL.out, List.take_of_length_le (Nat.le_refl _)]
            clear qr HX
            go_wp2_with fail
            go_ret2
            exact ⟨X, rfl, hX, HZ.out, HQ.out⟩
set_option maxHeartbeats 1000000 in
theorem dot_short (vw vl : Value) (W : List Int) (S : List Nat) (w : World) (hw : ISl w vw W) (hl : USl w vl S) (he : W.length ≠ S.length) :
    Calls Try.prog 63 #[vw, vl] w fun e w' => e = .returned (.tuple #[.float .f64 0, .int .i64 30]) ∧ w' = w := by
  obtain ⟨aw, cw, rfl⟩ := hw.form
  obtain ⟨al, cl, rfl⟩ := hl.form
  have ne0 : ((W.length : Int) != (S.length : Int)) = true := by rw [bne_iff_ne]; omega
  clear hw hl he
  go_enter Try.func63, Try.ntmps63
  go_wp2_with fail
  go_ret2
  exact ⟨rfl, rfl⟩
/-- A 65536th of a binary64, as a sample. -/
def overW (X : Nat) : Nat := match floatBits .quo .f64 X 4679240012837945344 with
  | none => 2143289344
  | some Z => toldD (some (Ieee.double.read Z))
theorem quo_nan {X : Nat} (h : nan64 X = true) : floatBits .quo .f64 X 4679240012837945344 = none := by
  obtain ⟨s, t, e⟩ := isNaN_cases (read64_nan h)
  show ((Ieee.double.read X).quotient (Ieee.double.fractionBits + 2) (Ieee.double.read 4679240012837945344)).map Ieee.double.write = none
  rw [e]
  rfl
theorem told_nan {X : Nat} (h : nan64 X = true) : toldD (some (Ieee.double.read X)) = 2143289344 := by
  obtain ⟨s, t, e⟩ := isNaN_cases (read64_nan h)
  rw [e]
  rfl
theorem over_can (X : Nat) : overW (canW X) = overW X := by
  unfold canW
  cases h : nan64 X
  · rfl
  · rw [if_pos rfl]
    unfold overW
    rw [quo_nan h, quo_nan made64]
set_option maxHeartbeats 1000000 in
theorem dot_of {vw vl : Value} {w : World} {D : Nat} (H : Calls Try.prog 63 #[vw, vl] w fun e w' => ∃ X : Nat, e = .returned (.tuple #[.float .f64 X, .int .i64 0]) ∧ X < 18446744073709551616 ∧ canW X = D ∧ Q w w') :
    Calls Try.prog 59 #[vw, vl] w fun e w' => e = .returned (.tuple #[.int .u32 (overW D : Nat), .int .i64 0]) ∧ Q w w' := by
  have HD : Hid _ := H
  clear H
  go_enter Try.func59, Try.ntmps59
  go_wp2_with fail
  refine Calls.mono HD.out ?_
  rintro e w1 ⟨X, rfl, hX, hc, q1⟩
  have HO : Hid (overW D = overW X) := by
    show overW D = overW X
    rw [← hc, over_can]
  clear hc
  cases hf : floatBits .quo .f64 X 4679240012837945344 with
  | none =>
    have l2 := fun w => run_arith_none .quo (by simp) 100 .f64 X 4679240012837945344 hf Try.prog w
    have HT : Hid (overW X = 2143289344) := by
      show overW X = _
      unfold overW; rw [hf]
    clear hf
    go_wp2_with fail
    refine (snarrow_any _ _).mono ?_
    rintro e w2 ⟨rfl, q2⟩
    rw [told_nan (nanw64 _ _ _).1]
    go_wp2_with fail
    go_ret2
    exact ⟨by rw [HO.out, HT.out]; rfl, (q1.drew).trans q2⟩
  | some Z =>
    have l2 := fun w => run_float_arith (P := Try.prog) w .quo 100 .f64 X 4679240012837945344 _ hf
    have HT : Hid (overW X = toldD (some (Ieee.double.read Z))) := by
      show overW X = _
      unfold overW; rw [hf]
    clear hf
    go_wp2_with fail
    refine (snarrow_any _ _).mono ?_
    rintro e w2 ⟨rfl, q2⟩
    rw [← HT.out, ← HO.out]
    go_wp2_with fail
    go_ret2
    exact ⟨rfl, q1.trans q2⟩
end Go.Proofs.Ytdbbpmadkhedlaa
/- Sums of products with weights: the program's, whatever the products are. -/
namespace Go.Proofs.Ytdbbpmadkhedlaa
open Go.RowKit
set_option linter.unusedVariables false
set_option linter.unusedSimpArgs false

/-- A product in binary64. -/
def prodV (y : Int) (s : Nat) : Nat := told64 ((Ieee.double.read (floatOfInt .f64 y)).product (Ieee.double.read (wideW s)))
theorem prod_num {d d' e : Ieee.Datum} (h : d.product d' = some e) : e.isNaN = false := by
  cases d <;> cases d' <;> simp [Ieee.Datum.product] at h
  all_goals first | (subst h; rfl) | (split at h <;> first | (cases h) | (injection h with h; subst h; rfl)) | (obtain ⟨_, h⟩ := h; subst h; rfl)
section
variable {P : Program} {ρ : Operand → Value} {x : World} {d : Option Tmp} {ty : TypeId} {ps : String} {af : Array Edge} {g : Option (Nat × Bool)}
theorem run_ixi {j k gg o Lw cap i : Nat} (h : ρ (.tmp j) = .slice (some ⟨gg, o, none⟩) Lw cap) (h' : ρ (.tmp k) = .int .i64 (i : Nat)) (hi : i < Lw) : (execOp ρ { dst := d, op := .indexAddr 51 (.tmp j) (.tmp k), type := ty, pos := ps, after := af, guard := g }).run Try.prog x = .ok (.value (.pointer (some ⟨gg, o + i, none⟩))) x := by
  simp [execOp, h, h', go_sem, hi]
theorem run_ldi {j : Nat} {p : Addr} {v : Value} (h : ρ (.tmp j) = .pointer (some p)) (c : x.cell? p = some v) : (execOp ρ { dst := d, op := .load 3 (.tmp j), type := ty, pos := ps, after := af, guard := g }).run Try.prog x = .ok (.value v) x := by
  simp [execOp, h, go_sem, c]
theorem run_cvf {j : Nat} {n : Int} (h : ρ (.tmp j) = .int .i64 n) : (execOp ρ { dst := d, op := .convert 3 100 (.tmp j), type := ty, pos := ps, after := af, guard := g }).run Try.prog x = .ok (.value (.float .f64 (floatOfInt .f64 n))) x := by
  simp [execOp, h, go_sem]
theorem run_mulf {j k : Nat} {y : Int} {s : Nat} (h : ρ (.tmp j) = .float .f64 (floatOfInt .f64 y)) (h' : ρ (.tmp k) = .float .f64 (wideW s)) : ∃ W x', (execOp ρ { dst := d, op := .binOp .mul 100 (.tmp j) (.tmp k) 100, type := ty, pos := ps, after := af, guard := g }).run Try.prog x = .ok (.value (.float .f64 W)) x' ∧ Q x x' ∧ W < 18446744073709551616 ∧ canW W = prodV y s := by
  cases hd : (Ieee.double.read (floatOfInt .f64 y)).product (Ieee.double.read (wideW s)) with
  | none =>
    have hf : floatBits .mul .f64 (floatOfInt .f64 y) (wideW s) = none := by
      show ((Ieee.double.read (floatOfInt .f64 y)).product (Ieee.double.read (wideW s))).map Ieee.double.write = none
      rw [hd]; rfl
    have l1 := run_arith_none .mul (by simp) 100 .f64 (floatOfInt .f64 y) (wideW s) hf Try.prog x
    refine ⟨nanw .f64 (floatOfInt .f64 y) (wideW s) x, x.drew, ?_, (Q.refl x).drew, (nanw64 _ _ _).2, ?_⟩
    · simp [execOp, h, h', go_sem, l1]
    · unfold prodV
      rw [hd]
      exact can_none _ _ _
  | some e =>
    have hf : floatBits .mul .f64 (floatOfInt .f64 y) (wideW s) = some (Ieee.double.write e) := by
      show ((Ieee.double.read (floatOfInt .f64 y)).product (Ieee.double.read (wideW s))).map Ieee.double.write = _
      rw [hd]; rfl
    have l1 := run_float_arith (P := Try.prog) x .mul 100 .f64 (floatOfInt .f64 y) (wideW s) _ hf
    refine ⟨Ieee.double.write e, x, ?_, Q.refl x, write64_lt e, ?_⟩
    · simp [execOp, h, h', go_sem, l1]
    · unfold prodV
      rw [hd]
      exact can_some (prod_num hd)
end
def flS (P : Nat) : Spec := ⟨fun v _ => ∃ W, v = .float .f64 W ∧ W < 18446744073709551616 ∧ canW W = P, fun h _ => h⟩
def oD5_0 : Oper := { dst := some 41, op := .move (.tmp 0), type := 51, pos := "sums.go:119", after := #[], guard := none }
def oD5_1 : Oper := { dst := some 42, op := .move (.tmp 9), type := 3, pos := "sums.go:119", after := #[], guard := none }
def oD5_2 : Oper := { dst := some 43, op := .indexAddr 51 (.tmp 41) (.tmp 42), type := 0, pos := "sums.go:119", after := #[⟨0, .data⟩, ⟨1, .data⟩], guard := none }
def oD5_3 : Oper := { dst := some 44, op := .load 3 (.tmp 43), type := 3, pos := "sums.go:119", after := #[⟨2, .data⟩], guard := none }
def oD5_4 : Oper := { dst := some 45, op := .convert 3 100 (.tmp 44), type := 100, pos := "sums.go:119", after := #[⟨3, .data⟩], guard := none }
def oD5_5 : Oper := { dst := some 46, op := .move (.tmp 10), type := 34, pos := "sums.go:119", after := #[], guard := none }
def oD5_6 : Oper := { dst := some 47, op := .call { callee := .value (.func 68), args := #[.tmp 46], argTypes := #[34] }, type := 100, pos := "sums.go:119", after := #[⟨5, .data⟩], guard := none }
def oD5_7 : Oper := { dst := some 48, op := .binOp .mul 100 (.tmp 45) (.tmp 47) 100, type := 100, pos := "sums.go:119", after := #[⟨4, .data⟩, ⟨6, .data⟩], guard := none }
def oD5_8 : Oper := { dst := some 11, op := .assign (.tmp 48), type := 100, pos := "sums.go:119", after := #[⟨7, .data⟩, ⟨6, .chain⟩, ⟨0, .phase⟩, ⟨1, .phase⟩, ⟨2, .phase⟩, ⟨3, .phase⟩, ⟨4, .phase⟩, ⟨5, .phase⟩, ⟨6, .phase⟩, ⟨7, .phase⟩], guard := none }
def opsD5 : List Oper := [oD5_0, oD5_1, oD5_2, oD5_3, oD5_4, oD5_5, oD5_6, oD5_7, oD5_8]
def sD5 : List Nat := [41, 42, 43, 44, 45, 46, 47, 48]
def spD5 (gb ob ib Lw cap : Nat) (y : Int) (s : Nat) : List Spec := [spV (.slice (some ⟨gb, ob, none⟩) Lw cap), spV (.int .i64 (ib : Nat)), spV (.pointer (some ⟨gb, ob + ib, none⟩)), spV (.int .i64 y), spV (.float .f64 (floatOfInt .f64 y)), spV (.int .u32 (s : Nat)), spV (.float .f64 (wideW s)), flS (prodV y s)]
structure EnvD5 (a0 : Act) (w : World) (gb ob ib Lw cap : Nat) (y : Int) (s : Nat) : Prop where
  h0 : a0.tmps[0]? = some (.slice (some ⟨gb, ob, none⟩) Lw cap)
  h9 : a0.tmps[9]? = some (.int .i64 (ib : Nat))
  h10 : a0.tmps[10]? = some (.int .u32 (s : Nat))
  hi : ib < Lw
  c : w.cell? ⟨gb, ob + ib, none⟩ = some (.int .i64 y)
  hs : s < 4294967296
theorem yD5_0 {a0 : Act} {w : World} {gb ob ib Lw cap : Nat} {y : Int} {s : Nat} (E : EnvD5 a0 w gb ob ib Lw cap y s) {R : Exit → Act → World → Prop} {a : Act} {x : World} (q : Q w x) (oth : ∀ j, j ∉ sD5 → a.tmps[j]? = a0.tmps[j]?) (dep : ∀ ed ∈ oD5_0.after, Region.binds .any ed = true → ∀ t', sD5[ed.on]? = some t' → ∃ v, a.tmps[t']? = some v ∧ specAt (spD5 gb ob ib Lw cap y s) ed.on v x) : Yld Try.prog R oD5_0 a x 41 (fun v x' => specAt (spD5 gb ob ib Lw cap y s) 0 v x' ∧ (0 ∈ ([] : List Nat) → v = ptrV x.heap.size)) := by
  exact yld_move ((oth 0 (by decide)).trans E.h0) ⟨rfl, fun h => absurd h (by decide)⟩
theorem yD5_1 {a0 : Act} {w : World} {gb ob ib Lw cap : Nat} {y : Int} {s : Nat} (E : EnvD5 a0 w gb ob ib Lw cap y s) {R : Exit → Act → World → Prop} {a : Act} {x : World} (q : Q w x) (oth : ∀ j, j ∉ sD5 → a.tmps[j]? = a0.tmps[j]?) (dep : ∀ ed ∈ oD5_1.after, Region.binds .any ed = true → ∀ t', sD5[ed.on]? = some t' → ∃ v, a.tmps[t']? = some v ∧ specAt (spD5 gb ob ib Lw cap y s) ed.on v x) : Yld Try.prog R oD5_1 a x 42 (fun v x' => specAt (spD5 gb ob ib Lw cap y s) 1 v x' ∧ (1 ∈ ([] : List Nat) → v = ptrV x.heap.size)) := by
  exact yld_move ((oth 9 (by decide)).trans E.h9) ⟨rfl, fun h => absurd h (by decide)⟩
theorem yD5_2 {a0 : Act} {w : World} {gb ob ib Lw cap : Nat} {y : Int} {s : Nat} (E : EnvD5 a0 w gb ob ib Lw cap y s) {R : Exit → Act → World → Prop} {a : Act} {x : World} (q : Q w x) (oth : ∀ j, j ∉ sD5 → a.tmps[j]? = a0.tmps[j]?) (dep : ∀ ed ∈ oD5_2.after, Region.binds .any ed = true → ∀ t', sD5[ed.on]? = some t' → ∃ v, a.tmps[t']? = some v ∧ specAt (spD5 gb ob ib Lw cap y s) ed.on v x) : Yld Try.prog R oD5_2 a x 43 (fun v x' => specAt (spD5 gb ob ib Lw cap y s) 2 v x' ∧ (2 ∈ ([] : List Nat) → v = ptrV x.heap.size)) := by
  obtain ⟨v0, t0, f0⟩ := dep ⟨0, .data⟩ (by simp [oD5_2]) rfl 41 rfl
  have f0 : v0 = (.slice (some ⟨gb, ob, none⟩) Lw cap) := f0
  subst f0
  obtain ⟨v1, t1, f1⟩ := dep ⟨1, .data⟩ (by simp [oD5_2]) rfl 42 rfl
  have f1 : v1 = (.int .i64 (ib : Nat)) := f1
  subst f1
  exact yld_run (x' := x) rfl (run_ixi (tmp_eval t0) (tmp_eval t1) E.hi) (Q.refl x) ⟨rfl, fun h => absurd h (by decide)⟩
theorem yD5_3 {a0 : Act} {w : World} {gb ob ib Lw cap : Nat} {y : Int} {s : Nat} (E : EnvD5 a0 w gb ob ib Lw cap y s) {R : Exit → Act → World → Prop} {a : Act} {x : World} (q : Q w x) (oth : ∀ j, j ∉ sD5 → a.tmps[j]? = a0.tmps[j]?) (dep : ∀ ed ∈ oD5_3.after, Region.binds .any ed = true → ∀ t', sD5[ed.on]? = some t' → ∃ v, a.tmps[t']? = some v ∧ specAt (spD5 gb ob ib Lw cap y s) ed.on v x) : Yld Try.prog R oD5_3 a x 44 (fun v x' => specAt (spD5 gb ob ib Lw cap y s) 3 v x' ∧ (3 ∈ ([] : List Nat) → v = ptrV x.heap.size)) := by
  obtain ⟨v2, t2, f2⟩ := dep ⟨2, .data⟩ (by simp [oD5_3]) rfl 43 rfl
  have f2 : v2 = (.pointer (some ⟨gb, ob + ib, none⟩)) := f2
  subst f2
  exact yld_run (x' := x) rfl (run_ldi (tmp_eval t2) (q.cell E.c)) (Q.refl x) ⟨rfl, fun h => absurd h (by decide)⟩
theorem yD5_4 {a0 : Act} {w : World} {gb ob ib Lw cap : Nat} {y : Int} {s : Nat} (E : EnvD5 a0 w gb ob ib Lw cap y s) {R : Exit → Act → World → Prop} {a : Act} {x : World} (q : Q w x) (oth : ∀ j, j ∉ sD5 → a.tmps[j]? = a0.tmps[j]?) (dep : ∀ ed ∈ oD5_4.after, Region.binds .any ed = true → ∀ t', sD5[ed.on]? = some t' → ∃ v, a.tmps[t']? = some v ∧ specAt (spD5 gb ob ib Lw cap y s) ed.on v x) : Yld Try.prog R oD5_4 a x 45 (fun v x' => specAt (spD5 gb ob ib Lw cap y s) 4 v x' ∧ (4 ∈ ([] : List Nat) → v = ptrV x.heap.size)) := by
  obtain ⟨v3, t3, f3⟩ := dep ⟨3, .data⟩ (by simp [oD5_4]) rfl 44 rfl
  have f3 : v3 = (.int .i64 y) := f3
  subst f3
  exact yld_run (x' := x) rfl (run_cvf (tmp_eval t3)) (Q.refl x) ⟨rfl, fun h => absurd h (by decide)⟩
theorem yD5_5 {a0 : Act} {w : World} {gb ob ib Lw cap : Nat} {y : Int} {s : Nat} (E : EnvD5 a0 w gb ob ib Lw cap y s) {R : Exit → Act → World → Prop} {a : Act} {x : World} (q : Q w x) (oth : ∀ j, j ∉ sD5 → a.tmps[j]? = a0.tmps[j]?) (dep : ∀ ed ∈ oD5_5.after, Region.binds .any ed = true → ∀ t', sD5[ed.on]? = some t' → ∃ v, a.tmps[t']? = some v ∧ specAt (spD5 gb ob ib Lw cap y s) ed.on v x) : Yld Try.prog R oD5_5 a x 46 (fun v x' => specAt (spD5 gb ob ib Lw cap y s) 5 v x' ∧ (5 ∈ ([] : List Nat) → v = ptrV x.heap.size)) := by
  exact yld_move ((oth 10 (by decide)).trans E.h10) ⟨rfl, fun h => absurd h (by decide)⟩
theorem yD5_6 {a0 : Act} {w : World} {gb ob ib Lw cap : Nat} {y : Int} {s : Nat} (E : EnvD5 a0 w gb ob ib Lw cap y s) {R : Exit → Act → World → Prop} {a : Act} {x : World} (q : Q w x) (oth : ∀ j, j ∉ sD5 → a.tmps[j]? = a0.tmps[j]?) (dep : ∀ ed ∈ oD5_6.after, Region.binds .any ed = true → ∀ t', sD5[ed.on]? = some t' → ∃ v, a.tmps[t']? = some v ∧ specAt (spD5 gb ob ib Lw cap y s) ed.on v x) : Yld Try.prog R oD5_6 a x 47 (fun v x' => specAt (spD5 gb ob ib Lw cap y s) 6 v x' ∧ (6 ∈ ([] : List Nat) → v = ptrV x.heap.size)) := by
  obtain ⟨v5, t5, f5⟩ := dep ⟨5, .data⟩ (by simp [oD5_6]) rfl 46 rfl
  have f5 : v5 = (.int .u32 (s : Nat)) := f5
  subst f5
  refine yld_call (enters_of Try.func68 (by kernel_rfl) rfl) (args1 t5) ((swide_any s E.hs x).mono ?_)
  rintro u x' ⟨rfl, q'⟩
  exact ⟨_, rfl, q', rfl, fun h => absurd h (by decide)⟩
theorem yD5_7 {a0 : Act} {w : World} {gb ob ib Lw cap : Nat} {y : Int} {s : Nat} (E : EnvD5 a0 w gb ob ib Lw cap y s) {R : Exit → Act → World → Prop} {a : Act} {x : World} (q : Q w x) (oth : ∀ j, j ∉ sD5 → a.tmps[j]? = a0.tmps[j]?) (dep : ∀ ed ∈ oD5_7.after, Region.binds .any ed = true → ∀ t', sD5[ed.on]? = some t' → ∃ v, a.tmps[t']? = some v ∧ specAt (spD5 gb ob ib Lw cap y s) ed.on v x) : Yld Try.prog R oD5_7 a x 48 (fun v x' => specAt (spD5 gb ob ib Lw cap y s) 7 v x' ∧ (7 ∈ ([] : List Nat) → v = ptrV x.heap.size)) := by
  obtain ⟨v4, t4, f4⟩ := dep ⟨4, .data⟩ (by simp [oD5_7]) rfl 45 rfl
  have f4 : v4 = (.float .f64 (floatOfInt .f64 y)) := f4
  subst f4
  obtain ⟨v6, t6, f6⟩ := dep ⟨6, .data⟩ (by simp [oD5_7]) rfl 47 rfl
  have f6 : v6 = (.float .f64 (wideW s)) := f6
  subst f6
  obtain ⟨W, x', hr, q', hW, hc⟩ := run_mulf (d := some 48) (ty := 100) (ps := "sums.go:119") (af := oD5_7.after) (g := none) (tmp_eval t4) (tmp_eval t6)
  exact yld_run (x' := x') rfl hr q' ⟨⟨W, rfl, hW, hc⟩, fun h => absurd h (by decide)⟩
theorem hopD5 {a0 : Act} {w : World} {gb ob ib Lw cap : Nat} {y : Int} {s : Nat} (E : EnvD5 a0 w gb ob ib Lw cap y s) {R : Exit → Act → World → Prop} : ∀ (i t : Nat) (o : Oper) (a : Act) (x : World), i < 8 → sD5[i]? = some t → opsD5[i]? = some o → Q w x → (∀ j, j ∉ sD5 → a.tmps[j]? = a0.tmps[j]?) → (∀ ed ∈ o.after, Region.binds .any ed = true → ∀ t', sD5[ed.on]? = some t' → ∃ v, a.tmps[t']? = some v ∧ specAt (spD5 gb ob ib Lw cap y s) ed.on v x) → Yld Try.prog R o a x t (fun v x' => specAt (spD5 gb ob ib Lw cap y s) i v x' ∧ (i ∈ ([] : List Nat) → v = ptrV x.heap.size))
  | 0, t, o, a, x, hi, ht, ho, q, oth, dep => by
    have e1 : oD5_0 = o := Option.some.inj ho
    have e2 : 41 = t := Option.some.inj ht
    subst e1 e2
    exact yD5_0 E q oth dep
  | 1, t, o, a, x, hi, ht, ho, q, oth, dep => by
    have e1 : oD5_1 = o := Option.some.inj ho
    have e2 : 42 = t := Option.some.inj ht
    subst e1 e2
    exact yD5_1 E q oth dep
  | 2, t, o, a, x, hi, ht, ho, q, oth, dep => by
    have e1 : oD5_2 = o := Option.some.inj ho
    have e2 : 43 = t := Option.some.inj ht
    subst e1 e2
    exact yD5_2 E q oth dep
  | 3, t, o, a, x, hi, ht, ho, q, oth, dep => by
    have e1 : oD5_3 = o := Option.some.inj ho
    have e2 : 44 = t := Option.some.inj ht
    subst e1 e2
    exact yD5_3 E q oth dep
  | 4, t, o, a, x, hi, ht, ho, q, oth, dep => by
    have e1 : oD5_4 = o := Option.some.inj ho
    have e2 : 45 = t := Option.some.inj ht
    subst e1 e2
    exact yD5_4 E q oth dep
  | 5, t, o, a, x, hi, ht, ho, q, oth, dep => by
    have e1 : oD5_5 = o := Option.some.inj ho
    have e2 : 46 = t := Option.some.inj ht
    subst e1 e2
    exact yD5_5 E q oth dep
  | 6, t, o, a, x, hi, ht, ho, q, oth, dep => by
    have e1 : oD5_6 = o := Option.some.inj ho
    have e2 : 47 = t := Option.some.inj ht
    subst e1 e2
    exact yD5_6 E q oth dep
  | 7, t, o, a, x, hi, ht, ho, q, oth, dep => by
    have e1 : oD5_7 = o := Option.some.inj ho
    have e2 : 48 = t := Option.some.inj ht
    subst e1 e2
    exact yD5_7 E q oth dep
  | i + 8, t, o, a, x, hi, ht, ho, q, oth, dep => absurd hi (by omega)
theorem regionD5 {id : Nat} {l : List Oper} {R : Exit → Act → World → Prop} {a0 : Act} {w : World} {gb ob ib Lw cap : Nat} {y : Int} {s : Nat} (hl : l = opsD5) (hsz : a0.tmps.size = 54) (E : EnvD5 a0 w gb ob ib Lw cap y s)
    (hR : ∀ x W, Q w x → W < 18446744073709551616 → canW W = prodV y s → R .normal (putAll a0 [(41, .slice (some ⟨gb, ob, none⟩) Lw cap), (42, .int .i64 (ib : Nat)), (43, .pointer (some ⟨gb, ob + ib, none⟩)), (44, .int .i64 y), (45, .float .f64 (floatOfInt .f64 y)), (46, .int .u32 (s : Nat)), (47, .float .f64 (wideW s)), (48, .float .f64 W), (11, .float .f64 W)]) x) :
    (Code.region id l.toArray true).wp Try.prog R a0 w := by
  subst hl
  refine wp_region_facts 8 sD5 (specAt (spD5 gb ob ib Lw cap y s)) [] (by kernel_rfl) (by decide +kernel) (by decide) rfl (by decide) (fun t ht => ?_) specAt.next (fun i v x hi hf => by cases hi) (hopD5 E) (fun a x q size defers other facts apart => ?_)
  · rw [hsz]
    revert t
    decide
  · obtain ⟨u0, t0, f0⟩ := facts 0 41 (by decide) rfl
    have f0 : u0 = .slice (some ⟨gb, ob, none⟩) Lw cap := f0
    subst f0
    obtain ⟨u1, t1, f1⟩ := facts 1 42 (by decide) rfl
    have f1 : u1 = .int .i64 (ib : Nat) := f1
    subst f1
    obtain ⟨u2, t2, f2⟩ := facts 2 43 (by decide) rfl
    have f2 : u2 = .pointer (some ⟨gb, ob + ib, none⟩) := f2
    subst f2
    obtain ⟨u3, t3, f3⟩ := facts 3 44 (by decide) rfl
    have f3 : u3 = .int .i64 y := f3
    subst f3
    obtain ⟨u4, t4, f4⟩ := facts 4 45 (by decide) rfl
    have f4 : u4 = .float .f64 (floatOfInt .f64 y) := f4
    subst f4
    obtain ⟨u5, t5, f5⟩ := facts 5 46 (by decide) rfl
    have f5 : u5 = .int .u32 (s : Nat) := f5
    subst f5
    obtain ⟨u6, t6, f6⟩ := facts 6 47 (by decide) rfl
    have f6 : u6 = .float .f64 (wideW s) := f6
    subst f6
    obtain ⟨u7, t7, W, rfl, hW, hc⟩ := facts 7 48 (by decide) rfl
    have hA := act_puts (a := a) (a0 := a0) [(41, .slice (some ⟨gb, ob, none⟩) Lw cap), (42, .int .i64 (ib : Nat)), (43, .pointer (some ⟨gb, ob + ib, none⟩)), (44, .int .i64 y), (45, .float .f64 (floatOfInt .f64 y)), (46, .int .u32 (s : Nat)), (47, .float .f64 (wideW s)), (48, .float .f64 W)] (show ([41, 42, 43, 44, 45, 46, 47, 48] : List Nat).Nodup by decide) size defers (fun j hj => other j (by simpa [sD5] using hj)) (fun r hr => ?_)
    · refine ⟨?_⟩
      show R .normal (a.put (some 11) (a.eval (.tmp 48))) x
      rw [tmp_eval t7, hA]
      exact hR x W q hW hc
    · simp only [List.mem_cons, List.not_mem_nil, or_false] at hr
      rcases hr with rfl | rfl | rfl | rfl | rfl | rfl | rfl | rfl
      · exact t0
      · exact t1
      · exact t2
      · exact t3
      · exact t4
      · exact t5
      · exact t6
      · exact t7
set_option maxRecDepth 100000 in
theorem normD5 {t0 t1 t2 t3 t4 t5 t6 t7 t8 t9 t10 t11 t12 t13 t14 t15 t16 t17 t18 t19 t20 t21 t22 t23 t24 t25 t26 t27 t28 t29 t30 t31 t32 t33 t34 t35 t36 t37 t38 t39 t40 t41 t42 t43 t44 t45 t46 t47 t48 t49 t50 t51 t52 t53 v41 v42 v43 v44 v45 v46 v47 v48 v11 : Value} {d : List Deferred} : putAll ⟨#[t0, t1, t2, t3, t4, t5, t6, t7, t8, t9, t10, t11, t12, t13, t14, t15, t16, t17, t18, t19, t20, t21, t22, t23, t24, t25, t26, t27, t28, t29, t30, t31, t32, t33, t34, t35, t36, t37, t38, t39, t40, t41, t42, t43, t44, t45, t46, t47, t48, t49, t50, t51, t52, t53], d⟩ [(41, v41), (42, v42), (43, v43), (44, v44), (45, v45), (46, v46), (47, v47), (48, v48), (11, v11)] = ⟨#[t0, t1, t2, t3, t4, t5, t6, t7, t8, t9, t10, v11, t12, t13, t14, t15, t16, t17, t18, t19, t20, t21, t22, t23, t24, t25, t26, t27, t28, t29, t30, t31, t32, t33, t34, t35, t36, t37, t38, t39, t40, v41, v42, v43, v44, v45, v46, v47, v48, t49, t50, t51, t52, t53], d⟩ := by
  kernel_rfl
end Go.Proofs.Ytdbbpmadkhedlaa

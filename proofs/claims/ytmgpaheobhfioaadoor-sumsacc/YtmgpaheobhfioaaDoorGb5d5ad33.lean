/- Plain facts: words of both forms as values: how they are read, and their order, told by their rungs (the bits below the sign). -/
import Derived.Test.YtmgpaheobhfioaaDoorG8dbd2455
namespace Go.Proofs.YtmgpaheobhfioaaDoor
open Go.RowKit

theorem cmp_of {a b : Int} {o : Ordering} (h : (a < b ∧ o = .lt) ∨ (a = b ∧ o = .eq) ∨ (b < a ∧ o = .gt)) : compare a b = o := by
  rcases h with ⟨h, rfl⟩ | ⟨h, rfl⟩ | ⟨h, rfl⟩
  · exact Int.compare_eq_lt.2 h
  · exact Int.compare_eq_eq.2 h
  · exact Int.compare_eq_gt.2 h
/-- Two pairs of numbers that stand alike compare alike. -/
theorem cmp_alike {a b c d : Int} (h1 : c < d → a < b) (h2 : c = d → a = b) (h3 : d < c → b < a) : compare a b = compare c d := by
  rcases Int.lt_trichotomy c d with h | h | h
  · rw [Int.compare_eq_lt.2 h, Int.compare_eq_lt.2 (h1 h)]
  · rw [Int.compare_eq_eq.2 h, Int.compare_eq_eq.2 (h2 h)]
  · rw [Int.compare_eq_gt.2 h, Int.compare_eq_gt.2 (h3 h)]

theorem signed_shift (s : Bool) (m k j : Nat) : Ieee.signed s m k * 2 ^ j = Ieee.signed s (m * 2 ^ (k + j)) 0 := by
  unfold Ieee.signed
  rw [Nat.shiftLeft_eq, Nat.shiftLeft_eq, Nat.pow_add]
  cases s <;> simp [Int.mul_assoc, Int.neg_mul]

theorem cmp_scale {a b p : Int} (h : 0 < p) : compare (a * p) (b * p) = compare a b := by
  refine cmp_alike (fun g => Int.mul_lt_mul_of_pos_right g h) (fun g => by rw [g]) (fun g => Int.mul_lt_mul_of_pos_right g h)

/-- The place of a rung32 above the least one, and its magnitude there. -/
def plc32 (r : Nat) : Nat := r / 8388608 - 1
def mag32 (r : Nat) : Nat := r - plc32 r * 8388608
def val32 (r : Nat) : Nat := mag32 r * 2 ^ plc32 r

theorem mag_lt32 (r : Nat) : mag32 r < 16777216 := by unfold mag32 plc32; omega
theorem mag_ge32 {r : Nat} (h : 0 < plc32 r) : 8388608 ≤ mag32 r := by unfold mag32; unfold plc32 at h ⊢; omega
theorem val_mono32 {r s : Nat} (h : r < s) : val32 r < val32 s := by
  have hk : plc32 r ≤ plc32 s := by
    have : r / 8388608 ≤ s / 8388608 := Nat.div_le_div_right (Nat.le_of_lt h)
    unfold plc32; omega
  rcases Nat.lt_or_ge (plc32 r) (plc32 s) with hlt | hge
  · obtain ⟨d, hd⟩ : ∃ d, plc32 s = plc32 r + 1 + d := ⟨plc32 s - plc32 r - 1, by omega⟩
    have h1 : val32 r < 16777216 * 2 ^ plc32 r := by unfold val32; exact Nat.mul_lt_mul_of_pos_right (mag_lt32 r) (Nat.two_pow_pos _)
    have h2 : 8388608 * 2 ^ plc32 s ≤ val32 s := by unfold val32; exact Nat.mul_le_mul_right _ (mag_ge32 (by omega))
    have h3 : 16777216 * 2 ^ plc32 r ≤ 8388608 * 2 ^ plc32 s := by
      rw [hd, Nat.pow_add, Nat.pow_succ]
      have : 1 ≤ 2 ^ d := Nat.two_pow_pos d
      have h4 : 16777216 * 2 ^ plc32 r * 1 ≤ 16777216 * 2 ^ plc32 r * 2 ^ d := Nat.mul_le_mul_left _ this
      have h5 : 8388608 * (2 ^ plc32 r * 2 * 2 ^ d) = 16777216 * 2 ^ plc32 r * 2 ^ d := by
        rw [← Nat.mul_assoc, ← Nat.mul_assoc, Nat.mul_right_comm 8388608 _ 2]
      omega
    omega
  · have e : plc32 r = plc32 s := by omega
    unfold val32
    rw [← e]
    refine Nat.mul_lt_mul_of_pos_right ?_ (Nat.two_pow_pos _)
    have b1 : plc32 r * 8388608 ≤ r := by unfold plc32; omega
    unfold mag32; rw [← e]; omega
theorem val_zero32 : val32 0 = 0 := by decide

/-- The sign bit of a word and its rung32. -/
def sgn32 (x : Nat) : Bool := x / 2147483648 % 2 == 1
def rung32 (x : Nat) : Nat := x % 2147483648
/-- The signed rung32. -/
def srung32 (x : Nat) : Int := if sgn32 x = true then -(rung32 x : Int) else rung32 x


theorem read_fin32 {x : Nat} (h : rung32 x < 2139095040) : Ieee.single.read x = .number (sgn32 x) (mag32 (rung32 x)) (-149 + (plc32 (rung32 x) : Int)) := by
  unfold Ieee.Format.read
  rw [sign32, binade32, inf32, least32]
  show (if rung32 x < 8388608 then Ieee.Datum.number (sgn32 x) (rung32 x) (-149) else if rung32 x < 2139095040 then _ else _) = _
  by_cases c : rung32 x < 8388608
  · rw [if_pos c]
    have e1 : plc32 (rung32 x) = 0 := by unfold plc32; omega
    have e2 : mag32 (rung32 x) = rung32 x := by unfold mag32; rw [e1]; omega
    rw [e1, e2]; rfl
  · rw [if_neg c, if_pos h]
    have e2 : 8388608 + rung32 x % 8388608 = mag32 (rung32 x) := by unfold mag32 plc32; omega
    show Ieee.Datum.number (sgn32 x) (8388608 + rung32 x % 8388608) (-149 + ((rung32 x / 8388608 - 1 : Nat) : Int)) = _
    rw [e2]; rfl
theorem read_inf32 {x : Nat} (h : rung32 x = 2139095040) : Ieee.single.read x = .infinity (sgn32 x) := by
  unfold Ieee.Format.read
  rw [sign32, binade32, inf32, least32]
  show (if rung32 x < 8388608 then _ else if rung32 x < 2139095040 then _ else if rung32 x = 2139095040 then Ieee.Datum.infinity (sgn32 x) else _) = _
  rw [if_neg (by omega), if_neg (by omega), if_pos h]
/-- The signed value in units of the least place. -/
def sval32 (x : Nat) : Int := if sgn32 x = true then -(val32 (rung32 x) : Int) else val32 (rung32 x)
theorem val_inj_lt32 {r s : Nat} : val32 r < val32 s ↔ r < s := by
  constructor
  · intro h
    rcases Nat.lt_trichotomy r s with g | g | g
    · exact g
    · subst g; omega
    · have := val_mono32 g; omega
  · exact val_mono32
theorem val_pos32 {r : Nat} (h : 0 < r) : 0 < val32 r := by have := val_mono32 h; rw [val_zero32] at this; exact this
theorem sval_srung32 (x y : Nat) : compare (sval32 x) (sval32 y) = compare (srung32 x) (srung32 y) := by
  unfold sval32 srung32
  have l1 := @val_inj_lt32 (rung32 x) (rung32 y)
  have l2 := @val_inj_lt32 (rung32 y) (rung32 x)
  have z1 : 0 < rung32 x → 0 < val32 (rung32 x) := val_pos32
  have z2 : 0 < rung32 y → 0 < val32 (rung32 y) := val_pos32
  have z3 : rung32 x = 0 → val32 (rung32 x) = 0 := fun h => by rw [h]; exact val_zero32
  have z4 : rung32 y = 0 → val32 (rung32 y) = 0 := fun h => by rw [h]; exact val_zero32
  have z5 : rung32 x = rung32 y → val32 (rung32 x) = val32 (rung32 y) := fun h => by rw [h]
  generalize val32 (rung32 x) = vx at *
  generalize val32 (rung32 y) = vy at *
  generalize rung32 x = rx at *
  generalize rung32 y = ry at *
  refine cmp_alike ?_ ?_ ?_ <;> split <;> split <;> omega

/-- The place of a rung64 above the least one, and its magnitude there. -/
def plc64 (r : Nat) : Nat := r / 4503599627370496 - 1
def mag64 (r : Nat) : Nat := r - plc64 r * 4503599627370496
def val64 (r : Nat) : Nat := mag64 r * 2 ^ plc64 r

theorem mag_lt64 (r : Nat) : mag64 r < 9007199254740992 := by unfold mag64 plc64; omega
theorem mag_ge64 {r : Nat} (h : 0 < plc64 r) : 4503599627370496 ≤ mag64 r := by unfold mag64; unfold plc64 at h ⊢; omega
theorem val_mono64 {r s : Nat} (h : r < s) : val64 r < val64 s := by
  have hk : plc64 r ≤ plc64 s := by
    have : r / 4503599627370496 ≤ s / 4503599627370496 := Nat.div_le_div_right (Nat.le_of_lt h)
    unfold plc64; omega
  rcases Nat.lt_or_ge (plc64 r) (plc64 s) with hlt | hge
  · obtain ⟨d, hd⟩ : ∃ d, plc64 s = plc64 r + 1 + d := ⟨plc64 s - plc64 r - 1, by omega⟩
    have h1 : val64 r < 9007199254740992 * 2 ^ plc64 r := by unfold val64; exact Nat.mul_lt_mul_of_pos_right (mag_lt64 r) (Nat.two_pow_pos _)
    have h2 : 4503599627370496 * 2 ^ plc64 s ≤ val64 s := by unfold val64; exact Nat.mul_le_mul_right _ (mag_ge64 (by omega))
    have h3 : 9007199254740992 * 2 ^ plc64 r ≤ 4503599627370496 * 2 ^ plc64 s := by
      rw [hd, Nat.pow_add, Nat.pow_succ]
      have : 1 ≤ 2 ^ d := Nat.two_pow_pos d
      have h4 : 9007199254740992 * 2 ^ plc64 r * 1 ≤ 9007199254740992 * 2 ^ plc64 r * 2 ^ d := Nat.mul_le_mul_left _ this
      have h5 : 4503599627370496 * (2 ^ plc64 r * 2 * 2 ^ d) = 9007199254740992 * 2 ^ plc64 r * 2 ^ d := by
        rw [← Nat.mul_assoc, ← Nat.mul_assoc, Nat.mul_right_comm 4503599627370496 _ 2]
      omega
    omega
  · have e : plc64 r = plc64 s := by omega
    unfold val64
    rw [← e]
    refine Nat.mul_lt_mul_of_pos_right ?_ (Nat.two_pow_pos _)
    have b1 : plc64 r * 4503599627370496 ≤ r := by unfold plc64; omega
    unfold mag64; rw [← e]; omega
theorem val_zero64 : val64 0 = 0 := by decide

/-- The sign bit of a word and its rung64. -/
def sgn64 (x : Nat) : Bool := x / 9223372036854775808 % 2 == 1
def rung64 (x : Nat) : Nat := x % 9223372036854775808
/-- The signed rung64. -/
def srung64 (x : Nat) : Int := if sgn64 x = true then -(rung64 x : Int) else rung64 x


theorem read_fin64 {x : Nat} (h : rung64 x < 9218868437227405312) : Ieee.double.read x = .number (sgn64 x) (mag64 (rung64 x)) (-1074 + (plc64 (rung64 x) : Int)) := by
  unfold Ieee.Format.read
  rw [sign64, binade64, inf64, least64]
  show (if rung64 x < 4503599627370496 then Ieee.Datum.number (sgn64 x) (rung64 x) (-1074) else if rung64 x < 9218868437227405312 then _ else _) = _
  by_cases c : rung64 x < 4503599627370496
  · rw [if_pos c]
    have e1 : plc64 (rung64 x) = 0 := by unfold plc64; omega
    have e2 : mag64 (rung64 x) = rung64 x := by unfold mag64; rw [e1]; omega
    rw [e1, e2]; rfl
  · rw [if_neg c, if_pos h]
    have e2 : 4503599627370496 + rung64 x % 4503599627370496 = mag64 (rung64 x) := by unfold mag64 plc64; omega
    show Ieee.Datum.number (sgn64 x) (4503599627370496 + rung64 x % 4503599627370496) (-1074 + ((rung64 x / 4503599627370496 - 1 : Nat) : Int)) = _
    rw [e2]; rfl
theorem read_inf64 {x : Nat} (h : rung64 x = 9218868437227405312) : Ieee.double.read x = .infinity (sgn64 x) := by
  unfold Ieee.Format.read
  rw [sign64, binade64, inf64, least64]
  show (if rung64 x < 4503599627370496 then _ else if rung64 x < 9218868437227405312 then _ else if rung64 x = 9218868437227405312 then Ieee.Datum.infinity (sgn64 x) else _) = _
  rw [if_neg (by omega), if_neg (by omega), if_pos h]
/-- The signed value in units of the least place. -/
def sval64 (x : Nat) : Int := if sgn64 x = true then -(val64 (rung64 x) : Int) else val64 (rung64 x)
theorem val_inj_lt64 {r s : Nat} : val64 r < val64 s ↔ r < s := by
  constructor
  · intro h
    rcases Nat.lt_trichotomy r s with g | g | g
    · exact g
    · subst g; omega
    · have := val_mono64 g; omega
  · exact val_mono64
theorem val_pos64 {r : Nat} (h : 0 < r) : 0 < val64 r := by have := val_mono64 h; rw [val_zero64] at this; exact this
theorem sval_srung64 (x y : Nat) : compare (sval64 x) (sval64 y) = compare (srung64 x) (srung64 y) := by
  unfold sval64 srung64
  have l1 := @val_inj_lt64 (rung64 x) (rung64 y)
  have l2 := @val_inj_lt64 (rung64 y) (rung64 x)
  have z1 : 0 < rung64 x → 0 < val64 (rung64 x) := val_pos64
  have z2 : 0 < rung64 y → 0 < val64 (rung64 y) := val_pos64
  have z3 : rung64 x = 0 → val64 (rung64 x) = 0 := fun h => by rw [h]; exact val_zero64
  have z4 : rung64 y = 0 → val64 (rung64 y) = 0 := fun h => by rw [h]; exact val_zero64
  have z5 : rung64 x = rung64 y → val64 (rung64 x) = val64 (rung64 y) := fun h => by rw [h]
  generalize val64 (rung64 x) = vx at *
  generalize val64 (rung64 y) = vy at *
  generalize rung64 x = rx at *
  generalize rung64 y = ry at *
  refine cmp_alike ?_ ?_ ?_ <;> split <;> split <;> omega

theorem order_fin64 {x y : Nat} (hx : rung64 x < 9218868437227405312) (hy : rung64 y < 9218868437227405312) : Ieee.double.order x y = some (compare (srung64 x) (srung64 y)) := by
  unfold Ieee.Format.order
  rw [read_fin64 hx, read_fin64 hy]
  show some (compare (Ieee.signed (sgn64 x) (mag64 (rung64 x)) (-1074 + (plc64 (rung64 x) : Int) - min (-1074 + (plc64 (rung64 x) : Int)) (-1074 + (plc64 (rung64 y) : Int))).toNat) (Ieee.signed (sgn64 y) (mag64 (rung64 y)) (-1074 + (plc64 (rung64 y) : Int) - min (-1074 + (plc64 (rung64 x) : Int)) (-1074 + (plc64 (rung64 y) : Int))).toNat)) = _
  congr 1
  generalize hk : min (plc64 (rung64 x)) (plc64 (rung64 y)) = k
  have e1 : (-1074 + (plc64 (rung64 x) : Int) - min (-1074 + (plc64 (rung64 x) : Int)) (-1074 + (plc64 (rung64 y) : Int))).toNat = plc64 (rung64 x) - k := by omega
  have e2 : (-1074 + (plc64 (rung64 y) : Int) - min (-1074 + (plc64 (rung64 x) : Int)) (-1074 + (plc64 (rung64 y) : Int))).toNat = plc64 (rung64 y) - k := by omega
  rw [e1, e2, ← sval_srung64]
  have hp : (0 : Int) < 2 ^ k := Int.pow_pos (by decide)
  rw [← cmp_scale hp, signed_shift, signed_shift]
  rw [show plc64 (rung64 x) - k + k = plc64 (rung64 x) by omega, show plc64 (rung64 y) - k + k = plc64 (rung64 y) by omega]
  unfold Ieee.signed sval64 val64
  simp

theorem order_num64 {x y : Nat} (hx : rung64 x ≤ 9218868437227405312) (hy : rung64 y ≤ 9218868437227405312) : Ieee.double.order x y = some (compare (srung64 x) (srung64 y)) := by
  rcases Nat.lt_or_ge (rung64 x) 9218868437227405312 with gx | gx
  · rcases Nat.lt_or_ge (rung64 y) 9218868437227405312 with gy | gy
    · exact order_fin64 gx gy
    · unfold Ieee.Format.order
      rw [read_fin64 gx, read_inf64 (by omega)]
      show some (if sgn64 y = true then Ordering.gt else Ordering.lt) = _
      congr 1
      symm
      unfold srung64
      cases sgn64 x <;> cases sgn64 y <;> (refine cmp_of ?_; simp; omega)
  · rcases Nat.lt_or_ge (rung64 y) 9218868437227405312 with gy | gy
    · unfold Ieee.Format.order
      rw [read_fin64 gy, read_inf64 (by omega)]
      show some (if sgn64 x = true then Ordering.lt else Ordering.gt) = _
      congr 1
      symm
      unfold srung64
      cases sgn64 x <;> cases sgn64 y <;> (refine cmp_of ?_; simp; omega)
    · unfold Ieee.Format.order
      have e1 : rung64 x = 9218868437227405312 := by omega
      have e2 : rung64 y = 9218868437227405312 := by omega
      rw [read_inf64 e1, read_inf64 e2]
      show some (compare (sgn64 y).toNat (sgn64 x).toNat) = _
      congr 1
      unfold srung64
      rw [e1, e2]
      cases sgn64 x <;> cases sgn64 y <;> rfl
end Go.Proofs.YtmgpaheobhfioaaDoor
/- Plain facts: words of one form written in the other: what is too great, and what is not. -/
namespace Go.Proofs.YtmgpaheobhfioaaDoor
open Go.RowKit

theorem rung_word32 (f : Ieee.Format) (r : Nat) : rungOf f (mag32 r) (-149 + (plc32 r : Int)) = rungOf f (val32 r) (-149) := by
  unfold val32; rw [rung_scale]
theorem rung_word64 (f : Ieee.Format) (r : Nat) : rungOf f (mag64 r) (-1074 + (plc64 r : Int)) = rungOf f (val64 r) (-1074) := by
  unfold val64; rw [rung_scale]
theorem val_le32 {r s : Nat} (h : r ≤ s) : val32 r ≤ val32 s := by
  rcases Nat.lt_or_eq_of_le h with g | g
  · exact Nat.le_of_lt (val_mono32 g)
  · rw [g]; exact Nat.le_refl _
theorem val_le64 {r s : Nat} (h : r ≤ s) : val64 r ≤ val64 s := by
  rcases Nat.lt_or_eq_of_le h with g | g
  · exact Nat.le_of_lt (val_mono64 g)
  · rw [g]; exact Nat.le_refl _
theorem rung_le32 (f : Ieee.Format) {r s : Nat} (h : r ≤ s) : rungOf f (mag32 r) (-149 + (plc32 r : Int)) ≤ rungOf f (mag32 s) (-149 + (plc32 s : Int)) := by
  rw [rung_word32, rung_word32]; exact rung_mono f _ (val_le32 h)
theorem rung_le64 (f : Ieee.Format) {r s : Nat} (h : r ≤ s) : rungOf f (mag64 r) (-1074 + (plc64 r : Int)) ≤ rungOf f (mag64 s) (-1074 + (plc64 s : Int)) := by
  rw [rung_word64, rung_word64]; exact rung_mono f _ (val_le64 h)

theorem sgn_word32 (s : Bool) {r : Nat} (h : r < 2147483648) : sgn32 (Ieee.single.word s r) = s ∧ rung32 (Ieee.single.word s r) = r := by
  unfold sgn32 rung32; rw [word32]
  cases s
  · exact ⟨by rw [beq_eq_false_iff_ne]; simp; omega, by simp; omega⟩
  · exact ⟨by rw [beq_iff_eq]; simp; omega, by simp; omega⟩
theorem sgn_word64 (s : Bool) {r : Nat} (h : r < 9223372036854775808) : sgn64 (Ieee.double.word s r) = s ∧ rung64 (Ieee.double.word s r) = r := by
  unfold sgn64 rung64; rw [word64]
  cases s
  · exact ⟨by rw [beq_eq_false_iff_ne]; simp; omega, by simp; omega⟩
  · exact ⟨by rw [beq_iff_eq]; simp; omega, by simp; omega⟩
theorem nanN_rung (a : Nat) : nanN a = decide (2139095040 < rung32 a) := rfl
theorem nan64_rung (a : Nat) : nan64 a = decide (9218868437227405312 < rung64 a) := rfl

/-- A finite sample, made wide, is finite. -/
theorem wide_lt {a : Nat} (h : rung32 a < 2139095040) : rungOf Ieee.double (mag32 (rung32 a)) (-149 + (plc32 (rung32 a) : Int)) < 9218868437227405312 := by
  have h1 := rung_le32 Ieee.double (r := rung32 a) (s := 2139095039) (by omega)
  have h2 : rungOf Ieee.double (mag32 2139095039) (-149 + (plc32 2139095039 : Int)) < 9218868437227405312 := by decide +kernel
  omega
/-- A sample that is no NaN, as a word of 64 bits. -/
def wideN (a : Nat) : Nat := Ieee.double.write (Ieee.single.read a)
theorem wide_conv {a : Nat} (h : nanN a = false) : floatToFloatBits .f32 a .f64 = some (wideN a) := by
  rw [nanN_rung] at h
  have h := of_decide_eq_false h
  unfold floatToFloatBits
  rw [if_neg (by decide)]
  have e : FloatKind.f32.decode a = Ieee.single.read a := rfl
  rw [e]
  rcases Nat.lt_or_ge (rung32 a) 2139095040 with g | g
  · unfold wideN
    rw [read_fin32 g]
    dsimp only
    have e2 : FloatKind.f64.encode (.number (sgn32 a) (mag32 (rung32 a)) (-149 + (plc32 (rung32 a) : Int))) = Ieee.double.word (sgn32 a) (rungOf Ieee.double (mag32 (rung32 a)) (-149 + (plc32 (rung32 a) : Int))) := nearest_rung _ _ _ _
    have e3 : Ieee.double.write (.number (sgn32 a) (mag32 (rung32 a)) (-149 + (plc32 (rung32 a) : Int))) = Ieee.double.word (sgn32 a) (rungOf Ieee.double (mag32 (rung32 a)) (-149 + (plc32 (rung32 a) : Int))) := nearest_rung _ _ _ _
    rw [e2, e3]
    have hw := wide_lt g
    obtain ⟨s1, s2⟩ := sgn_word64 (sgn32 a) (r := rungOf Ieee.double (mag32 (rung32 a)) (-149 + (plc32 (rung32 a) : Int))) (by omega)
    have e4 : FloatKind.f64.decode (Ieee.double.word (sgn32 a) (rungOf Ieee.double (mag32 (rung32 a)) (-149 + (plc32 (rung32 a) : Int)))) = .number _ _ _ := read_fin64 (by rw [s2]; exact hw)
    rw [e4]; rfl
  · unfold wideN
    rw [read_inf32 (by omega)]
    rfl

/-- From the bound on a number is an infinity; below it, it is none. -/
theorem nar_hi {r : Nat} (h : 5183643170835005440 ≤ r) : rungOf Ieee.single (mag64 r) (-1074 + (plc64 r : Int)) = 2139095040 := by
  have h1 := rung_le64 Ieee.single h
  have h2 : rungOf Ieee.single (mag64 5183643170835005440) (-1074 + (plc64 5183643170835005440 : Int)) = 2139095040 := by decide +kernel
  have h3 := rungOf_le Ieee.single (mag64 r) (-1074 + (plc64 r : Int))
  rw [inf32] at h3
  omega
theorem nar_lo {r : Nat} (h : r < 5183643170835005440) : rungOf Ieee.single (mag64 r) (-1074 + (plc64 r : Int)) < 2139095040 := by
  have h1 := rung_le64 Ieee.single (r := r) (s := 5183643170835005439) (by omega)
  have h2 : rungOf Ieee.single (mag64 5183643170835005439) (-1074 + (plc64 5183643170835005439 : Int)) < 2139095040 := by decide +kernel
  omega
theorem nar_conv {x : Nat} (h : rung64 x < 5183643170835005440) : floatToFloatBits .f64 x .f32 = some (Ieee.single.write (Ieee.double.read x)) := by
  unfold floatToFloatBits
  rw [if_neg (by decide)]
  have e : FloatKind.f64.decode x = Ieee.double.read x := rfl
  rw [e, read_fin64 (by omega)]
  dsimp only
  have e2 : FloatKind.f32.encode (.number (sgn64 x) (mag64 (rung64 x)) (-1074 + (plc64 (rung64 x) : Int))) = Ieee.single.word (sgn64 x) (rungOf Ieee.single (mag64 (rung64 x)) (-1074 + (plc64 (rung64 x) : Int))) := nearest_rung _ _ _ _
  have e3 : Ieee.single.write (.number (sgn64 x) (mag64 (rung64 x)) (-1074 + (plc64 (rung64 x) : Int))) = Ieee.single.word (sgn64 x) (rungOf Ieee.single (mag64 (rung64 x)) (-1074 + (plc64 (rung64 x) : Int))) := nearest_rung _ _ _ _
  rw [e2, e3]
  have hw := nar_lo h
  obtain ⟨s1, s2⟩ := sgn_word32 (sgn64 x) (r := rungOf Ieee.single (mag64 (rung64 x)) (-1074 + (plc64 (rung64 x) : Int))) (by omega)
  have e4 : FloatKind.f32.decode (Ieee.single.word (sgn64 x) (rungOf Ieee.single (mag64 (rung64 x)) (-1074 + (plc64 (rung64 x) : Int)))) = .number _ _ _ := read_fin32 (by rw [s2]; exact hw)
  rw [e4]; rfl
/-- What is too great. -/
theorem nar_big {x : Nat} (h : 5183643170835005440 ≤ rung64 x) (hn : nan64 x = false) : toldD (some (Ieee.double.read x)) = Ieee.single.word (sgn64 x) 2139095040 := by
  rw [nan64_rung] at hn
  have hn := of_decide_eq_false hn
  rcases Nat.lt_or_ge (rung64 x) 9218868437227405312 with g | g
  · rw [read_fin64 g]
    show Ieee.single.nearest _ _ _ = _
    rw [nearest_rung, nar_hi h]
  · rw [read_inf64 (by omega)]
    show Ieee.single.word _ Ieee.single.infRung = _
    rw [inf32]
theorem nar_nan {x : Nat} (h : nan64 x = true) : toldD (some (Ieee.double.read x)) = 2143289344 := by
  obtain ⟨s, t, e⟩ := isNaN_cases (read64_nan h)
  rw [e]; rfl

theorem cmp_lt (a b : Int) : (some (compare a b) == some Ordering.lt) = decide (a < b) := by
  rcases Int.lt_trichotomy a b with h | h | h
  · rw [Int.compare_eq_lt.2 h, decide_eq_true h]; rfl
  · rw [Int.compare_eq_eq.2 h, decide_eq_false (by omega)]; rfl
  · rw [Int.compare_eq_gt.2 h, decide_eq_false (by omega)]; rfl
end Go.Proofs.YtmgpaheobhfioaaDoor
/- What package arith's Wide, Narrow, Div and FromInt return, in the model's own words of floats; what was in memory stays as it was. -/
namespace Go.Proofs.YtmgpaheobhfioaaDoor
open Go.RowKit

/-- A sample as a binary64. -/
def wideW (a : Nat) : Nat := if nanN a = true then 9221120237041090560 else wideN a
set_option maxHeartbeats 400000 in
theorem cwide_any (a : Nat) (ha : a < 4294967296) (w : World) : Calls Tryd.prog 68 #[.int .u32 (a : Int)] w fun e w' => e = .returned (.int .u64 (wideW a : Nat)) ∧ Q w w' := by
  cases h : nanN a
  · have l1 := fun w => run_convert_float_float (P := Tryd.prog) w 103 86 .f32 .f64 a _ (by kernel_rfl) Tryd.underlying86 (wide_conv h)
    have l2 := f64bits
    have e1 : wideW a = wideN a := by unfold wideW; rw [h]; rfl
    rw [e1]
    clear e1
    go_enter Tryd.func68, Tryd.ntmps68
    go_wp2_with fail
    refine (isnan_any a ha _).mono ?_
    rintro e w1 ⟨rfl, q1⟩
    go_wp2_with fail
    refine (number_any a _).mono ?_
    rintro e w2 ⟨rfl, rfl⟩
    go_wp2_with fail
    go_ret
    exact ⟨rfl, q1⟩
  · have e1 : wideW a = 9221120237041090560 := by unfold wideW; rw [h]; rfl
    rw [e1]
    clear e1
    go_enter Tryd.func68, Tryd.ntmps68
    go_wp2_with fail
    refine (isnan_any a ha _).mono ?_
    rintro e w1 ⟨rfl, q1⟩
    go_wp2_with fail
    go_ret
    exact ⟨rfl, q1⟩

theorem srung_bound : srung64 5183643170835005440 = 5183643170835005440 := by decide
theorem srung_bound' : srung64 14407015207689781248 = -5183643170835005440 := by decide
theorem order_bound {x : Nat} (h : nan64 x = false) : Ieee.double.order x 5183643170835005440 = some (compare (srung64 x) 5183643170835005440) := by
  rw [nan64_rung] at h
  have h := of_decide_eq_false h
  rw [order_num64 (by omega) (by decide), srung_bound]
theorem order_bound' {x : Nat} (h : nan64 x = false) : Ieee.double.order x 14407015207689781248 = some (compare (srung64 x) (-5183643170835005440)) := by
  rw [nan64_rung] at h
  have h := of_decide_eq_false h
  rw [order_num64 (by omega) (by decide), srung_bound']
/-- How a binary64 stands to the bounds of samples. -/
theorem nar_cases (x : Nat) : (nan64 x = true ∧ Ieee.double.order x 5183643170835005440 = none ∧ Ieee.double.order x 14407015207689781248 = none)
    ∨ (nan64 x = false ∧ 5183643170835005440 ≤ rung64 x ∧ sgn64 x = false ∧ (Ieee.double.order x 5183643170835005440 = some .gt ∨ Ieee.double.order x 5183643170835005440 = some .eq))
    ∨ (nan64 x = false ∧ 5183643170835005440 ≤ rung64 x ∧ sgn64 x = true ∧ Ieee.double.order x 5183643170835005440 = some .lt ∧ (Ieee.double.order x 14407015207689781248 = some .lt ∨ Ieee.double.order x 14407015207689781248 = some .eq))
    ∨ (nan64 x = false ∧ rung64 x < 5183643170835005440 ∧ Ieee.double.order x 5183643170835005440 = some .lt ∧ Ieee.double.order x 14407015207689781248 = some .gt) := by
  cases h : nan64 x
  · rw [order_bound h, order_bound' h]
    have hs : srung64 x = if sgn64 x = true then -(rung64 x : Int) else rung64 x := rfl
    rcases Nat.lt_or_ge (rung64 x) 5183643170835005440 with g | g
    · refine Or.inr (Or.inr (Or.inr ⟨rfl, g, ?_, ?_⟩))
      · congr 1; exact Int.compare_eq_lt.2 (by rw [hs]; split <;> omega)
      · congr 1; exact Int.compare_eq_gt.2 (by rw [hs]; split <;> omega)
    · cases hg : sgn64 x
      · rw [hg] at hs
        have hs : srung64 x = rung64 x := hs
        refine Or.inr (Or.inl ⟨rfl, g, rfl, ?_⟩)
        rcases Nat.lt_or_ge 5183643170835005440 (rung64 x) with k | k
        · left; congr 1; exact Int.compare_eq_gt.2 (by omega)
        · right; congr 1; exact Int.compare_eq_eq.2 (by omega)
      · rw [hg] at hs
        have hs : srung64 x = -(rung64 x : Int) := hs
        refine Or.inr (Or.inr (Or.inl ⟨rfl, g, rfl, ?_, ?_⟩))
        · congr 1; exact Int.compare_eq_lt.2 (by omega)
        · rcases Nat.lt_or_ge 5183643170835005440 (rung64 x) with k | k
          · left; congr 1; exact Int.compare_eq_lt.2 (by omega)
          · right; congr 1; exact Int.compare_eq_eq.2 (by omega)
  · have hn := read64_nan h
    exact Or.inl ⟨rfl, order_nan1 _ hn, order_nan1 _ hn⟩

set_option maxHeartbeats 400000 in
theorem narrowed_any (x : Nat) (w : World) : Calls Tryd.prog 82 #[.float .f64 x] w fun e w' => e = .returned (.int .u32 (toldD (some (Ieee.double.read x)) : Nat)) ∧ Q w w' := by
  rcases nar_cases x with ⟨h, o1, o2⟩ | ⟨h, g, hs, o1⟩ | ⟨h, g, hs, o1, o2⟩ | ⟨h, g, o1, o2⟩
  · have o1 : FloatKind.f64.format.order x 5183643170835005440 = none := o1
    have o2 : FloatKind.f64.format.order x 14407015207689781248 = none := o2
    have l1 := fun w => run_conv_nan (P := Tryd.prog) 86 103 .f64 .f32 x (by decide) (by kernel_rfl) Tryd.underlying103 (read64_nan h) w
    rw [nar_nan h]
    clear h
    go_enter Tryd.func82, Tryd.ntmps82
    go_wp2_with fail
    refine (sample_any _ (nanc32 x _).2 _).mono ?_
    rintro e w1 ⟨rfl, q1⟩
    go_wp2_with fail
    go_ret
    exact ⟨ret_int (by rw [madeN_nan (nanc32 x _).1]), ((Q.refl _).drew.trans q1)⟩
  · rw [nar_big g h, hs, show Ieee.single.word false 2139095040 = 2139095040 from rfl]
    clear h g hs
    rcases o1 with o1 | o1
    · have o1 : FloatKind.f64.format.order x 5183643170835005440 = some .gt := o1
      go_enter Tryd.func82, Tryd.ntmps82
      go_wp2_with fail
      go_ret
      exact ⟨rfl, Q.refl _⟩
    · have o1 : FloatKind.f64.format.order x 5183643170835005440 = some .eq := o1
      go_enter Tryd.func82, Tryd.ntmps82
      go_wp2_with fail
      go_ret
      exact ⟨rfl, Q.refl _⟩
  · rw [nar_big g h, hs, show Ieee.single.word true 2139095040 = 4286578688 from rfl]
    clear h g hs
    have o1 : FloatKind.f64.format.order x 5183643170835005440 = some .lt := o1
    rcases o2 with o2 | o2
    · have o2 : FloatKind.f64.format.order x 14407015207689781248 = some .lt := o2
      go_enter Tryd.func82, Tryd.ntmps82
      go_wp2_with fail
      go_ret
      exact ⟨rfl, Q.refl _⟩
    · have o2 : FloatKind.f64.format.order x 14407015207689781248 = some .eq := o2
      go_enter Tryd.func82, Tryd.ntmps82
      go_wp2_with fail
      go_ret
      exact ⟨rfl, Q.refl _⟩
  · have o1 : FloatKind.f64.format.order x 5183643170835005440 = some .lt := o1
    have o2 : FloatKind.f64.format.order x 14407015207689781248 = some .gt := o2
    have l1 := fun w => run_convert_float_float (P := Tryd.prog) w 86 103 .f64 .f32 x _ (by kernel_rfl) Tryd.underlying103 (nar_conv g)
    have hn : Hid ((Ieee.double.read x).isNaN = false) := read64_num h
    clear h g
    go_enter Tryd.func82, Tryd.ntmps82
    go_wp2_with fail
    refine (sample_any _ (write32_lt _) _).mono ?_
    rintro e w1 ⟨rfl, q1⟩
    go_wp2_with fail
    go_ret
    exact ⟨ret_int (by rw [madeN_of (nanN_write hn.out), toldD_some hn.out]), q1⟩

set_option maxHeartbeats 400000 in
theorem cnarrow_any (x : Nat) (w : World) : Calls Tryd.prog 70 #[.int .u64 (x : Int)] w fun e w' => e = .returned (.int .u32 (toldD (some (Ieee.double.read x)) : Nat)) ∧ Q w w' := by
  have l1 := f64from
  go_enter Tryd.func70, Tryd.ntmps70
  go_wp2_with fail
  refine (narrowed_any x _).mono ?_
  rintro e w1 ⟨rfl, q1⟩
  go_wp2_with fail
  go_ret
  exact ⟨rfl, q1⟩

end Go.Proofs.YtmgpaheobhfioaaDoor
/- Plain facts: binary64 words of normal numbers: how they are read, rounded, ordered and multiplied by one; samples made wide. -/
namespace Go.Proofs.YtmgpaheobhfioaaDoor
open Go.RowKit

/-- The binary64 word of a sign, a full significand m (from 2^52, below 2^53) and its place p. -/
def wd (neg : Bool) (m : Nat) (p : Int) : Nat := (if neg = true then 9223372036854775808 else 0) + ((p + 1074).toNat * 4503599627370496 + m)

theorem read_wd {neg : Bool} {m : Nat} {p : Int} (h0 : 4503599627370496 ≤ m) (h1 : m < 9007199254740992) (p0 : -1074 ≤ p) (p1 : p ≤ 971) : Ieee.double.read (wd neg m p) = .number neg m p := by
  unfold Ieee.Format.read
  rw [sign64, binade64, inf64, least64]
  obtain ⟨q, hq⟩ : ∃ q : Nat, q = (p + 1074).toNat := ⟨_, rfl⟩
  have e1 : (wd neg m p / 9223372036854775808 % 2 == 1) = neg := by
    unfold wd; rw [← hq]; cases neg
    · rw [beq_eq_false_iff_ne]; simp; omega
    · rw [beq_iff_eq]; simp; omega
  have e2 : wd neg m p % 9223372036854775808 = q * 4503599627370496 + m := by
    unfold wd; rw [← hq]; cases neg <;> simp <;> omega
  simp only [e1, e2]
  rw [if_neg (by omega), if_pos (by omega)]
  have e3 : (q * 4503599627370496 + m) % 4503599627370496 = m - 4503599627370496 := by omega
  have e4 : (q * 4503599627370496 + m) / 4503599627370496 - 1 = q := by omega
  have e5 : 4503599627370496 + (m - 4503599627370496) = m := by omega
  have e6 : (-1074 : Int) + (q : Int) = p := by omega
  rw [e3, e4, e5, e6]

theorem cut_exact (neg : Bool) (q d : Nat) (h : 0 < q) : Ieee.Toward.even.cut neg (q * 2 ^ d) d = q := by
  unfold Ieee.Toward.cut
  have hl : d ≤ (q * 2 ^ d).log2 + 2 := by
    have h1 : 2 ^ d ≤ q * 2 ^ d := Nat.le_mul_of_pos_left _ h
    have h2 : q * 2 ^ d ≠ 0 := by have := Nat.two_pow_pos d; omega
    have := (Nat.le_log2 h2).2 h1
    omega
  have e1 : min d ((q * 2 ^ d).log2 + 2) = d := Nat.min_eq_left hl
  rw [e1]
  have e2 : (1 <<< d : Nat) = 2 ^ d := by rw [Nat.shiftLeft_eq, Nat.one_mul]
  rw [e2]
  have hp := Nat.two_pow_pos d
  have e3 : q * 2 ^ d / 2 ^ d = q := Nat.mul_div_cancel _ hp
  have e4 : q * 2 ^ d % 2 ^ d = 0 := Nat.mul_mod_left _ _
  simp only [e3, e4]
  have : ((decide (2 ^ d < 2 * 0)) || (2 ^ d == 2 * 0 && q % 2 == 1)) = false := by
    have hne : ¬ (2 ^ d = 0) := by omega
    simp
  rw [this]; rfl

theorem log2_shift {o L k : Nat} (h0 : 2 ^ L ≤ o) (h1 : o < 2 ^ (L + 1)) : (o * 2 ^ k).log2 = L + k := by
  have hp := Nat.two_pow_pos k
  have ho : o ≠ 0 := by have := Nat.two_pow_pos L; omega
  have hne : o * 2 ^ k ≠ 0 := Nat.mul_ne_zero ho (by omega)
  refine (Nat.log2_eq_iff hne).2 ⟨?_, ?_⟩
  · rw [Nat.pow_add]; exact Nat.mul_le_mul_right _ h0
  · rw [show L + k + 1 = (L + 1) + k by omega, Nat.pow_add]; exact Nat.mul_lt_mul_of_pos_right h1 hp

theorem frac64 : Ieee.double.fractionBits = 52 := rfl
/-- A number of at most 53 binary digits is written just as it is. -/
theorem nearest_exact {neg : Bool} {o L k : Nat} {p : Int} (h0 : 2 ^ L ≤ o) (h1 : o < 2 ^ (L + 1)) (hL : L ≤ 52) (q0 : -1074 ≤ p + k + L - 52) (q1 : p + k + L - 52 ≤ 971) :
    Ieee.double.nearest neg (o * 2 ^ k) p = wd neg (o * 2 ^ (52 - L)) (p + k + L - 52) := by
  have ho : 0 < o := by have := Nat.two_pow_pos L; omega
  have hne : o * 2 ^ k ≠ 0 := Nat.mul_ne_zero (by omega) (by have := Nat.two_pow_pos k; omega)
  unfold Ieee.Format.nearest
  rw [if_neg hne, log2_shift h0 h1, frac64, least64, binade64, inf64]
  have elast : max (p + ((L + k : Nat) : Int) - ((52 : Nat) : Int)) (-1074) = p + k + L - 52 := by omega
  have b1 : o * 2 ^ (52 - L) < 9007199254740992 := by
    have : o * 2 ^ (52 - L) < 2 ^ (L + 1) * 2 ^ (52 - L) := Nat.mul_lt_mul_of_pos_right h1 (Nat.two_pow_pos _)
    rw [← Nat.pow_add, show L + 1 + (52 - L) = 53 by omega] at this
    exact this
  have b0 : 0 < o * 2 ^ (52 - L) := Nat.mul_pos ho (Nat.two_pow_pos _)
  have ekept : Ieee.Toward.even.cut neg ((o * 2 ^ k) <<< (p - (p + k + L - 52)).toNat) ((p + k + L - 52) - p).toNat = o * 2 ^ (52 - L) := by
    rw [Nat.shiftLeft_eq]
    by_cases c : k + L ≤ 52
    · have e1 : (p - (p + k + L - 52)).toNat = 52 - L - k := by omega
      have e2 : ((p + k + L - 52) - p).toNat = 0 := by omega
      rw [e1, e2, Nat.mul_assoc, ← Nat.pow_add, show k + (52 - L - k) = 52 - L by omega]
      have := cut_exact neg (o * 2 ^ (52 - L)) 0 b0
      simpa using this
    · have e1 : (p - (p + k + L - 52)).toNat = 0 := by omega
      have e2 : ((p + k + L - 52) - p).toNat = k + L - 52 := by omega
      rw [e1, e2]
      have e3 : o * 2 ^ k * 2 ^ 0 = o * 2 ^ (52 - L) * 2 ^ (k + L - 52) := by
        rw [Nat.pow_zero, Nat.mul_one, Nat.mul_assoc, ← Nat.pow_add, show 52 - L + (k + L - 52) = k by omega]
      rw [e3]
      exact cut_exact neg _ _ b0
  simp only [elast, ekept]
  unfold Ieee.Format.word wd
  rw [sign64]
  have e5 : (p + k + L - 52 - -1074).toNat = (p + k + L - 52 + 1074).toNat := by congr 1
  rw [e5, Nat.min_eq_left (by omega)]
  cases neg <;> simp

theorem signed_pos {m u : Nat} : Ieee.signed false m u = (m * 2 ^ u : Nat) := by unfold Ieee.signed; rw [Nat.shiftLeft_eq]; rfl

theorem read_zero : Ieee.double.read 0 = .number false 0 (-1074) := by decide
/-- It is not nought. -/
theorem order_wd_zero {neg : Bool} {m : Nat} {p : Int} (h0 : 4503599627370496 ≤ m) (h1 : m < 9007199254740992) (p0 : -1074 ≤ p) (p1 : p ≤ 971) : (Ieee.double.order (wd neg m p) 0 == some .eq) = false := by
  unfold Ieee.Format.order
  rw [read_wd h0 h1 p0 p1, read_zero]
  show (some (compare (Ieee.signed neg m (p - min p (-1074)).toNat) (Ieee.signed false 0 _)) == some .eq) = false
  have hp := Nat.two_pow_pos (p - min p (-1074)).toNat
  have hm : 0 < m * 2 ^ (p - min p (-1074)).toNat := Nat.mul_pos (by omega) hp
  have e : Ieee.signed false 0 (-1074 - min p (-1074)).toNat = 0 := by rw [signed_pos, Nat.zero_mul]; rfl
  rw [e]
  unfold Ieee.signed
  rw [Nat.shiftLeft_eq]
  generalize m * 2 ^ (p - min p (-1074)).toNat = z at hm
  cases neg
  · rw [show (if false = true then -((z : Nat) : Int) else ((z : Nat) : Int)) = z from rfl, Int.compare_eq_gt.2 (by omega)]; rfl
  · rw [show (if true = true then -((z : Nat) : Int) else ((z : Nat) : Int)) = -z from rfl, Int.compare_eq_lt.2 (by omega)]; rfl

theorem read_one : Ieee.double.read 4607182418800017408 = .number false 4503599627370496 (-52) := by decide
/-- One times a number is the number. -/
theorem one_mul_wd {neg : Bool} {m : Nat} {p : Int} (h0 : 4503599627370496 ≤ m) (h1 : m < 9007199254740992) (p0 : -1074 ≤ p) (p1 : p ≤ 971) : Ieee.double.mul 4607182418800017408 (wd neg m p) = some (wd neg m p) := by
  unfold Ieee.Format.mul
  rw [read_wd h0 h1 p0 p1, read_one]
  show some (Ieee.double.nearest (false ^^ neg) (4503599627370496 * m) (-52 + p)) = _
  congr 1
  have e1 : 4503599627370496 * m = m * 2 ^ 52 := by rw [Nat.mul_comm]
  have e2 : (false ^^ neg) = neg := by cases neg <;> rfl
  rw [e1, e2, nearest_exact (L := 52) (by omega) (by omega) (Nat.le_refl _) (by omega) (by omega)]
  rw [Nat.sub_self, Nat.pow_zero, Nat.mul_one]
  congr 1; omega

theorem wd_word (neg : Bool) (m : Nat) (p : Int) : wd neg m p = Ieee.double.word neg ((p + 1074).toNat * 4503599627370496 + m) := by
  rw [word64]; unfold wd; cases neg <;> simp
theorem wd_rung {neg : Bool} {m : Nat} {p : Int} (h1 : m < 9007199254740992) (p1 : p ≤ 971) : rung64 (wd neg m p) = (p + 1074).toNat * 4503599627370496 + m ∧ sgn64 (wd neg m p) = neg := by
  rw [wd_word]
  obtain ⟨a, b⟩ := sgn_word64 neg (r := (p + 1074).toNat * 4503599627370496 + m) (by omega)
  exact ⟨b, a⟩
end Go.Proofs.YtmgpaheobhfioaaDoor
/- What the library's Ldexp returns of a binary64 number and a power that keeps it normal, and package arith's Scale; what was in memory stays as it was. -/
namespace Go.Proofs.YtmgpaheobhfioaaDoor
open Go.RowKit

theorem i64_and (a b : Nat) (ha : a < 9223372036854775808) (hb : b < 9223372036854775808) : bits .and .i64 (a : Int) (b : Int) = ((a &&& b : Nat) : Int) := by
  have hx : a &&& b < 2 ^ 63 := Nat.and_lt_two_pow _ (by omega)
  show IntKind.i64.wrap ((BitVec.ofInt 64 (a : Int) &&& BitVec.ofInt 64 (b : Int)).toNat : Int) = _
  rw [BitVec.toNat_and, ofInt_u64 a (by omega), ofInt_u64 b (by omega), IntKind.wrap_i64]
  omega
theorem top_off (r : Int) (h0 : 0 ≤ r) (h1 : r < 9223372036854775808) : bits .andNot .u64 (9223372036854775808 + r) 9223372036854775808 = r := by go_bits2
theorem top_off' (r : Int) (h0 : 0 ≤ r) (h1 : r < 9223372036854775808) : bits .andNot .u64 r 9223372036854775808 = r := by go_bits2
theorem nat_clear (x : Nat) : x &&& 9227875636482146303 = x / 9223372036854775808 % 2 * 9223372036854775808 + x % 4503599627370496 := by
  have e : (9227875636482146303 : Nat) = 2 ^ 63 ||| (2 ^ 52 - 1) := by decide
  rw [e, Nat.and_or_distrib_left, nat_bit 63 x, Nat.and_two_pow_sub_one_eq_mod]
  exact nat_join 63 _ _ (Nat.mul_mod_left _ _) (Nat.lt_trans (Nat.mod_lt _ (by decide)) (by decide))
theorem nat_lay (s q f : Nat) (hq : q < 2048) (hf : f < 4503599627370496) : (s * 9223372036854775808 + f) ||| (q * 4503599627370496) = s * 9223372036854775808 + (q * 4503599627370496 + f) := by
  have e1 : s * 9223372036854775808 + f = s * 9223372036854775808 ||| f := (nat_join 63 _ _ (by show s * 2 ^ 63 % 2 ^ 63 = 0; exact Nat.mul_mod_left _ _) (by omega)).symm
  have e2 : f ||| q * 4503599627370496 = q * 4503599627370496 + f := by
    rw [Nat.or_comm]; exact nat_join 52 _ _ (by show q * 2 ^ 52 % 2 ^ 52 = 0; exact Nat.mul_mod_left _ _) (by omega)
  rw [e1, Nat.or_assoc, e2]
  exact nat_join 63 _ _ (by show s * 2 ^ 63 % 2 ^ 63 = 0; exact Nat.mul_mod_left _ _) (by omega)

/-- The word as sign, exponent and the rest. -/
theorem wd_form (neg : Bool) (m : Nat) (p : Int) : wd neg m p = neg.toNat * 9223372036854775808 + ((p + 1074).toNat * 4503599627370496 + m) := by
  unfold wd; cases neg <;> simp
theorem wd_lt {neg : Bool} {m : Nat} {p : Int} (h1 : m < 9007199254740992) (p1 : p ≤ 971) : wd neg m p < 18446744073709551616 := by
  rw [wd_form]; have := Bool.toNat_lt neg; omega
theorem wd_exp {neg : Bool} {m : Nat} {p : Int} (h0 : 4503599627370496 ≤ m) (h1 : m < 9007199254740992) (p0 : -1074 ≤ p) (p1 : p ≤ 971) : bits .and .i64 ((wd neg m p : Int) / 4503599627370496) 2047 = p + 1075 := by
  have e1 : (wd neg m p : Int) / 4503599627370496 = ((wd neg m p / 4503599627370496 : Nat) : Int) := by omega
  have hlt := wd_lt (neg := neg) h1 p1
  rw [e1, show (2047 : Int) = ((2047 : Nat) : Int) from rfl, i64_and _ _ (by omega) (by omega), nat_mask11]
  have hb := Bool.toNat_lt neg
  rw [wd_form]
  omega
theorem wd_clear {neg : Bool} {m : Nat} {p : Int} (h0 : 4503599627370496 ≤ m) (h1 : m < 9007199254740992) (p1 : p ≤ 971) : bits .andNot .u64 (wd neg m p : Int) 9218868437227405312 = ((neg.toNat * 9223372036854775808 + (m - 4503599627370496) : Nat) : Int) := by
  have hlt := wd_lt (neg := neg) h1 p1
  rw [u64_andNot _ _ (by omega) (by omega) (by omega) (by omega)]
  rw [show (18446744073709551615 - (9218868437227405312 : Int).toNat) = 9227875636482146303 from rfl, nat_clear, Int.toNat_natCast]
  have hb := Bool.toNat_lt neg
  rw [wd_form]
  omega
theorem wd_lay {neg : Bool} {m : Nat} {x : Int} (h0 : 4503599627370496 ≤ m) (h1 : m < 9007199254740992) (x0 : 1 ≤ x) (x1 : x ≤ 2046) : bits .or .u64 ((neg.toNat * 9223372036854775808 + (m - 4503599627370496) : Nat) : Int) (x * 4503599627370496) = (wd neg m (x - 1075) : Int) := by
  have hb := Bool.toNat_lt neg
  obtain ⟨q, rfl⟩ := Int.eq_ofNat_of_zero_le (show 0 ≤ x by omega)
  rw [show ((q : Int) * 4503599627370496) = ((q * 4503599627370496 : Nat) : Int) by omega, u64_or_nat _ _ (by omega) (by omega), nat_lay _ _ _ (by omega) (by omega), wd_form]
  omega

theorem abs_bits {x : Nat} (hx : x < 18446744073709551616) : bits .andNot .u64 (x : Int) 9223372036854775808 = (rung64 x : Int) := by
  unfold rung64
  rcases Nat.lt_or_ge x 9223372036854775808 with g | g
  · rw [top_off' _ (by omega) (by omega)]; omega
  · obtain ⟨r, rfl⟩ : ∃ r, x = 9223372036854775808 + r := ⟨x - 9223372036854775808, by omega⟩
    rw [show ((9223372036854775808 + r : Nat) : Int) = 9223372036854775808 + (r : Int) by omega, top_off _ (by omega) (by omega)]; omega
set_option maxHeartbeats 400000 in
theorem abs_any (x : Nat) (hx : x < 18446744073709551616) (w : World) :
    Calls Tryd.prog 102 #[.float .f64 x] w fun e w' => e = .returned (.float .f64 (rung64 x)) ∧ w' = w := by
  have l1 := f64bits
  have l2 := f64from
  have e1 := abs_bits hx
  go_enter Tryd.func102, Tryd.ntmps102
  go_wp2_with fail
  go_ret
  exact ⟨rfl, rfl⟩
theorem rung_rung (x : Nat) : rung64 (rung64 x) = rung64 x ∧ sgn64 (rung64 x) = false := by
  unfold rung64 sgn64
  exact ⟨by omega, by rw [beq_eq_false_iff_ne]; omega⟩
theorem order_max (x : Nat) : (Ieee.double.order (rung64 x) 9218868437227405311 == some Ordering.gt) = decide (rung64 x = 9218868437227405312) := by
  obtain ⟨r1, r2⟩ := rung_rung x
  rcases Nat.lt_or_ge 9218868437227405312 (rung64 x) with g | g
  · rw [order_nan1 _ (read64_nan (by rw [nan64_rung, r1]; exact decide_eq_true g)), decide_eq_false (by omega)]; rfl
  · rw [order_num64 (by rw [r1]; exact g) (by decide)]
    have e1 : srung64 (rung64 x) = rung64 x := by unfold srung64; rw [r1, r2]; rfl
    have e2 : srung64 9218868437227405311 = 9218868437227405311 := by decide
    rw [e1, e2]
    rcases Nat.lt_or_ge 9218868437227405311 (rung64 x) with k | k
    · rw [Int.compare_eq_gt.2 (by omega), decide_eq_true (by omega)]; rfl
    · rw [decide_eq_false (by omega)]
      rcases Nat.lt_or_ge (rung64 x) 9218868437227405311 with j | j
      · rw [Int.compare_eq_lt.2 (by omega)]; rfl
      · rw [Int.compare_eq_eq.2 (by omega)]; rfl
theorem order_least (x : Nat) (h : 4503599627370496 ≤ rung64 x) : (Ieee.double.order (rung64 x) 4503599627370496 == some Ordering.lt) = false := by
  obtain ⟨r1, r2⟩ := rung_rung x
  rcases Nat.lt_or_ge 9218868437227405312 (rung64 x) with g | g
  · rw [order_nan1 _ (read64_nan (by rw [nan64_rung, r1]; exact decide_eq_true g))]; rfl
  · rw [order_num64 (by rw [r1]; exact g) (by decide)]
    have e1 : srung64 (rung64 x) = rung64 x := by unfold srung64; rw [r1, r2]; rfl
    have e2 : srung64 4503599627370496 = 4503599627370496 := by decide
    rw [e1, e2, cmp_lt, decide_eq_false (by omega)]
theorem order_self64 (x : Nat) : (Ieee.double.order x x != some Ordering.eq) = nan64 x := by
  cases h : nan64 x
  · rw [nan64_rung] at h
    have h := of_decide_eq_false h
    rw [order_num64 (by omega) (by omega), Int.compare_eq_eq.2 rfl]; rfl
  · rw [order_nan1 _ (read64_nan h)]; rfl
set_option maxHeartbeats 400000 in
theorem isinf_any (x : Nat) (hx : x < 18446744073709551616) (w : World) :
    Calls Tryd.prog 99 #[.float .f64 x, .int .i64 0] w fun e w' => e = .returned (.bool (decide (rung64 x = 9218868437227405312))) ∧ w' = w := by
  have e1 : (FloatKind.f64.format.order (rung64 x) 9218868437227405311 == some Ordering.gt) = decide (rung64 x = 9218868437227405312) := order_max x
  go_enter Tryd.func99, Tryd.ntmps99
  go_wp2_with fail
  refine (abs_any x hx _).mono ?_
  rintro e v ⟨rfl, rfl⟩
  go_wp2_with fail
  go_ret
  exact ⟨by rw [← order_max]; rfl, rfl⟩
set_option maxHeartbeats 400000 in
theorem isnan64_any (x : Nat) (w : World) :
    Calls Tryd.prog 69 #[.float .f64 x] w fun e w' => e = .returned (.bool (nan64 x)) ∧ w' = w := by
  go_enter Tryd.func69, Tryd.ntmps69
  go_wp2_with fail
  go_ret
  exact ⟨by rw [← order_self64]; rfl, rfl⟩
set_option maxHeartbeats 400000 in
theorem normal_any (x : Nat) (hx : x < 18446744073709551616) (h : 4503599627370496 ≤ rung64 x) (w : World) :
    Calls Tryd.prog 100 #[.float .f64 x] w fun e w' => e = .returned (.tuple #[.float .f64 x, .int .i64 0]) ∧ w' = w := by
  have e1 : (FloatKind.f64.format.order (rung64 x) 4503599627370496 == some Ordering.lt) = false := order_least x h
  go_enter Tryd.func100, Tryd.ntmps100
  go_wp2_with fail
  refine (abs_any x hx _).mono ?_
  rintro e v ⟨rfl, rfl⟩
  go_wp2_with fail
  go_ret2
  exact ⟨rfl, rfl⟩

set_option maxHeartbeats 1000000 in
theorem ldexp_any (neg : Bool) (m : Nat) (p x : Int) (h0 : 4503599627370496 ≤ m) (h1 : m < 9007199254740992) (p0 : -201 ≤ p) (p1 : p ≤ 75) (x0 : -300 ≤ x) (x1 : x ≤ 300) (w : World) :
    Calls Tryd.prog 98 #[.float .f64 (wd neg m p), .int .i64 x] w fun e w' => e = .returned (.float .f64 (wd neg m (p + x))) ∧ w' = w := by
  have l1 := f64bits
  have l2 := f64from
  obtain ⟨r1, r2⟩ := wd_rung (neg := neg) h1 (show p ≤ 971 by omega)
  have hl := wd_lt (neg := neg) h1 (show p ≤ 971 by omega)
  have hNo : 4503599627370496 ≤ rung64 (wd neg m p) := by rw [r1]; omega
  have hI : decide (rung64 (wd neg m p) = 9218868437227405312) = false := by rw [r1]; exact decide_eq_false (by omega)
  have hN : nan64 (wd neg m p) = false := by rw [nan64_rung, r1]; exact decide_eq_false (by omega)
  clear r1 r2
  have e1 : (FloatKind.f64.format.order (wd neg m p) 0 == some Ordering.eq) = false := order_wd_zero h0 h1 (by omega) (by omega)
  have e2 : bits .and .i64 (wrap64 ((wd neg m p : Int) / 4503599627370496)) 2047 = p + 1075 := by
    rw [show wrap64 ((wd neg m p : Int) / 4503599627370496) = (wd neg m p : Int) / 4503599627370496 by unfold wrap64; omega]
    exact wd_exp h0 h1 (by omega) (by omega)
  have e4 : bits .or .u64 ((neg.toNat : Int) * 9223372036854775808 + ((m - 4503599627370496 : Nat) : Int)) ((x + (p + 1075 - 1023) + 1023) * 4503599627370496) = (wd neg m (p + x) : Int) := by
    have h := wd_lay (neg := neg) (x := x + (p + 1075 - 1023) + 1023) h0 h1 (by omega) (by omega)
    rw [show x + (p + 1075 - 1023) + 1023 - 1075 = p + x by omega] at h
    rw [← h, show ((neg.toNat : Int) * 9223372036854775808 + ((m - 4503599627370496 : Nat) : Int)) = ((neg.toNat * 9223372036854775808 + (m - 4503599627370496) : Nat) : Int) by omega]
  have l3 := fun (w : World) => run_float_arith (P := Tryd.prog) w .mul 86 .f64 4607182418800017408 (wd neg m (p + x)) (wd neg m (p + x)) (one_mul_wd h0 h1 (by omega) (by omega))
  have e3 := wd_clear (neg := neg) (p := p) h0 h1 (by omega)
  go_enter Tryd.func98, Tryd.ntmps98
  go_wp2_with fail
  refine (isinf_any _ hl _).mono ?_
  rintro e v ⟨rfl, rfl⟩
  go_wp2_with fail
  refine (isnan64_any _ _).mono ?_
  rintro e v ⟨rfl, rfl⟩
  go_wp2_with fail
  refine (normal_any _ hl hNo _).mono ?_
  rintro e v ⟨rfl, rfl⟩
  clear hl hNo hI hN
  go_wp2_with fail
  go_ret
  exact ⟨rfl, rfl⟩

end Go.Proofs.YtmgpaheobhfioaaDoor
/- What package arith's Fma returns, by its steps in binary64, in the model's own words of floats; what was in memory stays as it was. -/
namespace Go.Proofs.YtmgpaheobhfioaaDoor
open Go.RowKit

end Go.Proofs.YtmgpaheobhfioaaDoor
/- Plain facts: a sample times a power of two by way of binary64. -/
namespace Go.Proofs.YtmgpaheobhfioaaDoor
open Go.RowKit

theorem toldD_num (s : Bool) (m : Nat) (p : Int) : toldD (some (.number s m p)) = Ieee.single.word s (rungOf Ieee.single m p) := nearest_rung _ _ _ _
end Go.Proofs.YtmgpaheobhfioaaDoor
/- Plain facts: numbers of binary64 in its least units: rounding, what it keeps, sums and differences; what is lost of a sum is told exactly. -/
namespace Go.Proofs.YtmgpaheobhfioaaDoor
open Go.RowKit

/-- The sign of a sum. -/
def sg (s t : Bool) (Z : Int) : Bool := if Z = 0 then s && t else decide (Z < 0)
end Go.Proofs.YtmgpaheobhfioaaDoor
/- Plain facts: what is lost of a sum in binary64 is told exactly by five steps; the sum made odd, made narrow, is the exact sum rounded once. -/
namespace Go.Proofs.YtmgpaheobhfioaaDoor
open Go.RowKit

/-- The size. -/
def ab (z : Int) : Nat := z.natAbs
end Go.Proofs.YtmgpaheobhfioaaDoor
/- Plain facts: a quotient with its rest told by one bit. -/
namespace Go.Proofs.YtmgpaheobhfioaaDoor
open Go.RowKit

/-- A quotient's digits, and one more that tells of a rest. -/
def sqV (m n A : Nat) : Nat := 2 * (m * 2 ^ A / n) + if m * 2 ^ A % n = 0 then 0 else 1
theorem sq_stick {m n B k : Nat} (hn : 0 < n) : stick (sqV m n (B + k)) (k + 1) = sqV m n B := by
  have hk := Nat.two_pow_pos k
  have e0 : m * 2 ^ (B + k) = m * 2 ^ B * 2 ^ k := by rw [Nat.pow_add, Nat.mul_assoc]
  -- the great quotient, cut, is the small one
  have e1 : m * 2 ^ (B + k) / n / 2 ^ k = m * 2 ^ B / n := by
    rw [Nat.div_div_eq_div_mul, e0, Nat.mul_div_mul_right _ _ hk]
  have d1 := Nat.div_add_mod (m * 2 ^ (B + k)) n
  have d2 := Nat.div_add_mod (m * 2 ^ B) n
  have d3 := Nat.div_add_mod (m * 2 ^ (B + k) / n) (2 ^ k)
  have r1 := Nat.mod_lt (m * 2 ^ (B + k)) hn
  have r2 := Nat.mod_lt (m * 2 ^ B) hn
  rw [e1] at d3
  obtain ⟨q, hq⟩ : ∃ q, q = m * 2 ^ B / n := ⟨_, rfl⟩
  obtain ⟨Q', hQ⟩ : ∃ Q', Q' = m * 2 ^ (B + k) / n := ⟨_, rfl⟩
  obtain ⟨r, hr⟩ : ∃ r, r = m * 2 ^ B % n := ⟨_, rfl⟩
  obtain ⟨R, hR⟩ : ∃ R, R = m * 2 ^ (B + k) % n := ⟨_, rfl⟩
  obtain ⟨t, ht⟩ : ∃ t, t = Q' % 2 ^ k := ⟨_, rfl⟩
  unfold stick sqV
  rw [← hQ, ← hR, ← hq, ← hr]
  rw [← hQ, ← hq, ← ht] at d3
  rw [← hQ, ← hR] at d1
  rw [← hq, ← hr] at d2
  have htk : t < 2 ^ k := by rw [ht]; exact Nat.mod_lt _ hk
  -- r * 2^k = n * t + R
  have key : r * 2 ^ k = n * t + R := by
    have a1 : n * Q' + R = (n * q + r) * 2 ^ k := by rw [d1, d2, e0]
    rw [← d3] at a1
    rw [Nat.mul_add, Nat.add_mul] at a1
    have a2 : n * (2 ^ k * q) = n * q * 2 ^ k := by rw [Nat.mul_comm (2 ^ k) q, Nat.mul_assoc]
    omega
  have hzero : r = 0 ↔ t = 0 ∧ R = 0 := by
    constructor
    · intro h
      rw [h, Nat.zero_mul] at key
      have k1 : n * t = 0 := by omega
      rcases Nat.mul_eq_zero.1 k1 with h' | h'
      · omega
      · exact ⟨h', by omega⟩
    · rintro ⟨h1, h2⟩
      rw [h1, h2, Nat.mul_zero] at key
      rcases Nat.mul_eq_zero.1 key with h' | h'
      · exact h'
      · omega
  have ep : 2 ^ (k + 1) = 2 * 2 ^ k := by rw [Nat.pow_succ]; omega
  obtain ⟨b, hb⟩ : ∃ b, b = if R = 0 then 0 else 1 := ⟨_, rfl⟩
  have hb2 : b < 2 := by rw [hb]; split <;> omega
  rw [← hb]
  have f1 : (2 * Q' + b) / 2 ^ (k + 1) = q := by
    rw [ep, ← Nat.div_div_eq_div_mul, show (2 * Q' + b) / 2 = Q' by omega, hQ, e1, hq]
  have f2 : (2 * Q' + b) % 2 ^ (k + 1) = 2 * t + b := by
    have g := Nat.div_add_mod (2 * Q' + b) (2 ^ (k + 1))
    rw [f1, ep] at g
    rw [ep]
    have g2 : 2 * 2 ^ k * q = 2 * (2 ^ k * q) := Nat.mul_assoc _ _ _
    omega
  rw [f1, f2]
  have hbR : b = 0 ↔ R = 0 := by rw [hb]; split <;> omega
  by_cases h : r = 0
  · obtain ⟨h1, h2⟩ := hzero.1 h
    rw [if_pos h, if_pos (by have := hbR.2 h2; omega)]
  · rw [if_neg h, if_neg]
    intro h'
    exact h (hzero.2 ⟨by omega, hbR.1 (by omega)⟩)
theorem sq_link (f : Ieee.Format) {m n A B : Nat} (x : Int) (hn : 0 < n) (hA : B ≤ A) (hq : 2 ^ (f.fractionBits + 1) ≤ m * 2 ^ B / n) :
    rungOf f (sqV m n A) (x - A - 1) = rungOf f (sqV m n B) (x - B - 1) := by
  obtain ⟨k, rfl⟩ : ∃ k, A = B + k := ⟨A - B, by omega⟩
  have e1 : m * 2 ^ (B + k) / n / 2 ^ k = m * 2 ^ B / n := by
    rw [Nat.div_div_eq_div_mul, Nat.pow_add, ← Nat.mul_assoc, Nat.mul_div_mul_right _ _ (Nat.two_pow_pos k)]
  have h1 : 2 ^ (f.fractionBits + 1 + k) ≤ m * 2 ^ (B + k) / n := by
    rw [Nat.pow_add]
    rw [← e1] at hq
    exact (Nat.le_div_iff_mul_le (Nat.two_pow_pos k)).1 hq
  have h2 : 2 ^ (f.fractionBits + 2 + k) ≤ sqV m n (B + k) := by
    unfold sqV
    rw [show f.fractionBits + 2 + k = f.fractionBits + 1 + k + 1 by omega, Nat.pow_succ]
    omega
  have hM : sqV m n (B + k) ≠ 0 := by have := Nat.two_pow_pos (f.fractionBits + 2 + k); omega
  have hlog : f.fractionBits + 2 + k ≤ (sqV m n (B + k)).log2 := (Nat.le_log2 hM).2 h2
  have := rung_stick f (M := sqV m n (B + k)) (k := k + 1) (x - (B + k : Nat) - 1) (by omega) hM (by unfold lastOf; omega)
  rw [sq_stick hn] at this
  rw [← this]
  congr 1; omega
end Go.Proofs.YtmgpaheobhfioaaDoor
/- Plain facts: a quotient with its rest told by one bit, rounded: how many digits it has does not matter; the reference's quotients are the model's. -/
namespace Go.Proofs.YtmgpaheobhfioaaDoor
open Go.RowKit

theorem zeroB_fin (s : Bool) (n : Nat) (e : Int) : zeroB (.fin s n e false) = decide (n = 0) := by
  unfold zeroB; cases n <;> rfl
end Go.Proofs.YtmgpaheobhfioaaDoor

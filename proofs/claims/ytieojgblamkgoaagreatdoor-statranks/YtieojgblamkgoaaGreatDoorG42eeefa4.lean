/- Plain facts: samples made whole by way of binary64; whole numbers as samples. -/
import Derived.Test.YtieojgblamkgoaaGreatDoorG61144fdc
import Derived.Test.YtieojgblamkgoaaGreatDoorG59477670
import Derived.Test.YtieojgblamkgoaaGreatDoorGbbd98f2c
namespace Go.Proofs.YtieojgblamkgoaaGreatDoor
open Go.RowKit

theorem frac32 : Ieee.single.fractionBits = 23 := rfl
/-- How many digits a number in least units loses. -/
def lostK32 (M : Nat) : Nat := M.log2 - 23
theorem kept_bd32 {M : Nat} : rne M (lostK32 M) ≤ 16777216 ∧ (0 < lostK32 M → 8388608 ≤ rne M (lostK32 M)) := by
  have e1 : lastOf Ieee.single M (-149) = -149 + (lostK32 M : Int) := by unfold lastOf lostK32; rw [least32, frac32]; omega
  have e3 : (-149 : Int) - (-149 + (lostK32 M : Int)) = -(lostK32 M : Int) := by omega
  have hk := kept_le Ieee.single M (-149)
  rw [e1, e3, rz_neg, binade32] at hk
  refine ⟨hk, fun h => ?_⟩
  have hM : M ≠ 0 := by intro h0; subst h0; exact absurd h (by decide)
  have := le_kept Ieee.single hM (-149) (by rw [e1, frac32]; unfold lostK32 at *; omega)
  rw [e1, e3, rz_neg, binade32] at this
  exact this
theorem rung32_eq {M : Nat} (hM : M.log2 ≤ 270) : rungOf Ieee.single M (-149) = lostK32 M * 8388608 + rne M (lostK32 M) := by
  by_cases h : M = 0
  · subst h
    rw [rungOf_zero, show lostK32 0 = 0 from by decide, rne_zero]
  · unfold rungOf
    rw [if_neg h]
    have e1 : lastOf Ieee.single M (-149) = -149 + (lostK32 M : Int) := by unfold lastOf lostK32; rw [least32, frac32]; omega
    have e2 : (-149 + (lostK32 M : Int) - -149).toNat = lostK32 M := by omega
    have e3 : (-149 : Int) - (-149 + (lostK32 M : Int)) = -(lostK32 M : Int) := by omega
    rw [e1, least32, binade32, inf32, e2, e3, rz_neg]
    have hk := (kept_bd32 (M := M)).1
    have hl : lostK32 M ≤ 247 := by unfold lostK32; omega
    rw [Nat.min_eq_left (by omega)]
theorem val_of32 {K c : Nat} (h : c ≤ 16777216) (h' : 0 < K → 8388608 ≤ c) : val32 (K * 8388608 + c) = c * 2 ^ K := by
  unfold val32 mag32
  rcases Nat.lt_or_ge c 16777216 with g | g
  · rcases Nat.lt_or_ge c 8388608 with k | k
    · have hK : K = 0 := by omega
      subst hK
      have e : plc32 (0 * 8388608 + c) = 0 := by unfold plc32; omega
      rw [e]; congr 1; omega
    · have e : plc32 (K * 8388608 + c) = K := by unfold plc32; omega
      rw [e]; congr 1; omega
  · have e : plc32 (K * 8388608 + c) = K + 1 := by unfold plc32; omega
    rw [e, Nat.pow_succ]
    have e2 : K * 8388608 + c - (K + 1) * 8388608 = 8388608 := by omega
    have e3 : c = 8388608 * 2 := by omega
    rw [e2, e3, Nat.mul_assoc, Nat.mul_comm (2 ^ K) 2]
theorem vN_eq32 {M : Nat} (hM : M.log2 ≤ 270) : val32 (rungOf Ieee.single M (-149)) = rne M (lostK32 M) * 2 ^ lostK32 M := by
  rw [rung32_eq hM, val_of32 kept_bd32.1 kept_bd32.2]
theorem vN_div32 {M : Nat} (hM : M.log2 ≤ 270) (h : 2 ^ lostK32 M ∣ M) : val32 (rungOf Ieee.single M (-149)) = M := by
  rw [vN_eq32 hM]
  obtain ⟨o, ho⟩ := h
  have : rne M (lostK32 M) = o := by
    have e := rne_exact o (lostK32 M)
    rw [Nat.mul_comm, ← ho] at e
    exact e
  rw [this, Nat.mul_comm, ← ho]
theorem vN_exact32 {M g : Nat} (hM : M.log2 ≤ 270) (hd : 2 ^ g ∣ M) (hb : M < 2 ^ (24 + g)) : val32 (rungOf Ieee.single M (-149)) = M := by
  by_cases h0 : M = 0
  · subst h0; rw [rungOf_zero]; exact val_zero32
  · refine vN_div32 hM ?_
    have hl := (Nat.log2_lt h0).2 hb
    exact Nat.dvd_trans (Nat.pow_dvd_pow 2 (by unfold lostK32; omega)) hd

theorem cut_down (neg : Bool) (n d : Nat) : Ieee.Toward.down.cut neg n d = n / 2 ^ d + (neg && decide (n % 2 ^ d ≠ 0)).toNat := by
  unfold Ieee.Toward.cut
  have h1 : n < 2 ^ (n.log2 + 1) := Nat.lt_log2_self
  show n / (1 <<< min d (n.log2 + 2)) + (neg && (n % (1 <<< min d (n.log2 + 2)) != 0)).toNat = _
  rw [Nat.shiftLeft_eq, Nat.one_mul]
  have hb : ∀ x : Nat, (x != 0) = decide (x ≠ 0) := by intro x; cases x <;> rfl
  rw [hb]
  rcases Nat.le_total d (n.log2 + 2) with h | h
  · rw [Nat.min_eq_left h]
  · rw [Nat.min_eq_right h]
    have h2 : 2 ^ (n.log2 + 1) ≤ 2 ^ (n.log2 + 2) := Nat.pow_le_pow_right (by decide) (by omega)
    have h3 : 2 ^ (n.log2 + 2) ≤ 2 ^ d := Nat.pow_le_pow_right (by decide) h
    rw [Nat.div_eq_of_lt (by omega), Nat.div_eq_of_lt (by omega), Nat.mod_eq_of_lt (by omega), Nat.mod_eq_of_lt (by omega)]
/-- Down or to the nearest: the value decides. -/
theorem cut_scale {way : Ieee.Toward} (hw : way = .down ∨ way = .even) (neg : Bool) (n d k : Nat) : way.cut neg (n * 2 ^ k) (d + k) = way.cut neg n d := by
  rcases hw with rfl | rfl
  · rw [cut_down, cut_down]
    have hk := Nat.two_pow_pos k
    have e1 : n * 2 ^ k / 2 ^ (d + k) = n / 2 ^ d := by rw [Nat.pow_add, Nat.mul_div_mul_right _ _ hk]
    have e2 : n * 2 ^ k % 2 ^ (d + k) = n % 2 ^ d * 2 ^ k := by rw [Nat.pow_add, Nat.mul_mod_mul_right]
    rw [e1, e2]
    congr 2
    congr 1
    rw [decide_eq_decide]
    constructor
    · intro h h0; rw [h0, Nat.zero_mul] at h; exact h rfl
    · intro h h0
      rcases Nat.mul_eq_zero.1 h0 with g | g
      · exact h g
      · omega
  · rw [cut_rne, cut_rne, rne_scale]
theorem cut_0 {way : Ieee.Toward} (hw : way = .down ∨ way = .even) (neg : Bool) (n : Nat) : way.cut neg n 0 = n := by
  rcases hw with rfl | rfl
  · rw [cut_down, Nat.pow_zero, Nat.div_one, Nat.mod_one]
    cases neg <;> rfl
  · rw [cut_rne, rne_zero]
theorem cut_le {way : Ieee.Toward} (hw : way = .down ∨ way = .even) (neg : Bool) (n d : Nat) : way.cut neg n d ≤ n / 2 ^ d + 1 := by
  rcases hw with rfl | rfl
  · rw [cut_down]
    have := Bool.toNat_lt (neg && decide (n % 2 ^ d ≠ 0))
    omega
  · rw [cut_rne]; unfold rne; split <;> omega

/-- A number made whole. -/
def wholeN (way : Ieee.Toward) (s : Bool) (m : Nat) (p : Int) : Nat := way.cut s (m <<< p.toNat) (-p).toNat
theorem wholeN_scale {way : Ieee.Toward} (hw : way = .down ∨ way = .even) (s : Bool) (m j : Nat) (p : Int) : wholeN way s (m * 2 ^ j) (p - j) = wholeN way s m p := by
  unfold wholeN
  rw [Nat.shiftLeft_eq, Nat.shiftLeft_eq]
  rcases Int.lt_or_le (p - j) 0 with h | h
  · rw [show (p - (j : Int)).toNat = 0 by omega, Nat.pow_zero, Nat.mul_one]
    rcases Int.lt_or_le p 0 with g | g
    · rw [show p.toNat = 0 by omega, Nat.pow_zero, Nat.mul_one, show (-(p - (j : Int))).toNat = (-p).toNat + j by omega, cut_scale hw]
    · obtain ⟨q, rfl⟩ := Int.eq_ofNat_of_zero_le g
      have e : m * 2 ^ j = m * 2 ^ q * 2 ^ (j - q) := by rw [Nat.mul_assoc, ← Nat.pow_add, show q + (j - q) = j by omega]
      rw [e, show (-((q : Int) - (j : Int))).toNat = 0 + (j - q) by omega, cut_scale hw, show ((q : Int)).toNat = q by omega, show (-(q : Int)).toNat = 0 by omega]
  · rw [show (-(p - (j : Int))).toNat = 0 by omega, show (-p).toNat = 0 by omega, cut_0 hw, cut_0 hw, Nat.mul_assoc, ← Nat.pow_add, show j + (p - (j : Int)).toNat = p.toNat by omega]
theorem wholeN_zero {way : Ieee.Toward} (hw : way = .down ∨ way = .even) (s : Bool) (p : Int) : wholeN way s 0 p = 0 := by
  unfold wholeN
  rw [Nat.shiftLeft_eq, Nat.zero_mul]
  rcases hw with rfl | rfl
  · rw [cut_down, Nat.zero_div, Nat.zero_mod]; cases s <;> rfl
  · rw [cut_rne]
    have := rne_exact 0 (-p).toNat
    rw [Nat.zero_mul] at this; exact this
/-- A finite sample, wide, made whole. -/
theorem integral_wide {way : Ieee.Toward} (hw : way = .down ∨ way = .even) {a : Nat} (h : rung32 a < 2139095040) :
    (Ieee.double.read (wideN a)).integral way = .number (sgn32 a) (wholeN way (sgn32 a) (mag32 (rung32 a)) (-149 + (plc32 (rung32 a) : Int))) 0 := by
  by_cases z : rung32 a = 0
  · rw [wide_zero z, read_word64, z, show mag32 0 = 0 from by decide, wholeN_zero hw]
    show Ieee.Datum.number (sgn32 a) (wholeN way (sgn32 a) 0 (-1074)) 0 = _
    rw [wholeN_zero hw]
  · obtain ⟨L, hL, m0, m1, e, hp⟩ := wide_wd z h
    have b0 : 4503599627370496 ≤ mag32 (rung32 a) * 2 ^ (52 - L) := by
      have := Nat.mul_le_mul_right (2 ^ (52 - L)) m0
      rw [← Nat.pow_add, show L + (52 - L) = 52 by omega] at this
      exact this
    have b1 : mag32 (rung32 a) * 2 ^ (52 - L) < 9007199254740992 := by
      have := Nat.mul_lt_mul_of_pos_right m1 (Nat.two_pow_pos (52 - L))
      rw [← Nat.pow_add, show L + 1 + (52 - L) = 53 by omega] at this
      exact this
    rw [e, read_wd b0 b1 (by omega) (by omega)]
    show Ieee.Datum.number (sgn32 a) (wholeN way (sgn32 a) (mag32 (rung32 a) * 2 ^ (52 - L)) (-149 + (plc32 (rung32 a) : Int) + L - 52)) 0 = _
    have := wholeN_scale hw (sgn32 a) (mag32 (rung32 a)) (52 - L) (-149 + (plc32 (rung32 a) : Int))
    rw [show -149 + (plc32 (rung32 a) : Int) - ((52 - L : Nat) : Int) = -149 + (plc32 (rung32 a) : Int) + L - 52 by omega] at this
    rw [this]
/-- What a whole number is as a word, and that word as a whole number. -/
theorem whole_word {s : Bool} {N o k : Nat} (hN : N = o * 2 ^ k) (ho : o < 2 ^ 53) (hk : k ≤ 200) :
    Ieee.double.write (.number s N 0) = wordOf s (Ieee.signed s o (k + 1074)) ∧ rung64 (Ieee.double.write (.number s N 0)) < 9218868437227405312 ∧ sgn64 (Ieee.double.write (.number s N 0)) = s ∧
      ∃ E : Nat, E = 1074 ∧ sval64 (Ieee.double.write (.number s N 0)) = Ieee.signed s N E := by
  obtain ⟨E, hE⟩ : ∃ E : Nat, E = 1074 := ⟨_, rfl⟩
  have e1 : Ieee.double.write (.number s N 0) = wordOf s (Ieee.signed s o (k + 1074)) := by
    show Ieee.double.nearest s N 0 = _
    rw [nearest_rung]
    unfold wordOf
    rw [signed_abs, ← hE, Nat.pow_add, ← Nat.mul_assoc, ← hN, rung_scale, show (-1074 : Int) + (E : Int) = 0 by omega]
  obtain ⟨a, b, c⟩ := units_word (s := s) (m := o) (k := k + 1074) ho (by omega)
  rw [e1]
  refine ⟨rfl, a, b, E, hE, ?_⟩
  rw [c, ← hE]
  unfold Ieee.signed
  rw [Nat.shiftLeft_eq, Nat.shiftLeft_eq, hN, Nat.pow_add, ← Nat.mul_assoc]
theorem trunc_whole {x N E : Nat} {s : Bool} (hx : rung64 x < 9218868437227405312) (hs : sgn64 x = s) (hE : E = 1074) (hv : sval64 x = Ieee.signed s N E) : truncV x = Ieee.signed s N 0 := by
  rw [(trunc_fin hx).2, hs]
  have hval : mag64 (rung64 x) * 2 ^ plc64 (rung64 x) = N * 2 ^ E := by
    have := val_abs x
    rw [hv, signed_abs] at this
    exact this.symm
  have key : mag64 (rung64 x) * 2 ^ (-1074 + (plc64 (rung64 x) : Int)).toNat / 2 ^ (-(-1074 + (plc64 (rung64 x) : Int))).toNat = N := by
    rcases Nat.le_total E (plc64 (rung64 x)) with g | g
    · rw [show (-1074 + (plc64 (rung64 x) : Int)).toNat = plc64 (rung64 x) - E by omega, show (-(-1074 + (plc64 (rung64 x) : Int))).toNat = 0 by omega, Nat.pow_zero, Nat.div_one]
      have : mag64 (rung64 x) * 2 ^ (plc64 (rung64 x) - E) * 2 ^ E = N * 2 ^ E := by
        rw [Nat.mul_assoc, ← Nat.pow_add, show plc64 (rung64 x) - E + E = plc64 (rung64 x) by omega]; exact hval
      exact Nat.eq_of_mul_eq_mul_right (Nat.two_pow_pos E) this
    · rw [show (-1074 + (plc64 (rung64 x) : Int)).toNat = 0 by omega, Nat.pow_zero, Nat.mul_one, show (-(-1074 + (plc64 (rung64 x) : Int))).toNat = E - plc64 (rung64 x) by omega]
      have : mag64 (rung64 x) * 2 ^ plc64 (rung64 x) = N * 2 ^ (E - plc64 (rung64 x)) * 2 ^ plc64 (rung64 x) := by
        rw [Nat.mul_assoc N, ← Nat.pow_add, show E - plc64 (rung64 x) + plc64 (rung64 x) = E by omega]; exact hval
      have := Nat.eq_of_mul_eq_mul_right (Nat.two_pow_pos _) this
      rw [this, Nat.mul_div_cancel _ (Nat.two_pow_pos _)]
  rw [key]
theorem in_whole {x N E : Nat} {s : Bool} (hx : rung64 x < 9218868437227405312) (hE : E = 1074) (hv : sval64 x = Ieee.signed s N E) :
    inWhole x = decide (-9223372036854775808 ≤ Ieee.signed s N 0 ∧ Ieee.signed s N 0 < 9223372036854775808) := by
  have hn : nan64 x = false := by rw [nan64_rung]; exact decide_eq_false (by omega)
  have hp : (0 : Int) < 2 ^ E := Int.pow_pos (by decide)
  have e0 : sval64 x = Ieee.signed s N 0 * 2 ^ E := by
    rw [hv, signed_shift]
    unfold Ieee.signed
    rw [Nat.shiftLeft_eq, Nat.shiftLeft_zero, Nat.zero_add]
  have c1 : sval64 4890909195324358656 = 9223372036854775808 * 2 ^ E := by
    unfold sval64 val64
    rw [show sgn64 4890909195324358656 = false from by decide, show rung64 4890909195324358656 = 4890909195324358656 from by decide, show mag64 4890909195324358656 = 4503599627370496 from by decide, show plc64 4890909195324358656 = 11 + E from by rw [hE]; decide, Nat.pow_add]
    simp only [Bool.false_eq_true, if_false]
    rw [← Nat.mul_assoc, show (4503599627370496 * 2 ^ 11 : Nat) = 9223372036854775808 from rfl, Int.natCast_mul, Int.natCast_pow]
    rfl
  have c2 : sval64 14114281232179134464 = -9223372036854775808 * 2 ^ E := by
    unfold sval64 val64
    rw [show sgn64 14114281232179134464 = true from by decide, show rung64 14114281232179134464 = 4890909195324358656 from by decide, show mag64 4890909195324358656 = 4503599627370496 from by decide, show plc64 4890909195324358656 = 11 + E from by rw [hE]; decide, Nat.pow_add]
    simp only [if_true]
    rw [← Nat.mul_assoc, Int.neg_mul, show (4503599627370496 * 2 ^ 11 : Nat) = 9223372036854775808 from rfl, Int.natCast_mul, Int.natCast_pow]
    rfl
  have k1 := sval_srung64 x 4890909195324358656
  have k2 := sval_srung64 x 14114281232179134464
  rw [whole_hi, c1, e0, cmp_scale hp] at k1
  rw [whole_lo, c2, e0, cmp_scale hp] at k2
  have l1 : srung64 x < 4890909195324358656 ↔ Ieee.signed s N 0 < 9223372036854775808 := by rw [← Int.compare_eq_lt, ← Int.compare_eq_lt, k1]
  have l2 : srung64 x < -4890909195324358656 ↔ Ieee.signed s N 0 < -9223372036854775808 := by rw [← Int.compare_eq_lt, ← Int.compare_eq_lt, k2]
  unfold inWhole
  rw [hn, Bool.not_false, Bool.true_and, ← Bool.decide_and, decide_eq_decide]
  omega
/-- What Floor and Nearest tell of a finite sample. -/
theorem flo_fin {way : Ieee.Toward} (hw : way = .down ∨ way = .even) {a : Nat} (h : rung32 a < 2139095040) :
    ∃ V, V = Ieee.signed (sgn32 a) (wholeN way (sgn32 a) (mag32 (rung32 a)) (-149 + (plc32 (rung32 a) : Int))) 0 ∧
      floI way a = (if -9223372036854775808 ≤ V ∧ V < 9223372036854775808 then V else 0) ∧ floE way a = (if -9223372036854775808 ≤ V ∧ V < 9223372036854775808 then 0 else 20) := by
  obtain ⟨N, hN⟩ : ∃ N, N = wholeN way (sgn32 a) (mag32 (rung32 a)) (-149 + (plc32 (rung32 a) : Int)) := ⟨_, rfl⟩
  have hm := mag_lt32 (rung32 a)
  have hp := plc_le32 h
  have hf : ∃ o k, N = o * 2 ^ k ∧ o < 2 ^ 53 ∧ k ≤ 200 := by
    rcases Int.lt_or_le (-149 + (plc32 (rung32 a) : Int)) 0 with g | g
    · refine ⟨N, 0, by rw [Nat.pow_zero, Nat.mul_one], ?_, by omega⟩
      rw [hN]
      unfold wholeN
      have := cut_le hw (sgn32 a) (mag32 (rung32 a) <<< (-149 + (plc32 (rung32 a) : Int)).toNat) (-(-149 + (plc32 (rung32 a) : Int))).toNat
      have k1 : mag32 (rung32 a) <<< (-149 + (plc32 (rung32 a) : Int)).toNat = mag32 (rung32 a) := by
        rw [show (-149 + (plc32 (rung32 a) : Int)).toNat = 0 by omega, Nat.shiftLeft_zero]
      rw [k1] at this ⊢
      have k2 := Nat.div_le_self (mag32 (rung32 a)) (2 ^ (-(-149 + (plc32 (rung32 a) : Int))).toNat)
      omega
    · refine ⟨mag32 (rung32 a), (-149 + (plc32 (rung32 a) : Int)).toNat, ?_, by omega, by omega⟩
      rw [hN]
      unfold wholeN
      rw [show (-(-149 + (plc32 (rung32 a) : Int))).toNat = 0 by omega, cut_0 hw, Nat.shiftLeft_eq]
  obtain ⟨o, k, e1, e2, e3⟩ := hf
  obtain ⟨w1, w2, w3, E, w4, w5⟩ := whole_word (s := sgn32 a) e1 e2 e3
  have hfl : flD way (wideN a) = Ieee.double.write (.number (sgn32 a) N 0) := by
    unfold flD; rw [integral_wide hw h, hN]
  have hnn := fin_num h
  refine ⟨_, rfl, ?_, ?_⟩
  · unfold floI wholeI
    rw [hnn, if_neg (by decide), hfl, in_whole w2 w4 w5, trunc_whole w2 w3 w4 w5, ← hN]
    simp only [decide_eq_true_eq]
  · unfold floE wholeE
    rw [hnn, if_neg (by decide), hfl, in_whole w2 w4 w5, ← hN]
    simp only [decide_eq_true_eq]
theorem flo_inf {way : Ieee.Toward} {a : Nat} (h : rung32 a = 2139095040) : floI way a = 0 ∧ floE way a = 20 := by
  have e : flD way (wideN a) = Ieee.double.word (sgn32 a) 9218868437227405312 := by
    unfold flD
    rw [wide_read_inf h]
    show Ieee.double.write (.infinity (sgn32 a)) = _
    rw [write_inf]
  have hi : inWhole (Ieee.double.word (sgn32 a) 9218868437227405312) = false := by
    cases sgn32 a <;> decide
  unfold floI floE wholeI wholeE
  rw [inf_num h, e, hi]
  exact ⟨rfl, rfl⟩
theorem flo_nan {way : Ieee.Toward} {a : Nat} (h : nanN a = true) : floI way a = 0 ∧ floE way a = 20 := by
  unfold floI floE; rw [h]; exact ⟨rfl, rfl⟩
end Go.Proofs.YtieojgblamkgoaaGreatDoor
/- What the reference's Wide and Narrow return. -/
namespace Go.Proofs.YtieojgblamkgoaaGreatDoor
open Go.RowKit

theorem numOf_fitsD (a : Nat) : fitsD (numOf Ieee.single a) := by
  rw [numOf_datum]
  cases h : nanN a
  · rcases cases32 h with g | g
    · rw [read_fin32 g]
      have := mag_lt32 (rung32 a)
      have hp := plc_le32 g
      exact ⟨by have := blen_le (n := mag32 (rung32 a)) (k := 24) this; omega, by omega, by omega, fun h => by cases h⟩
    · rw [read_inf32 g]; exact trivial
  · obtain ⟨s, t, e⟩ := isNaN_cases (read32_nan h)
    rw [e]; exact trivial
theorem roundD_fin (s : Bool) (n : Nat) (e : Int) : roundD (.fin s n e false) = Ieee.double.nearest s n e := by
  show Ieee.double.word s (rungOf Ieee.double (2 * n + 0) (e - 1)) = _
  rw [nearest_rung, Nat.add_zero]
  have := rung_scale Ieee.double n 1 (e - 1)
  rw [Nat.pow_one, Nat.mul_comm n 2] at this
  rw [this, show e - 1 + ((1 : Nat) : Int) = e by omega]
theorem wide_told (a : Nat) : roundD (numOf Ieee.single a) = wideW a := by
  rw [numOf_datum]
  unfold wideW wideN
  cases h : nanN a
  · rw [if_neg (by decide)]
    rcases cases32 h with g | g
    · rw [read_fin32 g]; exact roundD_fin _ _ _
    · rw [read_inf32 g]
      show Ieee.double.word _ 9218868437227405312 = Ieee.double.word _ Ieee.double.infRung
      rw [inf64]
  · obtain ⟨s, t, e⟩ := isNaN_cases (read32_nan h)
    rw [e, if_pos rfl]; rfl
theorem numOf_fits64 (x : Nat) : fits (numOf Ieee.double x) := by
  rw [numOf_datum]
  cases h : nan64 x
  · rw [nan64_rung] at h
    have h := of_decide_eq_false h
    rcases Nat.lt_or_ge (rung64 x) 9218868437227405312 with g | g
    · rw [read_fin64 g]
      have := mag_lt64 (rung64 x)
      have hp : plc64 (rung64 x) ≤ 2046 := by unfold plc64; omega
      exact ⟨by have := blen_le (n := mag64 (rung64 x)) (k := 53) this; omega, by omega, by omega, fun h => by cases h⟩
    · rw [read_inf64 (by omega)]; exact trivial
  · obtain ⟨s, t, e⟩ := isNaN_cases (read64_nan h)
    rw [e]; exact trivial
theorem narrow_told (x : Nat) : roundR (numOf Ieee.double x) = toldD (some (Ieee.double.read x)) := by
  rw [numOf_datum]
  cases h : Ieee.double.read x with
  | nan s t => rfl
  | infinity s =>
    show Ieee.single.word s 2139095040 = Ieee.single.word s Ieee.single.infRung
    rw [inf32]
  | number s m p => exact roundR_fin s m p

end Go.Proofs.YtieojgblamkgoaaGreatDoor
/- What the reference's IsNaN, key, Less, Equal, Least and Greatest return of whatever samples. -/
namespace Go.Proofs.YtieojgblamkgoaaGreatDoor
open Go.RowKit

theorem nanN_cases (b : Nat) : (numOf Ieee.single b = .nan ∧ nanN b = true) ∨ ((∃ s, numOf Ieee.single b = .inf s) ∧ nanN b = false) ∨ ((∃ s n e, numOf Ieee.single b = .fin s n e false) ∧ nanN b = false) := by
  unfold nanN
  by_cases h1 : b / 8388608 % 256 = 255
  · by_cases h2 : b % 8388608 = 0
    · exact Or.inr (Or.inl ⟨⟨_, numOf_inf h1 h2⟩, decide_eq_false (by omega)⟩)
    · exact Or.inl ⟨numOf_nan h1 h2, decide_eq_true (by omega)⟩
  · by_cases h3 : b / 8388608 % 256 = 0
    · exact Or.inr (Or.inr ⟨⟨_, _, _, numOf_small h3⟩, decide_eq_false (by omega)⟩)
    · exact Or.inr (Or.inr ⟨⟨_, _, _, numOf_norm h3 h1⟩, decide_eq_false (by omega)⟩)

theorem field_kind (k : Int) (s : Bool) (p : Option Addr) (L C : Nat) (e : Int) (m : Bool) (w : World) :
    Sem.run Tryz.prog (Instr.field 138 (.agg #[.int .i64 k, .bool s, .slice p L C, .int .i64 e, .bool m]) 0) w = .ok (.int .i64 k) w := by kernel_rfl

/-- Rises with the value. -/
def keyR (a : Nat) : Int := if a < 2147483648 then (a : Int) else -((a - 2147483648 : Nat) : Int)
def leastR (a b : Nat) : Nat := if keyR a < keyR b ∨ (keyR a = keyR b ∧ 2147483648 ≤ a) then a else b
def greatestR (a b : Nat) : Nat := if keyR b < keyR a ∨ (keyR a = keyR b ∧ a < 2147483648) then a else b
end Go.Proofs.YtieojgblamkgoaaGreatDoor

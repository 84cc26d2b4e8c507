/- Plain facts: samples made whole by way of binary64; whole numbers as samples. -/
import Derived.Test.YtdempklpmggdoaaGd0fb7c7f
import Derived.Test.YtdempklpmggdoaaGe3608dd2
import Derived.Test.YtdempklpmggdoaaG6d376ae7
import Derived.Test.YtdempklpmggdoaaG593b3e97
namespace Go.Proofs.Ytdempklpmggdoaa
open Go.RowKit

theorem frac32 : Ieee.single.fractionBits = 23 := rfl
/-- How many digits a number in least units loses. -/
def lostK32 (M : Nat) : Nat := M.log2 - 23
theorem kept_bd32 {M : Nat} : rne M (lostK32 M) ≤ 16777216 ∧ (0 < lostK32 M → 8388608 ≤ rne M (lostK32 M)) := by
  have e1 : lastOf Ieee.single M (-149) = -149 + (lostK32 M : Int) := by unfold lastOf lostK32; rw [least32, frac32]; omega
  have e3 : (-149 : Int) - (-149 + (lostK32 M : Int)) = -(lostK32 M : Int) := by omega
  have hk := kept_le Ieee.single M (-149)
  rw [e1, e3, rz_neg, binade32] at hk
  refine ⟨hk, fun h => ?_⟩
  have hM : M ≠ 0 := by intro h0; subst h0; exact absurd h (by decide)
  have := le_kept Ieee.single hM (-149) (by rw [e1, frac32]; unfold lostK32 at *; omega)
  rw [e1, e3, rz_neg, binade32] at this
  exact this
theorem rung32_eq {M : Nat} (hM : M.log2 ≤ 270) : rungOf Ieee.single M (-149) = lostK32 M * 8388608 + rne M (lostK32 M) := by
  by_cases h : M = 0
  · subst h
    rw [rungOf_zero, show lostK32 0 = 0 from by decide, rne_zero]
  · unfold rungOf
    rw [if_neg h]
    have e1 : lastOf Ieee.single M (-149) = -149 + (lostK32 M : Int) := by unfold lastOf lostK32; rw [least32, frac32]; omega
    have e2 : (-149 + (lostK32 M : Int) - -149).toNat = lostK32 M := by omega
    have e3 : (-149 : Int) - (-149 + (lostK32 M : Int)) = -(lostK32 M : Int) := by omega
    rw [e1, least32, binade32, inf32, e2, e3, rz_neg]
    have hk := (kept_bd32 (M := M)).1
    have hl : lostK32 M ≤ 247 := by unfold lostK32; omega
    rw [Nat.min_eq_left (by omega)]
theorem val_of32 {K c : Nat} (h : c ≤ 16777216) (h' : 0 < K → 8388608 ≤ c) : val32 (K * 8388608 + c) = c * 2 ^ K := by
  unfold val32 mag32
  rcases Nat.lt_or_ge c 16777216 with g | g
  · rcases Nat.lt_or_ge c 8388608 with k | k
    · have hK : K = 0 := by omega
      subst hK
      have e : plc32 (0 * 8388608 + c) = 0 := by unfold plc32; omega
      rw [e]; congr 1; omega
    · have e : plc32 (K * 8388608 + c) = K := by unfold plc32; omega
      rw [e]; congr 1; omega
  · have e : plc32 (K * 8388608 + c) = K + 1 := by unfold plc32; omega
    rw [e, Nat.pow_succ]
    have e2 : K * 8388608 + c - (K + 1) * 8388608 = 8388608 := by omega
    have e3 : c = 8388608 * 2 := by omega
    rw [e2, e3, Nat.mul_assoc, Nat.mul_comm (2 ^ K) 2]
theorem vN_eq32 {M : Nat} (hM : M.log2 ≤ 270) : val32 (rungOf Ieee.single M (-149)) = rne M (lostK32 M) * 2 ^ lostK32 M := by
  rw [rung32_eq hM, val_of32 kept_bd32.1 kept_bd32.2]
theorem vN_div32 {M : Nat} (hM : M.log2 ≤ 270) (h : 2 ^ lostK32 M ∣ M) : val32 (rungOf Ieee.single M (-149)) = M := by
  rw [vN_eq32 hM]
  obtain ⟨o, ho⟩ := h
  have : rne M (lostK32 M) = o := by
    have e := rne_exact o (lostK32 M)
    rw [Nat.mul_comm, ← ho] at e
    exact e
  rw [this, Nat.mul_comm, ← ho]
theorem vN_exact32 {M g : Nat} (hM : M.log2 ≤ 270) (hd : 2 ^ g ∣ M) (hb : M < 2 ^ (24 + g)) : val32 (rungOf Ieee.single M (-149)) = M := by
  by_cases h0 : M = 0
  · subst h0; rw [rungOf_zero]; exact val_zero32
  · refine vN_div32 hM ?_
    have hl := (Nat.log2_lt h0).2 hb
    exact Nat.dvd_trans (Nat.pow_dvd_pow 2 (by unfold lostK32; omega)) hd

theorem cut_down (neg : Bool) (n d : Nat) : Ieee.Toward.down.cut neg n d = n / 2 ^ d + (neg && decide (n % 2 ^ d ≠ 0)).toNat := by
  unfold Ieee.Toward.cut
  have h1 : n < 2 ^ (n.log2 + 1) := Nat.lt_log2_self
  show n / (1 <<< min d (n.log2 + 2)) + (neg && (n % (1 <<< min d (n.log2 + 2)) != 0)).toNat = _
  rw [Nat.shiftLeft_eq, Nat.one_mul]
  have hb : ∀ x : Nat, (x != 0) = decide (x ≠ 0) := by intro x; cases x <;> rfl
  rw [hb]
  rcases Nat.le_total d (n.log2 + 2) with h | h
  · rw [Nat.min_eq_left h]
  · rw [Nat.min_eq_right h]
    have h2 : 2 ^ (n.log2 + 1) ≤ 2 ^ (n.log2 + 2) := Nat.pow_le_pow_right (by decide) (by omega)
    have h3 : 2 ^ (n.log2 + 2) ≤ 2 ^ d := Nat.pow_le_pow_right (by decide) h
    rw [Nat.div_eq_of_lt (by omega), Nat.div_eq_of_lt (by omega), Nat.mod_eq_of_lt (by omega), Nat.mod_eq_of_lt (by omega)]
/-- Down or to the nearest: the value decides. -/
theorem cut_scale {way : Ieee.Toward} (hw : way = .down ∨ way = .even) (neg : Bool) (n d k : Nat) : way.cut neg (n * 2 ^ k) (d + k) = way.cut neg n d := by
  rcases hw with rfl | rfl
  · rw [cut_down, cut_down]
    have hk := Nat.two_pow_pos k
    have e1 : n * 2 ^ k / 2 ^ (d + k) = n / 2 ^ d := by rw [Nat.pow_add, Nat.mul_div_mul_right _ _ hk]
    have e2 : n * 2 ^ k % 2 ^ (d + k) = n % 2 ^ d * 2 ^ k := by rw [Nat.pow_add, Nat.mul_mod_mul_right]
    rw [e1, e2]
    congr 2
    congr 1
    rw [decide_eq_decide]
    constructor
    · intro h h0; rw [h0, Nat.zero_mul] at h; exact h rfl
    · intro h h0
      rcases Nat.mul_eq_zero.1 h0 with g | g
      · exact h g
      · omega
  · rw [cut_rne, cut_rne, rne_scale]
theorem cut_0 {way : Ieee.Toward} (hw : way = .down ∨ way = .even) (neg : Bool) (n : Nat) : way.cut neg n 0 = n := by
  rcases hw with rfl | rfl
  · rw [cut_down, Nat.pow_zero, Nat.div_one, Nat.mod_one]
    cases neg <;> rfl
  · rw [cut_rne, rne_zero]
theorem cut_le {way : Ieee.Toward} (hw : way = .down ∨ way = .even) (neg : Bool) (n d : Nat) : way.cut neg n d ≤ n / 2 ^ d + 1 := by
  rcases hw with rfl | rfl
  · rw [cut_down]
    have := Bool.toNat_lt (neg && decide (n % 2 ^ d ≠ 0))
    omega
  · rw [cut_rne]; unfold rne; split <;> omega

/-- A number made whole. -/
def wholeN (way : Ieee.Toward) (s : Bool) (m : Nat) (p : Int) : Nat := way.cut s (m <<< p.toNat) (-p).toNat
theorem wholeN_scale {way : Ieee.Toward} (hw : way = .down ∨ way = .even) (s : Bool) (m j : Nat) (p : Int) : wholeN way s (m * 2 ^ j) (p - j) = wholeN way s m p := by
  unfold wholeN
  rw [Nat.shiftLeft_eq, Nat.shiftLeft_eq]
  rcases Int.lt_or_le (p - j) 0 with h | h
  · rw [show (p - (j : Int)).toNat = 0 by omega, Nat.pow_zero, Nat.mul_one]
    rcases Int.lt_or_le p 0 with g | g
    · rw [show p.toNat = 0 by omega, Nat.pow_zero, Nat.mul_one, show (-(p - (j : Int))).toNat = (-p).toNat + j by omega, cut_scale hw]
    · obtain ⟨q, rfl⟩ := Int.eq_ofNat_of_zero_le g
      have e : m * 2 ^ j = m * 2 ^ q * 2 ^ (j - q) := by rw [Nat.mul_assoc, ← Nat.pow_add, show q + (j - q) = j by omega]
      rw [e, show (-((q : Int) - (j : Int))).toNat = 0 + (j - q) by omega, cut_scale hw, show ((q : Int)).toNat = q by omega, show (-(q : Int)).toNat = 0 by omega]
  · rw [show (-(p - (j : Int))).toNat = 0 by omega, show (-p).toNat = 0 by omega, cut_0 hw, cut_0 hw, Nat.mul_assoc, ← Nat.pow_add, show j + (p - (j : Int)).toNat = p.toNat by omega]
theorem wholeN_zero {way : Ieee.Toward} (hw : way = .down ∨ way = .even) (s : Bool) (p : Int) : wholeN way s 0 p = 0 := by
  unfold wholeN
  rw [Nat.shiftLeft_eq, Nat.zero_mul]
  rcases hw with rfl | rfl
  · rw [cut_down, Nat.zero_div, Nat.zero_mod]; cases s <;> rfl
  · rw [cut_rne]
    have := rne_exact 0 (-p).toNat
    rw [Nat.zero_mul] at this; exact this
/-- A finite sample, wide, made whole. -/
theorem integral_wide {way : Ieee.Toward} (hw : way = .down ∨ way = .even) {a : Nat} (h : rung32 a < 2139095040) :
    (Ieee.double.read (wideN a)).integral way = .number (sgn32 a) (wholeN way (sgn32 a) (mag32 (rung32 a)) (-149 + (plc32 (rung32 a) : Int))) 0 := by
  by_cases z : rung32 a = 0
  · rw [wide_zero z, read_word64, z, show mag32 0 = 0 from by decide, wholeN_zero hw]
    show Ieee.Datum.number (sgn32 a) (wholeN way (sgn32 a) 0 (-1074)) 0 = _
    rw [wholeN_zero hw]
  · obtain ⟨L, hL, m0, m1, e, hp⟩ := wide_wd z h
    have b0 : 4503599627370496 ≤ mag32 (rung32 a) * 2 ^ (52 - L) := by
      have := Nat.mul_le_mul_right (2 ^ (52 - L)) m0
      rw [← Nat.pow_add, show L + (52 - L) = 52 by omega] at this
      exact this
    have b1 : mag32 (rung32 a) * 2 ^ (52 - L) < 9007199254740992 := by
      have := Nat.mul_lt_mul_of_pos_right m1 (Nat.two_pow_pos (52 - L))
      rw [← Nat.pow_add, show L + 1 + (52 - L) = 53 by omega] at this
      exact this
    rw [e, read_wd b0 b1 (by omega) (by omega)]
    show Ieee.Datum.number (sgn32 a) (wholeN way (sgn32 a) (mag32 (rung32 a) * 2 ^ (52 - L)) (-149 + (plc32 (rung32 a) : Int) + L - 52)) 0 = _
    have := wholeN_scale hw (sgn32 a) (mag32 (rung32 a)) (52 - L) (-149 + (plc32 (rung32 a) : Int))
    rw [show -149 + (plc32 (rung32 a) : Int) - ((52 - L : Nat) : Int) = -149 + (plc32 (rung32 a) : Int) + L - 52 by omega] at this
    rw [this]
/-- What a whole number is as a word, and that word as a whole number. -/
theorem whole_word {s : Bool} {N o k : Nat} (hN : N = o * 2 ^ k) (ho : o < 2 ^ 53) (hk : k ≤ 200) :
    Ieee.double.write (.number s N 0) = wordOf s (Ieee.signed s o (k + 1074)) ∧ rung64 (Ieee.double.write (.number s N 0)) < 9218868437227405312 ∧ sgn64 (Ieee.double.write (.number s N 0)) = s ∧
      ∃ E : Nat, E = 1074 ∧ sval64 (Ieee.double.write (.number s N 0)) = Ieee.signed s N E := by
  obtain ⟨E, hE⟩ : ∃ E : Nat, E = 1074 := ⟨_, rfl⟩
  have e1 : Ieee.double.write (.number s N 0) = wordOf s (Ieee.signed s o (k + 1074)) := by
    show Ieee.double.nearest s N 0 = _
    rw [nearest_rung]
    unfold wordOf
    rw [signed_abs, ← hE, Nat.pow_add, ← Nat.mul_assoc, ← hN, rung_scale, show (-1074 : Int) + (E : Int) = 0 by omega]
  obtain ⟨a, b, c⟩ := units_word (s := s) (m := o) (k := k + 1074) ho (by omega)
  rw [e1]
  refine ⟨rfl, a, b, E, hE, ?_⟩
  rw [c, ← hE]
  unfold Ieee.signed
  rw [Nat.shiftLeft_eq, Nat.shiftLeft_eq, hN, Nat.pow_add, ← Nat.mul_assoc]
theorem trunc_whole {x N E : Nat} {s : Bool} (hx : rung64 x < 9218868437227405312) (hs : sgn64 x = s) (hE : E = 1074) (hv : sval64 x = Ieee.signed s N E) : truncV x = Ieee.signed s N 0 := by
  rw [(trunc_fin hx).2, hs]
  have hval : mag64 (rung64 x) * 2 ^ plc64 (rung64 x) = N * 2 ^ E := by
    have := val_abs x
    rw [hv, signed_abs] at this
    exact this.symm
  have key : mag64 (rung64 x) * 2 ^ (-1074 + (plc64 (rung64 x) : Int)).toNat / 2 ^ (-(-1074 + (plc64 (rung64 x) : Int))).toNat = N := by
    rcases Nat.le_total E (plc64 (rung64 x)) with g | g
    · rw [show (-1074 + (plc64 (rung64 x) : Int)).toNat = plc64 (rung64 x) - E by omega, show (-(-1074 + (plc64 (rung64 x) : Int))).toNat = 0 by omega, Nat.pow_zero, Nat.div_one]
      have : mag64 (rung64 x) * 2 ^ (plc64 (rung64 x) - E) * 2 ^ E = N * 2 ^ E := by
        rw [Nat.mul_assoc, ← Nat.pow_add, show plc64 (rung64 x) - E + E = plc64 (rung64 x) by omega]; exact hval
      exact Nat.eq_of_mul_eq_mul_right (Nat.two_pow_pos E) this
    · rw [show (-1074 + (plc64 (rung64 x) : Int)).toNat = 0 by omega, Nat.pow_zero, Nat.mul_one, show (-(-1074 + (plc64 (rung64 x) : Int))).toNat = E - plc64 (rung64 x) by omega]
      have : mag64 (rung64 x) * 2 ^ plc64 (rung64 x) = N * 2 ^ (E - plc64 (rung64 x)) * 2 ^ plc64 (rung64 x) := by
        rw [Nat.mul_assoc N, ← Nat.pow_add, show E - plc64 (rung64 x) + plc64 (rung64 x) = E by omega]; exact hval
      have := Nat.eq_of_mul_eq_mul_right (Nat.two_pow_pos _) this
      rw [this, Nat.mul_div_cancel _ (Nat.two_pow_pos _)]
  rw [key]
theorem in_whole {x N E : Nat} {s : Bool} (hx : rung64 x < 9218868437227405312) (hE : E = 1074) (hv : sval64 x = Ieee.signed s N E) :
    inWhole x = decide (-9223372036854775808 ≤ Ieee.signed s N 0 ∧ Ieee.signed s N 0 < 9223372036854775808) := by
  have hn : nan64 x = false := by rw [nan64_rung]; exact decide_eq_false (by omega)
  have hp : (0 : Int) < 2 ^ E := Int.pow_pos (by decide)
  have e0 : sval64 x = Ieee.signed s N 0 * 2 ^ E := by
    rw [hv, signed_shift]
    unfold Ieee.signed
    rw [Nat.shiftLeft_eq, Nat.shiftLeft_zero, Nat.zero_add]
  have c1 : sval64 4890909195324358656 = 9223372036854775808 * 2 ^ E := by
    unfold sval64 val64
    rw [show sgn64 4890909195324358656 = false from by decide, show rung64 4890909195324358656 = 4890909195324358656 from by decide, show mag64 4890909195324358656 = 4503599627370496 from by decide, show plc64 4890909195324358656 = 11 + E from by rw [hE]; decide, Nat.pow_add]
    simp only [Bool.false_eq_true, if_false]
    rw [← Nat.mul_assoc, show (4503599627370496 * 2 ^ 11 : Nat) = 9223372036854775808 from rfl, Int.natCast_mul, Int.natCast_pow]
    rfl
  have c2 : sval64 14114281232179134464 = -9223372036854775808 * 2 ^ E := by
    unfold sval64 val64
    rw [show sgn64 14114281232179134464 = true from by decide, show rung64 14114281232179134464 = 4890909195324358656 from by decide, show mag64 4890909195324358656 = 4503599627370496 from by decide, show plc64 4890909195324358656 = 11 + E from by rw [hE]; decide, Nat.pow_add]
    simp only [if_true]
    rw [← Nat.mul_assoc, Int.neg_mul, show (4503599627370496 * 2 ^ 11 : Nat) = 9223372036854775808 from rfl, Int.natCast_mul, Int.natCast_pow]
    rfl
  have k1 := sval_srung64 x 4890909195324358656
  have k2 := sval_srung64 x 14114281232179134464
  rw [whole_hi, c1, e0, cmp_scale hp] at k1
  rw [whole_lo, c2, e0, cmp_scale hp] at k2
  have l1 : srung64 x < 4890909195324358656 ↔ Ieee.signed s N 0 < 9223372036854775808 := by rw [← Int.compare_eq_lt, ← Int.compare_eq_lt, k1]
  have l2 : srung64 x < -4890909195324358656 ↔ Ieee.signed s N 0 < -9223372036854775808 := by rw [← Int.compare_eq_lt, ← Int.compare_eq_lt, k2]
  unfold inWhole
  rw [hn, Bool.not_false, Bool.true_and, ← Bool.decide_and, decide_eq_decide]
  omega
/-- What Floor and Nearest tell of a finite sample. -/
theorem flo_fin {way : Ieee.Toward} (hw : way = .down ∨ way = .even) {a : Nat} (h : rung32 a < 2139095040) :
    ∃ V, V = Ieee.signed (sgn32 a) (wholeN way (sgn32 a) (mag32 (rung32 a)) (-149 + (plc32 (rung32 a) : Int))) 0 ∧
      floI way a = (if -9223372036854775808 ≤ V ∧ V < 9223372036854775808 then V else 0) ∧ floE way a = (if -9223372036854775808 ≤ V ∧ V < 9223372036854775808 then 0 else 20) := by
  obtain ⟨N, hN⟩ : ∃ N, N = wholeN way (sgn32 a) (mag32 (rung32 a)) (-149 + (plc32 (rung32 a) : Int)) := ⟨_, rfl⟩
  have hm := mag_lt32 (rung32 a)
  have hp := plc_le32 h
  have hf : ∃ o k, N = o * 2 ^ k ∧ o < 2 ^ 53 ∧ k ≤ 200 := by
    rcases Int.lt_or_le (-149 + (plc32 (rung32 a) : Int)) 0 with g | g
    · refine ⟨N, 0, by rw [Nat.pow_zero, Nat.mul_one], ?_, by omega⟩
      rw [hN]
      unfold wholeN
      have := cut_le hw (sgn32 a) (mag32 (rung32 a) <<< (-149 + (plc32 (rung32 a) : Int)).toNat) (-(-149 + (plc32 (rung32 a) : Int))).toNat
      have k1 : mag32 (rung32 a) <<< (-149 + (plc32 (rung32 a) : Int)).toNat = mag32 (rung32 a) := by
        rw [show (-149 + (plc32 (rung32 a) : Int)).toNat = 0 by omega, Nat.shiftLeft_zero]
      rw [k1] at this ⊢
      have k2 := Nat.div_le_self (mag32 (rung32 a)) (2 ^ (-(-149 + (plc32 (rung32 a) : Int))).toNat)
      omega
    · refine ⟨mag32 (rung32 a), (-149 + (plc32 (rung32 a) : Int)).toNat, ?_, by omega, by omega⟩
      rw [hN]
      unfold wholeN
      rw [show (-(-149 + (plc32 (rung32 a) : Int))).toNat = 0 by omega, cut_0 hw, Nat.shiftLeft_eq]
  obtain ⟨o, k, e1, e2, e3⟩ := hf
  obtain ⟨w1, w2, w3, E, w4, w5⟩ := whole_word (s := sgn32 a) e1 e2 e3
  have hfl : flD way (wideN a) = Ieee.double.write (.number (sgn32 a) N 0) := by
    unfold flD; rw [integral_wide hw h, hN]
  have hnn := fin_num h
  refine ⟨_, rfl, ?_, ?_⟩
  · unfold floI wholeI
    rw [hnn, if_neg (by decide), hfl, in_whole w2 w4 w5, trunc_whole w2 w3 w4 w5, ← hN]
    simp only [decide_eq_true_eq]
  · unfold floE wholeE
    rw [hnn, if_neg (by decide), hfl, in_whole w2 w4 w5, ← hN]
    simp only [decide_eq_true_eq]
theorem flo_inf {way : Ieee.Toward} {a : Nat} (h : rung32 a = 2139095040) : floI way a = 0 ∧ floE way a = 20 := by
  have e : flD way (wideN a) = Ieee.double.word (sgn32 a) 9218868437227405312 := by
    unfold flD
    rw [wide_read_inf h]
    show Ieee.double.write (.infinity (sgn32 a)) = _
    rw [write_inf]
  have hi : inWhole (Ieee.double.word (sgn32 a) 9218868437227405312) = false := by
    cases sgn32 a <;> decide
  unfold floI floE wholeI wholeE
  rw [inf_num h, e, hi]
  exact ⟨rfl, rfl⟩
theorem flo_nan {way : Ieee.Toward} {a : Nat} (h : nanN a = true) : floI way a = 0 ∧ floE way a = 20 := by
  unfold floI floE; rw [h]; exact ⟨rfl, rfl⟩
end Go.Proofs.Ytdempklpmggdoaa
/- What the reference's Wide and Narrow return. -/
namespace Go.Proofs.Ytdempklpmggdoaa
open Go.RowKit

theorem numOf_fitsD (a : Nat) : fitsD (numOf Ieee.single a) := by
  rw [numOf_datum]
  cases h : nanN a
  · rcases cases32 h with g | g
    · rw [read_fin32 g]
      have := mag_lt32 (rung32 a)
      have hp := plc_le32 g
      exact ⟨by have := blen_le (n := mag32 (rung32 a)) (k := 24) this; omega, by omega, by omega, fun h => by cases h⟩
    · rw [read_inf32 g]; exact trivial
  · obtain ⟨s, t, e⟩ := isNaN_cases (read32_nan h)
    rw [e]; exact trivial
theorem roundD_fin (s : Bool) (n : Nat) (e : Int) : roundD (.fin s n e false) = Ieee.double.nearest s n e := by
  show Ieee.double.word s (rungOf Ieee.double (2 * n + 0) (e - 1)) = _
  rw [nearest_rung, Nat.add_zero]
  have := rung_scale Ieee.double n 1 (e - 1)
  rw [Nat.pow_one, Nat.mul_comm n 2] at this
  rw [this, show e - 1 + ((1 : Nat) : Int) = e by omega]
theorem wide_told (a : Nat) : roundD (numOf Ieee.single a) = wideW a := by
  rw [numOf_datum]
  unfold wideW wideN
  cases h : nanN a
  · rw [if_neg (by decide)]
    rcases cases32 h with g | g
    · rw [read_fin32 g]; exact roundD_fin _ _ _
    · rw [read_inf32 g]
      show Ieee.double.word _ 9218868437227405312 = Ieee.double.word _ Ieee.double.infRung
      rw [inf64]
  · obtain ⟨s, t, e⟩ := isNaN_cases (read32_nan h)
    rw [e, if_pos rfl]; rfl
theorem numOf_fits64 (x : Nat) : fits (numOf Ieee.double x) := by
  rw [numOf_datum]
  cases h : nan64 x
  · rw [nan64_rung] at h
    have h := of_decide_eq_false h
    rcases Nat.lt_or_ge (rung64 x) 9218868437227405312 with g | g
    · rw [read_fin64 g]
      have := mag_lt64 (rung64 x)
      have hp : plc64 (rung64 x) ≤ 2046 := by unfold plc64; omega
      exact ⟨by have := blen_le (n := mag64 (rung64 x)) (k := 53) this; omega, by omega, by omega, fun h => by cases h⟩
    · rw [read_inf64 (by omega)]; exact trivial
  · obtain ⟨s, t, e⟩ := isNaN_cases (read64_nan h)
    rw [e]; exact trivial
theorem narrow_told (x : Nat) : roundR (numOf Ieee.double x) = toldD (some (Ieee.double.read x)) := by
  rw [numOf_datum]
  cases h : Ieee.double.read x with
  | nan s t => rfl
  | infinity s =>
    show Ieee.single.word s 2139095040 = Ieee.single.word s Ieee.single.infRung
    rw [inf32]
  | number s m p => exact roundR_fin s m p

end Go.Proofs.Ytdempklpmggdoaa
/- Words of binary64 as numbers of the document: sums. -/
namespace Go.Proofs.Ytdempklpmggdoaa
open Go.RowKit
set_option linter.unusedVariables false

theorem told64_eq (o : Option Ieee.Datum) : told64 o = toldW o := by
  cases o with
  | none => rfl
  | some d => cases d <;> rfl
/-- Numbers of binary64. -/
def dblR : RNum → Prop
  | ⟨some (.inr (_, n, e, m))⟩ => n < 9007199254740992 ∧ -1074 ≤ e ∧ e ≤ 1000 ∧ m = false
  | _ => True
theorem dblR_of (a : Nat) : dblR (numOf Ieee.double a) := by
  rw [numOf_datum]
  rcases Nat.lt_trichotomy (rung64 a) 9218868437227405312 with h | h | h
  · rw [read_fin64 h]
    have hp : plc64 (rung64 a) ≤ 2045 := by unfold plc64; omega
    exact ⟨mag_lt64 _, by omega, by omega, rfl⟩
  · rw [read_inf64 h]; exact trivial
  · rw [read_nan64 h]; exact trivial
theorem dblR_small {x : RNum} (h : dblR x) : small x := by
  cases x using RNum.rec3 with
  | nan => exact trivial
  | inf s => exact trivial
  | fin s n e m =>
    obtain ⟨h1, h2, h3, h4⟩ := h
    exact ⟨Nat.le_trans (blen_le (k := 53) h1) (by decide), by omega, by omega⟩
theorem dbl_fits {x y : RNum} (hx : dblR x) (hy : dblR y) : fitsD (plusR x y) := by
  cases x using RNum.rec3 with
  | nan => exact trivial
  | inf s =>
    cases y using RNum.rec3 with
    | nan => exact trivial
    | inf t => show fitsD (if s = t then .inf s else .nan); split <;> exact trivial
    | fin t k f g => exact trivial
  | fin s n e m =>
    cases y using RNum.rec3 with
    | nan => exact trivial
    | inf t => exact trivial
    | fin t k f g =>
      obtain ⟨a1, a2, a3, rfl⟩ := hx
      obtain ⟨b1, b2, b3, rfl⟩ := hy
      have hX : n * 2 ^ (e - min e f).toNat < 2 ^ 2500 := shifted_lt (k := 2500) n _ (by have := blen_le (k := 53) a1; omega)
      have hY : k * 2 ^ (f - min e f).toNat < 2 ^ 2500 := shifted_lt (k := 2500) k _ (by have := blen_le (k := 53) b1; omega)
      show fitsD (plusFin s t (n * 2 ^ (e - min e f).toNat) (k * 2 ^ (f - min e f).toNat) (min e f))
      obtain ⟨j, hj⟩ : ∃ j : Nat, j = 2500 := ⟨_, rfl⟩
      rw [← hj] at hX hY
      generalize n * 2 ^ (e - min e f).toNat = X at hX
      generalize k * 2 ^ (f - min e f).toNat = Y at hY
      have key : ∀ (σ : Bool) (Z : Nat), Z < 2 ^ (j + 1) → fitsD (.fin σ Z (min e f) false) := fun σ Z hZ => ⟨Nat.le_trans (blen_le hZ) (by omega), by omega, by omega, fun h => by cases h⟩
      have e2 : 2 ^ (j + 1) = 2 * 2 ^ j := by rw [Nat.pow_succ, Nat.mul_comm]
      unfold plusFin
      rw [e2] at key
      generalize 2 ^ j = G at *
      split
      · exact key _ _ (by omega)
      · split
        · exact key _ _ (by omega)
        · split
          · exact key _ _ (by omega)
          · exact key _ _ (by omega)
theorem add64_told (a b : Nat) : roundD (plusR (numOf Ieee.double a) (numOf Ieee.double b)) = add64V a b := by
  rw [numOf_datum, numOf_datum, sum_opt, roundD_opt]
  exact (told64_eq _).symm
theorem add64V_lt (a b : Nat) : add64V a b < 18446744073709551616 := by
  unfold add64V
  cases h : (Ieee.double.read a).sum (Ieee.double.read b) with
  | none => decide
  | some d =>
    cases d with
    | nan s t => show 9221120237041090560 < _; decide
    | infinity s => rw [told64_some rfl]; exact write64_lt _
    | number s m p => rw [told64_some rfl]; exact write64_lt _
end Go.Proofs.Ytdempklpmggdoaa
/- Plain facts: a number rounded to binary32, as a signed rung. -/
namespace Go.Proofs.Ytdempklpmggdoaa
open Go.RowKit
set_option linter.unusedVariables false
set_option linter.unusedSimpArgs false

/-- A number in units of 2^-1074, rounded to binary32: the signed rung. -/
def RS (Z : Int) : Int := if Z < 0 then -(rungOf Ieee.single Z.natAbs (-1074) : Int) else (rungOf Ieee.single Z.natAbs (-1074) : Int)
theorem RS_mono {Y Z : Int} (h : Y ≤ Z) : RS Y ≤ RS Z := by
  unfold RS
  by_cases hy : Y < 0
  · rw [if_pos hy]
    by_cases hz : Z < 0
    · rw [if_pos hz]
      have := rung_mono Ieee.single (-1074) (show Z.natAbs ≤ Y.natAbs by omega)
      omega
    · rw [if_neg hz]; omega
  · rw [if_neg hy, if_neg (by omega)]
    have := rung_mono Ieee.single (-1074) (show Y.natAbs ≤ Z.natAbs by omega)
    omega
theorem srung_told {σ : Bool} {Z : Int} {N : Nat} {b : Int} (hσ : Z ≠ 0 → σ = decide (Z < 0)) (hN : rungOf Ieee.single N b = rungOf Ieee.single Z.natAbs (-1074)) : srung32 (toldD (some (.number σ N b))) = RS Z ∧ nanN (toldD (some (.number σ N b))) = false := by
  rw [toldD_num, hN]
  have hle : rungOf Ieee.single Z.natAbs (-1074) ≤ 2139095040 := by have := rungOf_le Ieee.single Z.natAbs (-1074); rw [inf32] at this; exact this
  obtain ⟨a, b'⟩ := sgn_word32 σ (r := rungOf Ieee.single Z.natAbs (-1074)) (by omega)
  refine ⟨?_, nanN_word hle⟩
  unfold srung32 RS
  rw [a, b']
  by_cases h : Z = 0
  · subst h
    rw [show (0 : Int).natAbs = 0 from rfl, rungOf_zero]
    cases σ <;> rfl
  · rw [hσ h]
    by_cases k : Z < 0
    · rw [decide_eq_true k, if_pos rfl, if_pos k]
    · rw [decide_eq_false k, if_neg (by decide), if_neg k]
theorem samp_eq (a : Nat) {c : Nat} (hc : c = 925) : sampleZ a = sval32 a * 2 ^ c := by
  unfold sampleZ sval32 val32 Ieee.signed
  rw [← hc, Nat.shiftLeft_eq, Nat.pow_add, ← Nat.mul_assoc]
  split
  · rw [Int.neg_mul, Int.natCast_mul, Int.natCast_pow]; rfl
  · rw [Int.natCast_mul, Int.natCast_pow]; rfl
theorem sval_le {a b : Nat} (h : srung32 a ≤ srung32 b) : sval32 a ≤ sval32 b := by
  have e := sval_srung32 a b
  rcases Int.lt_or_le (sval32 b) (sval32 a) with g | g
  · rw [Int.compare_eq_gt.2 g] at e
    have := Int.compare_eq_gt.1 e.symm
    omega
  · exact g
theorem sval_eq {a b : Nat} (h : sval32 a = sval32 b) : srung32 a = srung32 b := by
  have e := sval_srung32 a b
  rw [Int.compare_eq_eq.2 h] at e
  exact Int.compare_eq_eq.1 e.symm
theorem samp_le {a b : Nat} (h : srung32 a ≤ srung32 b) : sampleZ a ≤ sampleZ b := by
  obtain ⟨c, hc⟩ : ∃ c : Nat, c = 925 := ⟨_, rfl⟩
  rw [samp_eq a hc, samp_eq b hc]
  exact Int.mul_le_mul_of_nonneg_right (sval_le h) (Int.le_of_lt (Int.pow_pos (by decide)))
theorem srung_bd {x : Nat} (h : nanN x = false) : -2139095040 ≤ srung32 x ∧ srung32 x ≤ 2139095040 := by
  rw [nanN_rung] at h
  have h := of_decide_eq_false h
  unfold srung32
  split <;> omega
theorem fin_srung {x : Nat} (h : rung32 x < 2139095040) : -2139095040 < srung32 x ∧ srung32 x < 2139095040 := by
  unfold srung32; split <;> omega
theorem RS_self {a : Nat} (h : rung32 a < 2139095040) : RS (sampleZ a) = srung32 a := by
  have habs : (sampleZ a).natAbs = mag32 (rung32 a) * 2 ^ (plc32 (rung32 a) + 925) := by unfold sampleZ; rw [signed_abs]
  have hr : rungOf Ieee.single (sampleZ a).natAbs (-1074) = rung32 a := by
    rw [habs, rung_scale, show (-1074 + ((plc32 (rung32 a) + 925 : Nat) : Int)) = -149 + (plc32 (rung32 a) : Int) by omega]
    exact self32 h
  unfold RS srung32
  rw [hr]
  by_cases z : sampleZ a = 0
  · have : rung32 a = 0 := by rw [← hr, z]; exact rungOf_zero _ _
    rw [this]; split <;> split <;> rfl
  · have hs : sgn32 a = decide (sampleZ a < 0) := signed_sign z
    rw [hs]
    by_cases k : sampleZ a < 0
    · rw [if_pos k, if_pos (decide_eq_true k)]
    · rw [if_neg k, if_neg (by simp; omega)]
end Go.Proofs.Ytdempklpmggdoaa
/- Plain facts: roots with one bit that tells what is left; rounding a root twice; the model's root. -/
namespace Go.Proofs.Ytdempklpmggdoaa
open Go.RowKit

/-- The whole root. -/
structure IsRoot (n r : Nat) : Prop where
  lo : r * r ≤ n
  hi : n < (r + 1) * (r + 1)
theorem root_unique {n r s : Nat} (h : IsRoot n r) (g : IsRoot n s) : r = s := by
  rcases Nat.lt_trichotomy r s with k | k | k
  · have := Nat.mul_le_mul (show r + 1 ≤ s from k) (show r + 1 ≤ s from k)
    have := h.hi; have := g.lo; omega
  · exact k
  · have := Nat.mul_le_mul (show s + 1 ≤ r from k) (show s + 1 ≤ r from k)
    have := g.hi; have := h.lo; omega
/-- The root's digits, and one more that tells of a rest. -/
def srV (n r : Nat) : Nat := 2 * r + if r * r = n then 0 else 1
theorem sq_pow (q k : Nat) : q * 2 ^ k * (q * 2 ^ k) = q * q * 4 ^ k := by
  rw [Nat.mul_mul_mul_comm, ← Nat.mul_pow]
theorem root_cut {n R k : Nat} (h : IsRoot (n * 4 ^ k) R) : IsRoot n (R / 2 ^ k) := by
  have hk := Nat.two_pow_pos k
  have h4 : 0 < 4 ^ k := Nat.pow_pos (by decide)
  have d := Nat.div_add_mod R (2 ^ k)
  have m := Nat.mod_lt R hk
  have e1 : R / 2 ^ k * 2 ^ k ≤ R := by rw [Nat.mul_comm]; omega
  have e2 : R + 1 ≤ (R / 2 ^ k + 1) * 2 ^ k := by rw [Nat.add_mul, Nat.one_mul, Nat.mul_comm]; omega
  constructor
  · have := Nat.mul_le_mul e1 e1
    rw [sq_pow] at this
    exact Nat.le_of_mul_le_mul_right (Nat.le_trans this h.lo) h4
  · have := Nat.mul_le_mul e2 e2
    rw [sq_pow] at this
    exact Nat.lt_of_mul_lt_mul_right (Nat.lt_of_lt_of_le h.hi this)
theorem sr_stick {n R k : Nat} (h : IsRoot (n * 4 ^ k) R) : stick (srV (n * 4 ^ k) R) (k + 1) = srV n (R / 2 ^ k) := by
  have hk := Nat.two_pow_pos k
  have h4 : 0 < 4 ^ k := Nat.pow_pos (by decide)
  have hc := root_cut h
  have d := Nat.div_add_mod R (2 ^ k)
  have m := Nat.mod_lt R hk
  have flag : R / 2 ^ k * (R / 2 ^ k) = n ↔ R % 2 ^ k = 0 ∧ R * R = n * 4 ^ k := by
    constructor
    · intro e
      have e1 : IsRoot (n * 4 ^ k) (R / 2 ^ k * 2 ^ k) := by
        have e2 : R / 2 ^ k * 2 ^ k * (R / 2 ^ k * 2 ^ k) = n * 4 ^ k := by rw [sq_pow, e]
        refine ⟨by omega, ?_⟩
        rw [← e2]
        have : (R / 2 ^ k * 2 ^ k) * (R / 2 ^ k * 2 ^ k) < (R / 2 ^ k * 2 ^ k + 1) * (R / 2 ^ k * 2 ^ k + 1) := Nat.mul_lt_mul_of_lt_of_le (by omega) (by omega) (by omega)
        exact this
      have e3 := root_unique h e1
      refine ⟨by rw [Nat.mul_comm] at e3; omega, ?_⟩
      rw [e3, sq_pow, e]
    · rintro ⟨e1, e2⟩
      have e3 : R = R / 2 ^ k * 2 ^ k := by rw [Nat.mul_comm]; omega
      rw [e3, sq_pow] at e2
      exact Nat.eq_of_mul_eq_mul_right h4 e2
  have ep : 2 ^ (k + 1) = 2 * 2 ^ k := by rw [Nat.pow_succ]; omega
  unfold stick srV
  obtain ⟨b, hb⟩ : ∃ b, b = if R * R = n * 4 ^ k then 0 else 1 := ⟨_, rfl⟩
  have hb2 : b < 2 := by rw [hb]; split <;> omega
  have hbR : b = 0 ↔ R * R = n * 4 ^ k := by rw [hb]; split <;> omega
  rw [← hb]
  have f1 : (2 * R + b) / 2 ^ (k + 1) = R / 2 ^ k := by
    rw [ep, ← Nat.div_div_eq_div_mul, show (2 * R + b) / 2 = R by omega]
  have f2 : (2 * R + b) % 2 ^ (k + 1) = 2 * (R % 2 ^ k) + b := by
    have g := Nat.div_add_mod (2 * R + b) (2 ^ (k + 1))
    rw [f1, ep] at g
    rw [ep]
    have g2 : 2 * 2 ^ k * (R / 2 ^ k) = 2 * (2 ^ k * (R / 2 ^ k)) := Nat.mul_assoc _ _ _
    omega
  rw [f1, f2]
  by_cases e : R / 2 ^ k * (R / 2 ^ k) = n
  · obtain ⟨a1, a2⟩ := flag.1 e
    rw [if_pos e, if_pos (by have := hbR.2 a2; omega)]
  · rw [if_neg e, if_neg]
    intro h'
    exact e (flag.2 ⟨by omega, hbR.1 (by omega)⟩)
theorem sr_link (f : Ieee.Format) {n R k : Nat} (x : Int) (h : IsRoot (n * 4 ^ k) R) (hq : 2 ^ (f.fractionBits + 1) ≤ R / 2 ^ k) :
    rungOf f (srV (n * 4 ^ k) R) (x - k - 1) = rungOf f (srV n (R / 2 ^ k)) (x - 1) := by
  have h1 : 2 ^ (f.fractionBits + 1 + k) ≤ R := by
    rw [Nat.pow_add]
    exact (Nat.le_div_iff_mul_le (Nat.two_pow_pos k)).1 hq
  have h2 : 2 ^ (f.fractionBits + 2 + k) ≤ srV (n * 4 ^ k) R := by
    unfold srV
    rw [show f.fractionBits + 2 + k = f.fractionBits + 1 + k + 1 by omega, Nat.pow_succ]
    omega
  have hM : srV (n * 4 ^ k) R ≠ 0 := by have := Nat.two_pow_pos (f.fractionBits + 2 + k); omega
  have hlog : f.fractionBits + 2 + k ≤ (srV (n * 4 ^ k) R).log2 := (Nat.le_log2 hM).2 h2
  have := rung_stick f (M := srV (n * 4 ^ k) R) (k := k + 1) (x - k - 1) (by omega) hM (by unfold lastOf; omega)
  rw [sr_stick h] at this
  rw [← this]
  congr 1; omega

/-- The model's search. -/
theorem rootFrom_to (n : Nat) : ∀ (todo r : Nat), r * r ≤ n → n < (r + 2 ^ todo) * (r + 2 ^ todo) → IsRoot n (Ieee.Datum.rootFrom n todo r) := by
  intro todo
  induction todo with
  | zero =>
    intro r h1 h2
    exact ⟨h1, h2⟩
  | succ t ih =>
    intro r h1 h2
    unfold Ieee.Datum.rootFrom
    dsimp only
    rw [Nat.shiftLeft_eq, Nat.one_mul]
    by_cases g : (r + 2 ^ t) * (r + 2 ^ t) ≤ n
    · rw [if_pos g]
      refine ih _ g ?_
      rw [Nat.pow_succ] at h2
      rw [show r + 2 ^ t + 2 ^ t = r + 2 ^ t * 2 by omega]; exact h2
    · rw [if_neg g]
      exact ih _ h1 (by omega)
theorem root_whole (n : Nat) : IsRoot n (Ieee.Datum.rootFrom n (n.log2 / 2 + 1) 0) := by
  refine rootFrom_to n _ 0 (Nat.zero_le _) ?_
  have h2 : n < 2 ^ (n.log2 + 1) := Nat.lt_log2_self
  rw [Nat.zero_add, ← Nat.pow_add]
  exact Nat.lt_of_lt_of_le h2 (Nat.pow_le_pow_right (by decide) (by omega))

/-- Rounding a root twice doesn't show. -/
theorem twice {S n' r : Nat} (hr : IsRoot n' r) (hS : S = srV n' r) (h0 : 2 ^ 54 ≤ r) (h1 : r < 2 ^ 55) (hd : 2 ^ 61 ∣ n') : rne (rne S 3 * 8) 32 = rne S 32 := by
  obtain ⟨n1, n2⟩ := rne_near S 3
  obtain ⟨c, hc⟩ : ∃ c, c = rne S 3 := ⟨_, rfl⟩
  rw [← hc] at n1 n2 ⊢
  have e8 : (2 : Nat) ^ 3 = 8 := rfl
  rw [e8] at n1 n2
  have hS2 : S = 2 * r ∨ S = 2 * r + 1 := by rw [hS]; unfold srV; split <;> omega
  have hno : c * 8 % 4294967296 ≠ 2147483648 := by
    intro hm
    obtain ⟨q, hq⟩ : ∃ q, c * 8 = (2 * q + 1) * 2147483648 := ⟨c * 8 / 4294967296, by omega⟩
    obtain ⟨v, hv⟩ := hd
    have hC : c * 8 ≤ 2 ^ 57 := by omega
    -- 4 n' lies about the square of it
    obtain ⟨C, hCe⟩ : ∃ C, C = c * 8 := ⟨_, rfl⟩
    rw [← hCe] at hq hC n1 n2
    have a1 : C ≤ 2 * r + 5 := by omega
    have a2 : 2 * r + 2 ≤ C + 6 := by omega
    have b1 := hr.lo
    have b2 := hr.hi
    have s1 : C * C ≤ (2 * r + 5) * (2 * r + 5) := Nat.mul_le_mul a1 a1
    have s2 : (2 * r + 2) * (2 * r + 2) ≤ (C + 6) * (C + 6) := Nat.mul_le_mul a2 a2
    have t1 : (2 * r + 5) * (2 * r + 5) = 4 * (r * r) + 20 * r + 25 := by
      simp only [Nat.add_mul, Nat.mul_add, Nat.mul_assoc, Nat.mul_left_comm r 2]
      omega
    have t2 : (2 * r + 2) * (2 * r + 2) = 4 * ((r + 1) * (r + 1)) := by
      rw [show 2 * r + 2 = 2 * (r + 1) by omega, Nat.mul_mul_mul_comm]
    have t3 : (C + 6) * (C + 6) = C * C + 12 * C + 36 := by
      simp only [Nat.add_mul, Nat.mul_add]
      omega
    have t4 : C * C = (2 * q + 1) * (2 * q + 1) * 4611686018427387904 := by
      rw [hq, Nat.mul_mul_mul_comm]
    have t5 : (2 * q + 1) * (2 * q + 1) = 2 * (2 * (q * q) + 2 * q) + 1 := by
      simp only [Nat.add_mul, Nat.mul_add, Nat.mul_assoc, Nat.mul_left_comm q 2]
      omega
    rw [t5] at t4
    have e61 : (2 : Nat) ^ 61 = 2305843009213693952 := by decide
    rw [e61] at hv
    generalize q * q = qq at t4
    generalize C * C = CC at *
    generalize r * r = rr at *
    generalize (r + 1) * (r + 1) = rp at *
    omega
  have h32 : (2 : Nat) ^ 32 = 4294967296 := by decide
  have g1 : rne (c * 8) 32 = c * 8 / 4294967296 ∧ c * 8 % 4294967296 < 2147483648 ∨ rne (c * 8) 32 = c * 8 / 4294967296 + 1 ∧ 2147483648 < c * 8 % 4294967296 := by
    unfold rne
    by_cases g : goesUp (c * 8) 32
    · rw [if_pos g, h32]
      unfold goesUp at g
      rw [h32] at g
      right; exact ⟨rfl, by omega⟩
    · rw [if_neg g, h32]
      unfold goesUp at g
      rw [h32] at g
      left; exact ⟨rfl, by omega⟩
  have g2 : rne S 32 = S / 4294967296 ∧ S % 4294967296 ≤ 2147483648 ∨ rne S 32 = S / 4294967296 + 1 ∧ 2147483648 ≤ S % 4294967296 := by
    unfold rne
    by_cases g : goesUp S 32
    · rw [if_pos g, h32]
      unfold goesUp at g
      rw [h32] at g
      right; exact ⟨rfl, by omega⟩
    · rw [if_neg g, h32]
      unfold goesUp at g
      rw [h32] at g
      left; exact ⟨rfl, by omega⟩
  generalize rne (c * 8) 32 = x at g1 ⊢
  generalize rne S 32 = y at g2 ⊢
  have hc8 : c * 8 % 8 = 0 := Nat.mul_mod_left _ _
  generalize c * 8 = C at *
  omega
end Go.Proofs.Ytdempklpmggdoaa
/- Plain facts: what the program's Sqrt tells of a number above 0: its root, rounded once; the odd cases. -/
namespace Go.Proofs.Ytdempklpmggdoaa
open Go.RowKit

/-- The root of a number of the form m * 2^p. -/
theorem sqrtV_fin {a : Nat} (h0 : rung32 a ≠ 0) (h : rung32 a < 2139095040) (hs : sgn32 a = false) :
    ∃ n' r A : Nat, IsRoot n' r ∧ 2 ^ 54 ≤ r ∧ r < 2 ^ 55 ∧ n' = mag32 (rung32 a) * 2 ^ A ∧ (-149 + (plc32 (rung32 a) : Int) - A) % 2 = 0 ∧ 85 ≤ A ∧ A ≤ 109 ∧
      sqrtV a = Ieee.single.word false (rungOf Ieee.single (srV n' r) ((-149 + (plc32 (rung32 a) : Int) - A) / 2 - 1)) := by
  have hn : nanN a = false := fin_num h
  obtain ⟨L, hL, m0, m1, e, hp⟩ := wide_wd h0 h
  have b0 : 4503599627370496 ≤ mag32 (rung32 a) * 2 ^ (52 - L) := by
    have := Nat.mul_le_mul_right (2 ^ (52 - L)) m0
    rw [← Nat.pow_add, show L + (52 - L) = 52 by omega] at this
    exact this
  have b1 : mag32 (rung32 a) * 2 ^ (52 - L) < 9007199254740992 := by
    have := Nat.mul_lt_mul_of_pos_right m1 (Nat.two_pow_pos (52 - L))
    rw [← Nat.pow_add, show L + 1 + (52 - L) = 53 by omega] at this
    exact this
  obtain ⟨M, hM⟩ : ∃ M, M = mag32 (rung32 a) * 2 ^ (52 - L) := ⟨_, rfl⟩
  obtain ⟨P, hP⟩ : ∃ P : Int, P = -149 + (plc32 (rung32 a) : Int) + L - 52 := ⟨_, rfl⟩
  rw [← hM] at b0 b1 e
  rw [← hP, hs] at e
  have hlog : M.log2 = 52 := by
    have hne : M ≠ 0 := by omega
    exact (Nat.log2_eq_iff hne).2 ⟨b0, b1⟩
  obtain ⟨more, hmore⟩ : ∃ more : Nat, more = 56 + ((P - ((56 : Nat) : Int)) % 2).toNat := ⟨_, rfl⟩
  have hm2 : more = 56 ∨ more = 57 := by omega
  have hev : (P - more) % 2 = 0 := by omega
  obtain ⟨r, hr⟩ : ∃ r, r = Ieee.Datum.rootFrom (M * 2 ^ more) ((M * 2 ^ more).log2 / 2 + 1) 0 := ⟨_, rfl⟩
  have hroot : IsRoot (M * 2 ^ more) r := by rw [hr]; exact root_whole _
  have lo : 2 ^ 108 ≤ M * 2 ^ more := by
    rcases hm2 with g | g
    · rw [g]; have := Nat.mul_le_mul_right (2 ^ 56) b0; exact this
    · rw [g]; have := Nat.mul_le_mul_right (2 ^ 57) b0; exact Nat.le_trans (by decide) this
  have up : M * 2 ^ more < 2 ^ 110 := by
    rcases hm2 with g | g
    · rw [g]; have := Nat.mul_lt_mul_of_pos_right b1 (Nat.two_pow_pos 56); exact Nat.lt_of_lt_of_le this (by decide)
    · rw [g]; have := Nat.mul_lt_mul_of_pos_right b1 (Nat.two_pow_pos 57); exact this
  have r0 : 2 ^ 54 ≤ r := by
    rcases Nat.lt_or_ge r (2 ^ 54) with g | g
    · have k1 := hroot.hi
      have k2 : (r + 1) * (r + 1) ≤ 2 ^ 54 * 2 ^ 54 := Nat.mul_le_mul g g
      rw [← Nat.pow_add] at k2
      omega
    · exact g
  have r1 : r < 2 ^ 55 := by
    rcases Nat.lt_or_ge r (2 ^ 55) with g | g
    · exact g
    · have k1 := hroot.lo
      have k2 : 2 ^ 55 * 2 ^ 55 ≤ r * r := Nat.mul_le_mul g g
      rw [← Nat.pow_add] at k2
      omega
  obtain ⟨S, hS⟩ : ∃ S, S = srV (M * 2 ^ more) r := ⟨_, rfl⟩
  have hSlog : S.log2 = 55 := by
    have : S = 2 * r ∨ S = 2 * r + 1 := by rw [hS]; unfold srV; split <;> omega
    exact (Nat.log2_eq_iff (by omega)).2 ⟨by omega, by omega⟩
  have hS0 : S ≠ 0 := by intro h0; rw [h0] at hSlog; exact absurd hSlog (by decide)
  obtain ⟨pl, hpl⟩ : ∃ pl : Int, pl = (P - more) / 2 - 1 := ⟨_, rfl⟩
  have hroot2 : Ieee.double.sqrt (wideN a) = some (Ieee.double.nearest false S pl) := by
    unfold Ieee.Format.sqrt
    rw [e, read_wd b0 b1 (by omega) (by omega)]
    have hd : (Ieee.Datum.number false M P).root (Ieee.double.fractionBits + 2) = some (.number false S pl) := by
      have hM0 : ¬ M = 0 := by omega
      have q1 : 2 * (Ieee.double.fractionBits + 2) - M.log2 = 56 := by rw [hlog]; decide
      simp only [Ieee.Datum.root, hM0, q1, if_false, Bool.false_eq_true]
      rw [hS, hpl, ← hmore, Nat.shiftLeft_eq, ← hr]
      unfold srV
      congr 2
      congr 1
      by_cases k : r * r = M * 2 ^ more
      · rw [if_pos k, k]; simp
      · rw [if_neg k, bne_iff_ne.2 k]; rfl
    rw [hd]; rfl
  have hval : sqrtV a = Ieee.single.word false (rungOf Ieee.single S pl) := by
    unfold sqrtV
    rw [hn, hroot2]
    show toldD (some (Ieee.double.read (Ieee.double.nearest false S pl))) = _
    have hlast : lastOf Ieee.double S pl = pl + 3 := by unfold lastOf; rw [least64, frac64, hSlog]; omega
    have hkept := kept_le Ieee.double S pl
    rw [hlast, binade64, show pl - (pl + 3) = -((3 : Nat) : Int) by omega, rz_neg] at hkept
    have hkept2 := le_kept Ieee.double hS0 pl (by rw [hlast, frac64, hSlog]; omega)
    rw [hlast, binade64, show pl - (pl + 3) = -((3 : Nat) : Int) by omega, rz_neg] at hkept2
    obtain ⟨c, hc⟩ : ∃ c, c = rne S 3 := ⟨_, rfl⟩
    rw [← hc] at hkept hkept2
    have hr64 : rungOf Ieee.double S pl = (pl + 3 + 1074).toNat * 4503599627370496 + c := by
      unfold rungOf
      rw [if_neg hS0, hlast, least64, binade64, inf64, show pl - (pl + 3) = -((3 : Nat) : Int) by omega, rz_neg, ← hc, show pl + 3 - -1074 = pl + 3 + 1074 by omega]
      rw [Nat.min_eq_left (by omega)]
    rw [nearest_rung, hr64]
    obtain ⟨a1, a2⟩ := sgn_word64 false (r := (pl + 3 + 1074).toNat * 4503599627370496 + c) (by omega)
    rw [read_fin64 (by rw [a2]; omega), a1, a2, toldD_num, rung_word64, val_of (by omega) (fun _ => by omega), rung_scale, show -1074 + (((pl + 3 + 1074).toNat : Nat) : Int) = pl + (3 : Nat) by omega, ← rung_scale]
    refine congrArg (Ieee.single.word false) ?_
    show rungOf Ieee.single (c * 8) pl = _
    have htw := twice hroot hS r0 r1 (Nat.dvd_trans (show 2 ^ 61 ∣ 2 ^ (52 - L + more) from Nat.pow_dvd_pow 2 (by omega)) ⟨mag32 (rung32 a), by rw [hM, Nat.mul_assoc, ← Nat.pow_add, Nat.mul_comm]⟩)
    rw [← hc] at htw
    have hl32 : lastOf Ieee.single S pl = pl + 32 := by unfold lastOf; rw [least32, show (Ieee.single.fractionBits : Int) = 23 from rfl, hSlog]; omega
    have hright : rungOf Ieee.single S pl = min ((pl + 32 + 149).toNat * 8388608 + rne S 32) 2139095040 := by
      unfold rungOf
      rw [if_neg hS0, hl32, least32, binade32, inf32, show pl - (pl + 32) = -((32 : Nat) : Int) by omega, rz_neg, show pl + 32 - -149 = pl + 32 + 149 by omega]
    rw [hright, ← htw]
    have hc0 : c * 8 ≠ 0 := by omega
    rcases Nat.lt_or_ge c 9007199254740992 with g | g
    · have hcl : (c * 8).log2 = 55 := (Nat.log2_eq_iff hc0).2 ⟨by omega, by omega⟩
      have hl : lastOf Ieee.single (c * 8) pl = pl + 32 := by unfold lastOf; rw [least32, show (Ieee.single.fractionBits : Int) = 23 from rfl, hcl]; omega
      unfold rungOf
      rw [if_neg hc0, hl, least32, binade32, inf32, show pl - (pl + 32) = -((32 : Nat) : Int) by omega, rz_neg, show pl + 32 - -149 = pl + 32 + 149 by omega]
    · have hc1 : c = 9007199254740992 := by omega
      have hcl : (c * 8).log2 = 56 := by rw [hc1]; decide
      have hl : lastOf Ieee.single (c * 8) pl = pl + 33 := by unfold lastOf; rw [least32, show (Ieee.single.fractionBits : Int) = 23 from rfl, hcl]; omega
      unfold rungOf
      rw [if_neg hc0, hl, least32, binade32, inf32, show pl - (pl + 33) = -((33 : Nat) : Int) by omega, rz_neg, hc1]
      have k1 : rne (9007199254740992 * 8) 33 = 8388608 := by decide +kernel
      have k2 : rne (9007199254740992 * 8) 32 = 16777216 := by decide +kernel
      rw [k1, k2, show (pl + 33 - -149).toNat * 8388608 + 8388608 = (pl + 32 + 149).toNat * 8388608 + 16777216 by omega]
  refine ⟨M * 2 ^ more, r, 52 - L + more, hroot, r0, r1, ?_, ?_, by omega, by omega, ?_⟩
  · rw [hM, Nat.mul_assoc, ← Nat.pow_add]
  · omega
  · rw [hval, hS, hpl]
    congr 2
    omega
theorem sqrtV_zero {a : Nat} (h : rung32 a = 0) : sqrtV a = Ieee.single.word (sgn32 a) 0 := by
  have e : Ieee.double.sqrt (wideN a) = some (Ieee.double.word (sgn32 a) 0) := by
    unfold Ieee.Format.sqrt
    rw [wide_zero h, read_word64]
    show some (Ieee.double.nearest (sgn32 a) 0 (-1074)) = _
    rw [nearest_rung, rungOf_zero]
  unfold sqrtV
  rw [fin_num (by omega), e]
  show toldD (some (Ieee.double.read (Ieee.double.word (sgn32 a) 0))) = _
  rw [read_word64, toldD_num, rungOf_zero]
theorem sqrtV_pinf {a : Nat} (h : rung32 a = 2139095040) (hs : sgn32 a = false) : sqrtV a = Ieee.single.word false 2139095040 := by
  have e : Ieee.double.sqrt (wideN a) = some (Ieee.double.word false 9218868437227405312) := by
    unfold Ieee.Format.sqrt
    rw [wide_read_inf h, hs]
    show some (Ieee.double.write (.infinity false)) = _
    rw [write_inf]
  unfold sqrtV
  rw [inf_num h, e]
  show toldD (some (Ieee.double.read (Ieee.double.word false 9218868437227405312))) = _
  rw [told_inf]
theorem sqrtV_none {a : Nat} (h : nanN a = true ∨ (rung32 a ≠ 0 ∧ sgn32 a = true)) : sqrtV a = 2143289344 := by
  unfold sqrtV
  cases hn : nanN a
  · rcases h with h | ⟨h, hs⟩
    · rw [hn] at h; cases h
    · have e : Ieee.double.sqrt (wideN a) = none := by
        unfold Ieee.Format.sqrt
        rw [nanN_rung] at hn
        have hn := of_decide_eq_false hn
        rcases Nat.lt_or_ge (rung32 a) 2139095040 with g | g
        · rw [read_fin64 (wide_fin g).1, (wide_fin g).2.1, hs]
          have hm : ¬ mag64 (rung64 (wideN a)) = 0 := fun k => mag_ne32 h ((wide_mag_zero g).1 k)
          simp [Ieee.Datum.root, hm]
        · rw [wide_read_inf (by omega), hs]; rfl
      rw [e]; rfl
  · rfl
end Go.Proofs.Ytdempklpmggdoaa

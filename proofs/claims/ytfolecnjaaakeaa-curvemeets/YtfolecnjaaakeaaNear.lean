/- Plain facts on rounding a number to a format: the rung that it comes to; scaling, rising, sticky bits. -/
import Ieee.Arith
import Derived.Test.YtfolecnjaaakeaaRnd
namespace Go.Proofs.Ytfolecnjaaakeaa

/-- The place of the last digit that is kept. -/
def lastOf (f : Ieee.Format) (m : Nat) (p : Int) : Int := max (p + m.log2 - f.fractionBits) f.leastPlace
/-- m * 2^s as a whole number, rounded. -/
def rz (m : Nat) (s : Int) : Nat := rne (m * 2 ^ s.toNat) (-s).toNat
/-- The rung of m * 2^p. -/
def rungOf (f : Ieee.Format) (m : Nat) (p : Int) : Nat :=
  if m = 0 then 0 else min ((lastOf f m p - f.leastPlace).toNat * f.binade + rz m (p - lastOf f m p)) f.infRung

theorem nearest_rung (f : Ieee.Format) (neg : Bool) (m : Nat) (p : Int) : f.nearest neg m p = f.word neg (rungOf f m p) := by
  unfold Ieee.Format.nearest rungOf
  by_cases h : m = 0
  · rw [if_pos h, if_pos h]
  · rw [if_neg h, if_neg h]
    show f.word neg (min ((lastOf f m p - f.leastPlace).toNat * f.binade + Ieee.Toward.even.cut neg (m <<< (p - lastOf f m p).toNat) (lastOf f m p - p).toNat) f.infRung) = _
    rw [cut_rne, Nat.shiftLeft_eq]
    unfold rz
    rw [Int.neg_sub]

theorem log2_mul_pow {m : Nat} (h : m ≠ 0) (k : Nat) : (m * 2 ^ k).log2 = m.log2 + k := by
  have hp := Nat.two_pow_pos k
  refine (Nat.log2_eq_iff (Nat.mul_ne_zero h (by omega))).2 ⟨?_, ?_⟩
  · rw [Nat.pow_add]; exact Nat.mul_le_mul_right _ (Nat.log2_self_le h)
  · rw [show m.log2 + k + 1 = (m.log2 + 1) + k by omega, Nat.pow_add]; exact Nat.mul_lt_mul_of_pos_right Nat.lt_log2_self hp

theorem rz_nat (m : Nat) (s : Nat) : rz m s = m * 2 ^ s := by
  unfold rz
  rw [show ((s : Int)).toNat = s by omega, show (-(s : Int)).toNat = 0 by omega, rne_zero]
theorem rz_neg (m : Nat) (d : Nat) : rz m (-(d : Int)) = rne m d := by
  unfold rz
  rw [show (-(d : Int)).toNat = 0 by omega, show (- -(d : Int)).toNat = d by omega, Nat.pow_zero, Nat.mul_one]

theorem rz_scale (m k : Nat) (s : Int) : rz (m * 2 ^ k) s = rz m (s + k) := by
  rcases Int.lt_or_le s 0 with h | h
  · obtain ⟨d, rfl⟩ : ∃ d : Nat, s = -(d : Int) := ⟨(-s).toNat, by omega⟩
    rw [rz_neg]
    rcases Nat.lt_or_ge k d with g | g
    · obtain ⟨j, rfl⟩ : ∃ j, d = j + k := ⟨d - k, by omega⟩
      rw [rne_scale, show (-((j + k : Nat) : Int) + (k : Int)) = -(j : Int) by omega, rz_neg]
    · obtain ⟨j, rfl⟩ : ∃ j, k = j + d := ⟨k - d, by omega⟩
      rw [show (-(d : Int) + ((j + d : Nat) : Int)) = (j : Int) by omega, rz_nat, Nat.pow_add, ← Nat.mul_assoc, rne_exact]
  · obtain ⟨d, rfl⟩ : ∃ d : Nat, s = (d : Int) := ⟨s.toNat, by omega⟩
    rw [rz_nat, show ((d : Int) + (k : Int)) = ((d + k : Nat) : Int) by omega, rz_nat, Nat.mul_assoc, ← Nat.pow_add, Nat.add_comm k d]

theorem last_scale (f : Ieee.Format) {m : Nat} (h : m ≠ 0) (k : Nat) (p : Int) : lastOf f (m * 2 ^ k) p = lastOf f m (p + k) := by
  unfold lastOf; rw [log2_mul_pow h]; congr 1; omega

/-- The value decides. -/
theorem rung_scale (f : Ieee.Format) (m k : Nat) (p : Int) : rungOf f (m * 2 ^ k) p = rungOf f m (p + k) := by
  by_cases h : m = 0
  · subst h; unfold rungOf; rw [if_pos (Nat.zero_mul _), if_pos rfl]
  · unfold rungOf
    rw [if_neg (Nat.mul_ne_zero h (by have := Nat.two_pow_pos k; omega)), if_neg h, last_scale f h, rz_scale]
    rw [show p - lastOf f m (p + k) + (k : Int) = p + k - lastOf f m (p + k) by omega]

theorem rung_down (f : Ieee.Format) (m k : Nat) (p : Int) : rungOf f m p = rungOf f (m * 2 ^ k) (p - k) := by
  rw [rung_scale]; congr 1; omega

theorem rz_mono {m n : Nat} (s : Int) (h : m ≤ n) : rz m s ≤ rz n s := rne_mono _ (Nat.mul_le_mul_right _ h)

/-- What is kept has at most one digit more than the fraction, or is the next power of two. -/
theorem kept_le (f : Ieee.Format) (m : Nat) (p : Int) : rz m (p - lastOf f m p) ≤ 2 * f.binade := by
  have hm : m < 2 ^ (m.log2 + 1) := Nat.lt_log2_self
  have hb : 2 * f.binade = 2 ^ (f.fractionBits + 1) := by unfold Ieee.Format.binade; rw [Nat.pow_succ]; omega
  have hl : p + m.log2 - f.fractionBits ≤ lastOf f m p := by unfold lastOf; omega
  have h1 : rz m (p - lastOf f m p) ≤ rz (1 * 2 ^ (m.log2 + 1)) (p - lastOf f m p) := rz_mono _ (by omega)
  rw [rz_scale] at h1
  refine Nat.le_trans h1 ?_
  rw [hb]
  rcases Int.lt_or_le (p - lastOf f m p + ((m.log2 + 1 : Nat) : Int)) 0 with g | g
  · obtain ⟨d, e⟩ : ∃ d : Nat, p - lastOf f m p + ((m.log2 + 1 : Nat) : Int) = -(d : Int) := ⟨(-(p - lastOf f m p + ((m.log2 + 1 : Nat) : Int))).toNat, by omega⟩
    rw [e, rz_neg]
    have := Nat.two_pow_pos (f.fractionBits + 1)
    have h2 : rne 1 d ≤ 1 := rne_upper (by have := Nat.two_pow_pos d; omega)
    omega
  · obtain ⟨d, e⟩ : ∃ d : Nat, p - lastOf f m p + ((m.log2 + 1 : Nat) : Int) = (d : Int) := ⟨(p - lastOf f m p + ((m.log2 + 1 : Nat) : Int)).toNat, by omega⟩
    rw [e, rz_nat, Nat.one_mul]
    exact Nat.pow_le_pow_right (by omega) (by omega)

/-- Above the least place it has them all. -/
theorem le_kept (f : Ieee.Format) {m : Nat} (h : m ≠ 0) (p : Int) (hl : lastOf f m p = p + m.log2 - f.fractionBits) : f.binade ≤ rz m (p - lastOf f m p) := by
  have h1 : rz (1 * 2 ^ m.log2) (p - lastOf f m p) ≤ rz m (p - lastOf f m p) := rz_mono _ (by have := Nat.log2_self_le h; omega)
  rw [rz_scale] at h1
  refine Nat.le_trans ?_ h1
  rw [hl, show p - (p + (m.log2 : Int) - (f.fractionBits : Int)) + (m.log2 : Int) = ((f.fractionBits : Nat) : Int) by omega, rz_nat, Nat.one_mul]
  exact Nat.le_refl _

theorem last_ge (f : Ieee.Format) (m : Nat) (p : Int) : f.leastPlace ≤ lastOf f m p := by unfold lastOf; omega

/-- It rises. -/
theorem rung_mono (f : Ieee.Format) {m n : Nat} (p : Int) (h : m ≤ n) : rungOf f m p ≤ rungOf f n p := by
  unfold rungOf
  by_cases hm : m = 0
  · rw [if_pos hm]; exact Nat.zero_le _
  · have hn : n ≠ 0 := by omega
    rw [if_neg hm, if_neg hn]
    have hlog : m.log2 ≤ n.log2 := (Nat.le_log2 hn).2 (Nat.le_trans (Nat.log2_self_le hm) h)
    have h1 := last_ge f m p
    have hle : lastOf f m p ≤ lastOf f n p := by unfold lastOf; omega
    have key : (lastOf f m p - f.leastPlace).toNat * f.binade + rz m (p - lastOf f m p) ≤ (lastOf f n p - f.leastPlace).toNat * f.binade + rz n (p - lastOf f n p) := by
      rcases Int.lt_or_eq_of_le hle with g | g
      · have hk := kept_le f m p
        have hl : lastOf f n p = p + n.log2 - f.fractionBits := by unfold lastOf at h1 g hle ⊢; omega
        have hk' := le_kept f hn p hl
        obtain ⟨a, ha⟩ : ∃ a : Nat, lastOf f m p = f.leastPlace + a := ⟨(lastOf f m p - f.leastPlace).toNat, by omega⟩
        obtain ⟨c, hc⟩ : ∃ c : Nat, lastOf f n p = f.leastPlace + (a + 1 + c : Nat) := ⟨(lastOf f n p - lastOf f m p - 1).toNat, by omega⟩
        have e1 : (lastOf f m p - f.leastPlace).toNat = a := by omega
        have e2 : (lastOf f n p - f.leastPlace).toNat = a + 1 + c := by omega
        rw [e1, e2]
        have e3 : (a + 1 + c) * f.binade = a * f.binade + f.binade + c * f.binade := by rw [Nat.add_mul, Nat.add_mul, Nat.one_mul]
        rw [e3]
        omega
      · rw [g]
        exact Nat.add_le_add_left (rz_mono _ h) _
    omega

/-- Digits far behind the last one that is kept may be told by one. -/
theorem rung_stick (f : Ieee.Format) {M k : Nat} (p : Int) (hk : k ≤ M.log2) (hM : M ≠ 0) (h : p + k + 1 ≤ lastOf f M p) : rungOf f (stick M k) (p + k - 1) = rungOf f M p := by
  have hlo := Nat.log2_self_le hM
  have hhi : M < 2 ^ (M.log2 + 1) := Nat.lt_log2_self
  obtain ⟨j, hj⟩ : ∃ j, M.log2 = k + j := ⟨M.log2 - k, by omega⟩
  have hp := Nat.two_pow_pos k
  have q1 : 2 ^ j ≤ M / 2 ^ k := by rw [Nat.le_div_iff_mul_le hp, ← Nat.pow_add, Nat.add_comm, ← hj]; exact hlo
  have q2 : M / 2 ^ k < 2 ^ (j + 1) := by rw [Nat.div_lt_iff_lt_mul hp, ← Nat.pow_add, show j + 1 + k = M.log2 + 1 by omega]; exact hhi
  have hj0 := Nat.two_pow_pos j
  have s1 : stick M k ≠ 0 := by unfold stick; omega
  have s2 : (stick M k).log2 = j + 1 := by
    refine (Nat.log2_eq_iff s1).2 ⟨?_, ?_⟩
    · unfold stick; rw [Nat.pow_succ]; omega
    · have e2 : 2 ^ (j + 1 + 1) = 2 * 2 ^ (j + 1) := by rw [Nat.pow_succ]; omega
      unfold stick; rw [e2]; split <;> omega
  have hl : lastOf f (stick M k) (p + k - 1) = lastOf f M p := by
    unfold lastOf; rw [s2, hj]; congr 1; omega
  unfold rungOf
  rw [if_neg s1, if_neg hM, hl]
  obtain ⟨d, hd⟩ : ∃ d : Nat, lastOf f M p = p + d := ⟨(lastOf f M p - p).toNat, by omega⟩
  have e : rz (stick M k) (p + k - 1 - lastOf f M p) = rz M (p - lastOf f M p) := by
    rw [hd, show p - (p + (d : Int)) = -(d : Int) by omega, rz_neg, show p + (k : Int) - 1 - (p + (d : Int)) = -((d - k + 1 : Nat) : Int) by omega, rz_neg]
    exact rne_stick (by omega)
  rw [e]

end Go.Proofs.Ytfolecnjaaakeaa

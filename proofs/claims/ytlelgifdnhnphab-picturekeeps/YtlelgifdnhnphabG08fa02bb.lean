/- Plain facts: a quotient with its rest told by one bit, rounded: how many digits it has does not matter; the reference's quotients are the model's. -/
import Derived.Test.YtlelgifdnhnphabG35530c4a
import Derived.Test.YtlelgifdnhnphabG4760fe94
import Derived.Test.YtlelgifdnhnphabGd2bd5581
namespace Go.Proofs.Ytlelgifdnhnphab
open Go.RowKit

/-- A quotient's digits, and one more that tells of a rest. -/
def sqV (m n A : Nat) : Nat := 2 * (m * 2 ^ A / n) + if m * 2 ^ A % n = 0 then 0 else 1
theorem sq_stick {m n B k : Nat} (hn : 0 < n) : stick (sqV m n (B + k)) (k + 1) = sqV m n B := by
  have hk := Nat.two_pow_pos k
  have e0 : m * 2 ^ (B + k) = m * 2 ^ B * 2 ^ k := by rw [Nat.pow_add, Nat.mul_assoc]
  -- the great quotient, cut, is the small one
  have e1 : m * 2 ^ (B + k) / n / 2 ^ k = m * 2 ^ B / n := by
    rw [Nat.div_div_eq_div_mul, e0, Nat.mul_div_mul_right _ _ hk]
  have d1 := Nat.div_add_mod (m * 2 ^ (B + k)) n
  have d2 := Nat.div_add_mod (m * 2 ^ B) n
  have d3 := Nat.div_add_mod (m * 2 ^ (B + k) / n) (2 ^ k)
  have r1 := Nat.mod_lt (m * 2 ^ (B + k)) hn
  have r2 := Nat.mod_lt (m * 2 ^ B) hn
  rw [e1] at d3
  obtain ⟨q, hq⟩ : ∃ q, q = m * 2 ^ B / n := ⟨_, rfl⟩
  obtain ⟨Q', hQ⟩ : ∃ Q', Q' = m * 2 ^ (B + k) / n := ⟨_, rfl⟩
  obtain ⟨r, hr⟩ : ∃ r, r = m * 2 ^ B % n := ⟨_, rfl⟩
  obtain ⟨R, hR⟩ : ∃ R, R = m * 2 ^ (B + k) % n := ⟨_, rfl⟩
  obtain ⟨t, ht⟩ : ∃ t, t = Q' % 2 ^ k := ⟨_, rfl⟩
  unfold stick sqV
  rw [← hQ, ← hR, ← hq, ← hr]
  rw [← hQ, ← hq, ← ht] at d3
  rw [← hQ, ← hR] at d1
  rw [← hq, ← hr] at d2
  have htk : t < 2 ^ k := by rw [ht]; exact Nat.mod_lt _ hk
  -- r * 2^k = n * t + R
  have key : r * 2 ^ k = n * t + R := by
    have a1 : n * Q' + R = (n * q + r) * 2 ^ k := by rw [d1, d2, e0]
    rw [← d3] at a1
    rw [Nat.mul_add, Nat.add_mul] at a1
    have a2 : n * (2 ^ k * q) = n * q * 2 ^ k := by rw [Nat.mul_comm (2 ^ k) q, Nat.mul_assoc]
    omega
  have hzero : r = 0 ↔ t = 0 ∧ R = 0 := by
    constructor
    · intro h
      rw [h, Nat.zero_mul] at key
      have k1 : n * t = 0 := by omega
      rcases Nat.mul_eq_zero.1 k1 with h' | h'
      · omega
      · exact ⟨h', by omega⟩
    · rintro ⟨h1, h2⟩
      rw [h1, h2, Nat.mul_zero] at key
      rcases Nat.mul_eq_zero.1 key with h' | h'
      · exact h'
      · omega
  have ep : 2 ^ (k + 1) = 2 * 2 ^ k := by rw [Nat.pow_succ]; omega
  obtain ⟨b, hb⟩ : ∃ b, b = if R = 0 then 0 else 1 := ⟨_, rfl⟩
  have hb2 : b < 2 := by rw [hb]; split <;> omega
  rw [← hb]
  have f1 : (2 * Q' + b) / 2 ^ (k + 1) = q := by
    rw [ep, ← Nat.div_div_eq_div_mul, show (2 * Q' + b) / 2 = Q' by omega, hQ, e1, hq]
  have f2 : (2 * Q' + b) % 2 ^ (k + 1) = 2 * t + b := by
    have g := Nat.div_add_mod (2 * Q' + b) (2 ^ (k + 1))
    rw [f1, ep] at g
    rw [ep]
    have g2 : 2 * 2 ^ k * q = 2 * (2 ^ k * q) := Nat.mul_assoc _ _ _
    omega
  rw [f1, f2]
  have hbR : b = 0 ↔ R = 0 := by rw [hb]; split <;> omega
  by_cases h : r = 0
  · obtain ⟨h1, h2⟩ := hzero.1 h
    rw [if_pos h, if_pos (by have := hbR.2 h2; omega)]
  · rw [if_neg h, if_neg]
    intro h'
    exact h (hzero.2 ⟨by omega, hbR.1 (by omega)⟩)
theorem sq_link (f : Ieee.Format) {m n A B : Nat} (x : Int) (hn : 0 < n) (hA : B ≤ A) (hq : 2 ^ (f.fractionBits + 1) ≤ m * 2 ^ B / n) :
    rungOf f (sqV m n A) (x - A - 1) = rungOf f (sqV m n B) (x - B - 1) := by
  obtain ⟨k, rfl⟩ : ∃ k, A = B + k := ⟨A - B, by omega⟩
  have e1 : m * 2 ^ (B + k) / n / 2 ^ k = m * 2 ^ B / n := by
    rw [Nat.div_div_eq_div_mul, Nat.pow_add, ← Nat.mul_assoc, Nat.mul_div_mul_right _ _ (Nat.two_pow_pos k)]
  have h1 : 2 ^ (f.fractionBits + 1 + k) ≤ m * 2 ^ (B + k) / n := by
    rw [Nat.pow_add]
    rw [← e1] at hq
    exact (Nat.le_div_iff_mul_le (Nat.two_pow_pos k)).1 hq
  have h2 : 2 ^ (f.fractionBits + 2 + k) ≤ sqV m n (B + k) := by
    unfold sqV
    rw [show f.fractionBits + 2 + k = f.fractionBits + 1 + k + 1 by omega, Nat.pow_succ]
    omega
  have hM : sqV m n (B + k) ≠ 0 := by have := Nat.two_pow_pos (f.fractionBits + 2 + k); omega
  have hlog : f.fractionBits + 2 + k ≤ (sqV m n (B + k)).log2 := (Nat.le_log2 hM).2 h2
  have := rung_stick f (M := sqV m n (B + k)) (k := k + 1) (x - (B + k : Nat) - 1) (by omega) hM (by unfold lastOf; omega)
  rw [sq_stick hn] at this
  rw [← this]
  congr 1; omega
theorem quo_digits {m n : Nat} (hm : m ≠ 0) (hn : n ≠ 0) {d : Nat} (h0 : 0 < d) : 2 ^ (d - 1) ≤ m * 2 ^ (d + n.log2 - m.log2) / n := by
  rw [Nat.le_div_iff_mul_le (by omega)]
  have h1 := Nat.log2_self_le hm
  have h2 : n < 2 ^ (n.log2 + 1) := Nat.lt_log2_self
  have a1 : 2 ^ (d - 1) * n < 2 ^ (d - 1) * 2 ^ (n.log2 + 1) := Nat.mul_lt_mul_of_pos_left h2 (Nat.two_pow_pos _)
  rw [← Nat.pow_add, show d - 1 + (n.log2 + 1) = d + n.log2 by omega] at a1
  have a2 : 2 ^ m.log2 * 2 ^ (d + n.log2 - m.log2) ≤ m * 2 ^ (d + n.log2 - m.log2) := Nat.mul_le_mul_right _ h1
  rw [← Nat.pow_add] at a2
  have a3 : 2 ^ (d + n.log2) ≤ 2 ^ (m.log2 + (d + n.log2 - m.log2)) := Nat.pow_le_pow_right (by decide) (by omega)
  omega
theorem zeroB_fin (s : Bool) (n : Nat) (e : Int) : zeroB (.fin s n e false) = decide (n = 0) := by
  unfold zeroB; cases n <;> rfl
theorem bne_xor (s t : Bool) : (s != t) = (s ^^ t) := by cases s <;> cases t <;> rfl
theorem sq_not (m n A : Nat) : 2 * (m * 2 ^ A / n) + (!decide (m * 2 ^ A % n = 0)).toNat = sqV m n A := by
  unfold sqV
  by_cases h : m * 2 ^ A % n = 0
  · rw [decide_eq_true h, if_pos h]; rfl
  · rw [decide_eq_false h, if_neg h]; rfl
theorem sq_model (m n A : Nat) : 2 * ((m <<< A) / n) + ((m <<< A) % n != 0).toNat = sqV m n A := by
  unfold sqV
  rw [Nat.shiftLeft_eq]
  by_cases h : m * 2 ^ A % n = 0
  · rw [if_pos h, h]; rfl
  · rw [if_neg h, bne_iff_ne.2 h]; rfl
/-- Quotients. -/
theorem div_link (d d' : Ieee.Datum) : roundR (divR (datumR d) (datumR d')) = toldD (d.quotient 25 d') := by
  cases d with
  | nan s t => cases d' <;> rfl
  | infinity s =>
    cases d' with
    | nan t f => rfl
    | infinity t => rfl
    | number t n j =>
      show Ieee.single.word (s != t) 2139095040 = Ieee.single.word (s ^^ t) Ieee.single.infRung
      rw [single_inf, bne_xor]
  | number s m i =>
    cases d' with
    | nan t f => rfl
    | infinity t =>
      show roundR (.fin (s != t) 0 0 false) = Ieee.single.nearest (s ^^ t) 0 0
      rw [roundR_fin, bne_xor]
    | number t n j =>
      show roundR (divR (.fin s m i false) (.fin t n j false)) = _
      unfold divR
      dsimp only
      rw [zeroB_fin, zeroB_fin]
      simp only [decide_eq_true_eq]
      by_cases hn : n = 0
      · rw [if_pos (Or.inr hn), if_pos hn]
        by_cases hm : m = 0
        · rw [if_pos hm, show (Ieee.Datum.number s m i).quotient 25 (.number t n j) = none from by simp [Ieee.Datum.quotient, hn, hm]]; rfl
        · rw [if_neg hm, show (Ieee.Datum.number s m i).quotient 25 (.number t n j) = some (.infinity (s ^^ t)) from by simp [Ieee.Datum.quotient, hn, hm]]
          show Ieee.single.word (s != t) 2139095040 = Ieee.single.word (s ^^ t) Ieee.single.infRung
          rw [single_inf, bne_xor]
      · have em : (Ieee.Datum.number s m i).quotient 25 (.number t n j) = some (.number (s ^^ t) (sqV m n (25 + n.log2 - m.log2)) (i - j - ((25 + n.log2 - m.log2 : Nat) : Int) - 1)) := by
          rw [← sq_model]
          simp [Ieee.Datum.quotient, hn]
        rw [em]
        show _ = Ieee.single.nearest _ _ _
        rw [nearest_rung]
        by_cases hm : m = 0
        · rw [if_pos (Or.inl hm), if_neg hn, roundR_fin, nearest_rung, bne_xor]
          have z : sqV m n (25 + n.log2 - m.log2) = 0 := by unfold sqV; rw [hm, Nat.zero_mul, Nat.zero_div, Nat.zero_mod, if_pos rfl]
          rw [z]; unfold rungOf; rw [if_pos rfl, if_pos rfl]
        · rw [if_neg (by simp [hn, hm]), bne_xor]
          show Ieee.single.word _ (rungOf Ieee.single (2 * (m * 2 ^ shV m n / n) + (!decide (m * 2 ^ shV m n % n = 0)).toNat) (i - j - (shV m n : Int) - 1)) = _
          rw [sq_not]
          congr 1
          refine sq_link Ieee.single (i - j) (by omega) ?_ ?_
          · unfold shV blen
            rw [if_neg hn, if_neg hm]; omega
          · exact quo_digits hm hn (d := 25) (by omega)
end Go.Proofs.Ytlelgifdnhnphab
/- What the reference's Of returns at binary64, and F64. -/
namespace Go.Proofs.Ytlelgifdnhnphab
open Go.RowKit

theorem numOf_nan64 {b : Nat} (h1 : b / 4503599627370496 % 2048 = 2047) (h2 : b % 4503599627370496 ≠ 0) : numOf Ieee.double b = .nan := by
  unfold numOf Ieee.Format.read
  simp only [double_sign, double_binade, double_inf, double_least]
  rw [if_neg (by omega), if_neg (by omega), if_neg (by omega)]
theorem numOf_inf64 {b : Nat} (h1 : b / 4503599627370496 % 2048 = 2047) (h2 : b % 4503599627370496 = 0) : numOf Ieee.double b = .inf (b / 9223372036854775808 % 2 == 1) := by
  unfold numOf Ieee.Format.read
  simp only [double_sign, double_binade, double_inf, double_least]
  rw [if_neg (by omega), if_neg (by omega), if_pos (by omega)]
theorem numOf_small64 {b : Nat} (h1 : b / 4503599627370496 % 2048 = 0) : numOf Ieee.double b = .fin (b / 9223372036854775808 % 2 == 1) (b % 4503599627370496) (-1074) false := by
  unfold numOf Ieee.Format.read
  simp only [double_sign, double_binade, double_inf, double_least]
  rw [if_pos (by omega)]
  have : b % 9223372036854775808 = b % 4503599627370496 := by omega
  rw [this]
theorem numOf_norm64 {b : Nat} (h1 : b / 4503599627370496 % 2048 ≠ 0) (h2 : b / 4503599627370496 % 2048 ≠ 2047) :
    numOf Ieee.double b = .fin (b / 9223372036854775808 % 2 == 1) (b % 4503599627370496 + 4503599627370496) (((b / 4503599627370496 % 2048 : Nat) : Int) - 1075) false := by
  unfold numOf Ieee.Format.read
  simp only [double_sign, double_binade, double_inf, double_least]
  rw [if_neg (by omega), if_pos (by omega)]
  have e1 : 4503599627370496 + b % 9223372036854775808 % 4503599627370496 = b % 4503599627370496 + 4503599627370496 := by omega
  have e2 : (-1074 : Int) + ((b % 9223372036854775808 / 4503599627370496 - 1 : Nat) : Int) = ((b / 4503599627370496 % 2048 : Nat) : Int) - 1075 := by omega
  rw [e1, e2]

/-- The bits of a binary64 word among 64. -/
theorem of_bits64 {b : Nat} (hb : b < 18446744073709551616) :
    bits .and .u64 ((b : Int) / 9223372036854775808) 1 = ((b / 9223372036854775808 % 2 : Nat) : Int) ∧
    bits .and .u64 ((b : Int) / 4503599627370496) 2047 = ((b / 4503599627370496 % 2048 : Nat) : Int) ∧
    bits .and .u64 (b : Int) 4503599627370495 = ((b % 4503599627370496 : Nat) : Int) ∧
    bits .or .u64 ((b % 4503599627370496 : Nat) : Int) 4503599627370496 = ((b % 4503599627370496 + 4503599627370496 : Nat) : Int) := by
  refine ⟨?_, ?_, ?_, ?_⟩
  · have := u64_and1 (x := b / 9223372036854775808) (by omega)
    exact this
  · have : bits .and .u64 ((b : Int) / 4503599627370496) 2047 = (b : Int) / 4503599627370496 % 2048 := by go_bits2
    rw [this]; omega
  · have : bits .and .u64 (b : Int) 4503599627370495 = (b : Int) % 4503599627370496 := by go_bits2
    rw [this]; omega
  · rw [show (4503599627370496 : Int) = ((4503599627370496 : Nat) : Int) from rfl, u64_or_nat _ _ (by omega) (by decide), Nat.or_comm,
      show (4503599627370496 : Nat) = 2 ^ 52 * 1 from rfl, ← Nat.two_pow_add_eq_or_of_lt (i := 52) (by omega) 1]
    omega

end Go.Proofs.Ytlelgifdnhnphab
/- Plain facts: the reference's word of binary64, put together. -/
namespace Go.Proofs.Ytlelgifdnhnphab
open Go.RowKit

/-- The word that the reference puts together. -/
theorem or_word_64 {neg : Bool} {r : Nat} (hr : r < 9223372036854775808) : bits .or .u64 (signV true neg) (r : Int) = ((Ieee.double.word neg r : Nat) : Int) := by
  unfold Ieee.Format.word signV
  rw [double_sign]
  cases neg
  · show bits .or .u64 ((0 : Nat) : Int) (r : Int) = _
    rw [u64_or_nat _ _ (by decide) (by omega), Nat.zero_or]; rfl
  · show bits .or .u64 ((9223372036854775808 : Nat) : Int) (r : Int) = _
    rw [u64_or_nat _ _ (by decide) (by omega), show (9223372036854775808 : Nat) = 2 ^ 63 * 1 from rfl, ← Nat.two_pow_add_eq_or_of_lt (i := 63) hr 1]
    rfl
theorem or_word2_64 {neg : Bool} {x fr : Nat} (hx : x < 2048) (hf : fr < 4503599627370496) :
    bits .or .u64 ((Ieee.double.word neg (x * 4503599627370496) : Nat) : Int) (fr : Int) = ((Ieee.double.word neg (x * 4503599627370496 + fr) : Nat) : Int) := by
  have e : Ieee.double.word neg (x * 4503599627370496) = 2 ^ 52 * ((if neg = true then 2048 else 0) + x) := by
    unfold Ieee.Format.word; rw [double_sign]; cases neg <;> simp <;> omega
  have e2 : Ieee.double.word neg (x * 4503599627370496 + fr) = 2 ^ 52 * ((if neg = true then 2048 else 0) + x) + fr := by
    unfold Ieee.Format.word; rw [double_sign]; cases neg <;> simp <;> omega
  have hb : (if neg = true then 2048 else 0) ≤ 2048 := by split <;> omega
  rw [e2, e, u64_or_nat _ _ (by omega) (by omega), ← Nat.two_pow_add_eq_or_of_lt (i := 52) hf]
theorem word_lt_64 {neg : Bool} {r : Nat} (hr : r < 9223372036854775808) : Ieee.double.word neg r < 18446744073709551616 := by
  unfold Ieee.Format.word; rw [double_sign]; split <;> omega

/-- Carried where it must be: what is kept, and its place. -/
theorem carried_64 {n K : Nat} {T : Int} {R : Nat} (h1 : K ≤ 2 * 4503599627370496) (h2 : -1074 ≤ T) (h3 : K < 4503599627370496 → T = -1074 ∨ n = 0) (h0 : n = 0 → K = 0)
    (h4 : R = if n = 0 then 0 else min ((T - -1074).toNat * 4503599627370496 + K) 9218868437227405312) :
    ∃ (K' : Nat) (T' : Int), K' < 9007199254740992 ∧ -1074 ≤ T' ∧ T' ≤ T + 1 ∧ ((K = 9007199254740992 ∧ K' = 4503599627370496 ∧ T' = T + 1) ∨ (K < 9007199254740992 ∧ K' = K ∧ T' = T)) ∧
      (K' < 4503599627370496 → R = K') ∧ (4503599627370496 ≤ K' → R = min ((T' + 1074).toNat * 4503599627370496 + K') 9218868437227405312) := by
  by_cases hK : K = 9007199254740992
  · refine ⟨4503599627370496, T + 1, by decide, by omega, by omega, Or.inl ⟨hK, rfl, rfl⟩, fun h => absurd h (by decide), fun _ => ?_⟩
    have : n ≠ 0 := fun e => by have := h0 e; omega
    rw [h4, if_neg this]
    have e1 : (T + 1 + 1074).toNat = (T - -1074).toNat + 1 := by omega
    have e2 : ∀ y : Nat, y * 4503599627370496 + 9007199254740992 = (y + 1) * 4503599627370496 + 4503599627370496 := fun y => by omega
    rw [e1, hK, e2]
  · refine ⟨K, T, by omega, h2, by omega, Or.inr ⟨by omega, rfl, rfl⟩, fun h => ?_, fun h => ?_⟩
    · rw [h4]
      by_cases hn : n = 0
      · rw [if_pos hn, h0 hn]
      · rw [if_neg hn]
        rcases h3 h with g | g
        · rw [g]; simp; omega
        · exact absurd g hn
    · have : n ≠ 0 := fun e => by have := h0 e; omega
      rw [h4, if_neg this]
      rw [show (T - -1074).toNat = (T + 1074).toNat by omega]
end Go.Proofs.Ytlelgifdnhnphab
/- What the reference's Round returns at binary64: the nearest word. -/
namespace Go.Proofs.Ytlelgifdnhnphab
open Go.RowKit

end Go.Proofs.Ytlelgifdnhnphab
/- What the reference's Round returns at binary64 of whatever number; its Wide and Narrow. -/
namespace Go.Proofs.Ytlelgifdnhnphab
open Go.RowKit

/-- The word of binary64. -/
def roundD : RNum → Nat
  | ⟨none⟩ => 9221120237041090560
  | ⟨some (.inl s)⟩ => Ieee.double.word s 9218868437227405312
  | ⟨some (.inr (s, n, e, m))⟩ => Ieee.double.word s (rungOf Ieee.double (2 * n + m.toNat) (e - 1))
def fitsD : RNum → Prop
  | ⟨some (.inr (_, n, e, m))⟩ => blen n ≤ 6000 ∧ -5000 ≤ e ∧ e ≤ 5000 ∧ (m = true → n ≠ 0 ∧ e + 1 ≤ lastOf Ieee.double n e)
  | _ => True

end Go.Proofs.Ytlelgifdnhnphab
/- Plain facts: sums, products and quotients of two samples, rounded to binary64 and then to binary32: it does not show. -/
namespace Go.Proofs.Ytlelgifdnhnphab
open Go.RowKit

/-- No sum of two samples lies near a half-way number without being one. -/
theorem sum_mid_le {s t : Bool} {m n k1 k2 Z : Nat} (hm : m < 16777216) (hn : n < 16777216) (hk : k2 ≤ k1) (h2 : 925 ≤ k2) (hZe : Z = (Ieee.signed s m k1 + Ieee.signed t n k2).natAbs) (hK : 0 < lostK Z)
    (hmod : rne Z (lostK Z) * 2 ^ lostK Z % 2 ^ max (Z.log2 - 23) 925 = 2 ^ (max (Z.log2 - 23) 925 - 1)) : rne Z (lostK Z) * 2 ^ lostK Z = Z := by
  obtain ⟨n1, n2⟩ := rne_near Z (lostK Z)
  have h0 : Z ≠ 0 := by intro h0; rw [h0] at hK; exact absurd hK (by decide)
  have hL : Z.log2 = 52 + lostK Z := by unfold lostK at *; omega
  have hd : 2 ^ k2 ∣ Z := by
    rw [hZe, ← Int.ofNat_dvd_left]
    exact Int.dvd_add (signed_dvd s m hk) (signed_dvd t n (Nat.le_refl _))
  rcases Nat.lt_or_ge Z (2 ^ (53 + k2)) with g | g
  · have hl := (Nat.log2_lt h0).2 g
    obtain ⟨o, ho⟩ := Nat.dvd_trans (Nat.pow_dvd_pow 2 (show lostK Z ≤ k2 by omega)) hd
    have e := rne_exact o (lostK Z)
    rw [Nat.mul_comm, ← ho] at e
    rw [e, Nat.mul_comm, ← ho]
  · exfalso
    have hl := (Nat.le_log2 h0).2 g
    rw [show max (Z.log2 - 23) 925 = 29 + lostK Z by omega, show 29 + lostK Z - 1 = 28 + lostK Z by omega, Nat.pow_add, Nat.pow_add, Nat.mul_mod_mul_right] at hmod
    have hE := Nat.two_pow_pos (lostK Z)
    have hc := Nat.eq_of_mul_eq_mul_right hE hmod
    have hlo := Nat.log2_self_le h0
    rw [hL, Nat.pow_add] at hlo
    have hY : n * 2 ^ k2 < 2 ^ 23 * 2 ^ lostK Z := by
      have a1 : n * 2 ^ k2 < 2 ^ 24 * 2 ^ k2 := Nat.mul_lt_mul_of_pos_right hn (Nat.two_pow_pos _)
      rw [← Nat.pow_add] at a1 ⊢
      exact Nat.lt_of_lt_of_le a1 (Nat.pow_le_pow_right (by decide) (by omega))
    have hX : Z ≤ m * 2 ^ k1 + n * 2 ^ k2 ∧ m * 2 ^ k1 ≤ Z + n * 2 ^ k2 := by
      have x1 := signed_abs s m k1
      have x2 := signed_abs t n k2
      omega
    have hk1 : 29 + lostK Z ≤ k1 := by
      rcases Nat.lt_or_ge k1 (29 + lostK Z) with j | j
      · exfalso
        have a1 : m * 2 ^ k1 ≤ 16777215 * (2 ^ 28 * 2 ^ lostK Z) := by
          rw [← Nat.pow_add]
          exact Nat.mul_le_mul (by omega) (Nat.pow_le_pow_right (by decide) (by omega))
        generalize m * 2 ^ k1 = xE at hX a1
        generalize n * 2 ^ k2 = yE at hX hY
        generalize 2 ^ lostK Z = E at hlo hY a1
        omega
      · exact j
    obtain ⟨x, hx⟩ : ∃ x, m * 2 ^ k1 = x * 2 ^ 29 * 2 ^ lostK Z := ⟨m * 2 ^ (k1 - (29 + lostK Z)), by
      rw [Nat.mul_assoc, Nat.mul_assoc, ← Nat.pow_add, ← Nat.pow_add, show k1 - (29 + lostK Z) + (29 + lostK Z) = k1 by omega]⟩
    rw [hx] at hX
    obtain ⟨c, hcc⟩ : ∃ c, c = rne Z (lostK Z) := ⟨_, rfl⟩
    rw [← hcc] at n1 n2 hc
    have u1 : c * 2 ^ lostK Z ≤ (x * 2 ^ 29 + 2 ^ 24) * 2 ^ lostK Z := by
      rw [Nat.add_mul]
      clear hc hcc hx hlo
      generalize c * 2 ^ lostK Z = cE at n1 n2 ⊢
      generalize x * 2 ^ 29 * 2 ^ lostK Z = xE at hX ⊢
      generalize n * 2 ^ k2 = yE at hX hY
      generalize 2 ^ lostK Z = E at n1 n2 hY ⊢
      omega
    have u2 : x * 2 ^ 29 * 2 ^ lostK Z ≤ (c + 2 ^ 24) * 2 ^ lostK Z := by
      rw [Nat.add_mul]
      clear hc hcc hx hlo
      generalize c * 2 ^ lostK Z = cE at n1 n2 ⊢
      generalize x * 2 ^ 29 * 2 ^ lostK Z = xE at hX ⊢
      generalize n * 2 ^ k2 = yE at hX hY
      generalize 2 ^ lostK Z = E at n1 n2 hY ⊢
      omega
    have v1 := Nat.le_of_mul_le_mul_right u1 hE
    have v2 := Nat.le_of_mul_le_mul_right u2 hE
    omega
theorem sum_mid {s t : Bool} {m n k1 k2 Z : Nat} (hm : m < 16777216) (hn : n < 16777216) (h1 : 925 ≤ k1) (h2 : 925 ≤ k2) (hZe : Z = (Ieee.signed s m k1 + Ieee.signed t n k2).natAbs) (hK : 0 < lostK Z)
    (hmod : rne Z (lostK Z) * 2 ^ lostK Z % 2 ^ max (Z.log2 - 23) 925 = 2 ^ (max (Z.log2 - 23) 925 - 1)) : rne Z (lostK Z) * 2 ^ lostK Z = Z := by
  rcases Nat.le_total k2 k1 with g | g
  · exact sum_mid_le hm hn g h2 hZe hK hmod
  · rw [Int.add_comm] at hZe
    exact sum_mid_le hn hm g h1 hZe hK hmod

/-- No quotient of two samples lies near a half-way number without being one. -/
theorem quo_mid {m n A K : Nat} (hn0 : 0 < n) (hn : n < 16777216) (hA : 37 ≤ A) (hK : K = 8 ∨ K = 9) (hd : 2 ^ (K + 28) ∣ rne (sqV m n A) K * 2 ^ K) : rne (sqV m n A) K * 2 ^ K = sqV m n A := by
  obtain ⟨n1, n2⟩ := rne_near (sqV m n A) K
  have hE : 2 ^ K ≤ 512 := by rcases hK with h | h <;> rw [h] <;> decide
  have hd36 : 2 ^ 36 ∣ rne (sqV m n A) K * 2 ^ K := Nat.dvd_trans (Nat.pow_dvd_pow 2 (by omega)) hd
  obtain ⟨C, hC⟩ : ∃ C, C = rne (sqV m n A) K * 2 ^ K := ⟨_, rfl⟩
  rw [← hC] at n1 n2 hd36 ⊢
  have dm := Nat.div_add_mod (m * 2 ^ A) n
  have rm := Nat.mod_lt (m * 2 ^ A) hn0
  have hS : sqV m n A = 2 * (m * 2 ^ A / n) + if m * 2 ^ A % n = 0 then 0 else 1 := rfl
  obtain ⟨S, hSe⟩ : ∃ S, S = sqV m n A := ⟨_, rfl⟩
  rw [← hSe] at n1 n2 hS ⊢
  obtain ⟨W, hW⟩ : ∃ W, m * 2 ^ A = 2 ^ 36 * W := by
    refine ⟨m * 2 ^ (A - 36), ?_⟩
    rw [Nat.mul_left_comm, ← Nat.pow_add, show 36 + (A - 36) = A by omega]
  obtain ⟨v, hv⟩ := hd36
  obtain ⟨q, hq⟩ : ∃ q, q = m * 2 ^ A / n := ⟨_, rfl⟩
  obtain ⟨r, hr⟩ : ∃ r, r = m * 2 ^ A % n := ⟨_, rfl⟩
  rw [← hq, ← hr] at dm hS
  rw [← hr] at rm
  -- n * S lies within n of 2 m 2^A
  have s1 : n * S = 2 * (n * q) + n * (if r = 0 then 0 else 1) := by
    rw [hS, Nat.mul_add, Nat.mul_left_comm]
  have s2 : n * (if r = 0 then 0 else 1) = if r = 0 then 0 else n := by split <;> simp
  rw [s2] at s1
  have c1 : n * C ≤ n * (S + 256) := Nat.mul_le_mul_left _ (by omega)
  have c2 : n * S ≤ n * (C + 256) := Nat.mul_le_mul_left _ (by omega)
  rw [Nat.mul_add] at c1 c2
  have e1 : n * C = 2 ^ 36 * (n * v) := by rw [hv, Nat.mul_left_comm]
  have key : n * v = 2 * W := by
    generalize n * v = nv at e1
    generalize n * C = nC at *
    generalize n * S = nS at *
    generalize n * q = nq at *
    split at s1 <;> omega
  -- so the quotient is exact
  have e2 : n * C = 2 * (m * 2 ^ A) := by rw [e1, key, hW]; omega
  have e3 : n * (C / 2) = m * 2 ^ A := by
    have : C = 2 * (C / 2) := by omega
    have e4 : n * C = 2 * (n * (C / 2)) := by rw [← Nat.mul_left_comm, ← this]
    omega
  have hr0 : r = 0 := by rw [hr, ← e3, Nat.mul_mod_right]
  have hq2 : q = C / 2 := by rw [hq, ← e3, Nat.mul_div_cancel_left _ hn0]
  rw [hS, hr0, if_pos rfl, hq2]
  omega
end Go.Proofs.Ytlelgifdnhnphab

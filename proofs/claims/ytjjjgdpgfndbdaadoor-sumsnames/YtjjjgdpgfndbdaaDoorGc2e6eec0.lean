/- Plain facts: a quotient with its rest told by one bit, rounded: how many digits it has does not matter; the reference's quotients are the model's. -/
import Derived.Test.YtjjjgdpgfndbdaaDoorG11713df2
import Derived.Test.YtjjjgdpgfndbdaaDoorGc17643ae
namespace Go.Proofs.YtjjjgdpgfndbdaaDoor
open Go.RowKit

/-- A quotient's digits, and one more that tells of a rest. -/
def sqV (m n A : Nat) : Nat := 2 * (m * 2 ^ A / n) + if m * 2 ^ A % n = 0 then 0 else 1
theorem sq_stick {m n B k : Nat} (hn : 0 < n) : stick (sqV m n (B + k)) (k + 1) = sqV m n B := by
  have hk := Nat.two_pow_pos k
  have e0 : m * 2 ^ (B + k) = m * 2 ^ B * 2 ^ k := by rw [Nat.pow_add, Nat.mul_assoc]
  -- the great quotient, cut, is the small one
  have e1 : m * 2 ^ (B + k) / n / 2 ^ k = m * 2 ^ B / n := by
    rw [Nat.div_div_eq_div_mul, e0, Nat.mul_div_mul_right _ _ hk]
  have d1 := Nat.div_add_mod (m * 2 ^ (B + k)) n
  have d2 := Nat.div_add_mod (m * 2 ^ B) n
  have d3 := Nat.div_add_mod (m * 2 ^ (B + k) / n) (2 ^ k)
  have r1 := Nat.mod_lt (m * 2 ^ (B + k)) hn
  have r2 := Nat.mod_lt (m * 2 ^ B) hn
  rw [e1] at d3
  obtain ⟨q, hq⟩ : ∃ q, q = m * 2 ^ B / n := ⟨_, rfl⟩
  obtain ⟨Q', hQ⟩ : ∃ Q', Q' = m * 2 ^ (B + k) / n := ⟨_, rfl⟩
  obtain ⟨r, hr⟩ : ∃ r, r = m * 2 ^ B % n := ⟨_, rfl⟩
  obtain ⟨R, hR⟩ : ∃ R, R = m * 2 ^ (B + k) % n := ⟨_, rfl⟩
  obtain ⟨t, ht⟩ : ∃ t, t = Q' % 2 ^ k := ⟨_, rfl⟩
  unfold stick sqV
  rw [← hQ, ← hR, ← hq, ← hr]
  rw [← hQ, ← hq, ← ht] at d3
  rw [← hQ, ← hR] at d1
  rw [← hq, ← hr] at d2
  have htk : t < 2 ^ k := by rw [ht]; exact Nat.mod_lt _ hk
  -- r * 2^k = n * t + R
  have key : r * 2 ^ k = n * t + R := by
    have a1 : n * Q' + R = (n * q + r) * 2 ^ k := by rw [d1, d2, e0]
    rw [← d3] at a1
    rw [Nat.mul_add, Nat.add_mul] at a1
    have a2 : n * (2 ^ k * q) = n * q * 2 ^ k := by rw [Nat.mul_comm (2 ^ k) q, Nat.mul_assoc]
    omega
  have hzero : r = 0 ↔ t = 0 ∧ R = 0 := by
    constructor
    · intro h
      rw [h, Nat.zero_mul] at key
      have k1 : n * t = 0 := by omega
      rcases Nat.mul_eq_zero.1 k1 with h' | h'
      · omega
      · exact ⟨h', by omega⟩
    · rintro ⟨h1, h2⟩
      rw [h1, h2, Nat.mul_zero] at key
      rcases Nat.mul_eq_zero.1 key with h' | h'
      · exact h'
      · omega
  have ep : 2 ^ (k + 1) = 2 * 2 ^ k := by rw [Nat.pow_succ]; omega
  obtain ⟨b, hb⟩ : ∃ b, b = if R = 0 then 0 else 1 := ⟨_, rfl⟩
  have hb2 : b < 2 := by rw [hb]; split <;> omega
  rw [← hb]
  have f1 : (2 * Q' + b) / 2 ^ (k + 1) = q := by
    rw [ep, ← Nat.div_div_eq_div_mul, show (2 * Q' + b) / 2 = Q' by omega, hQ, e1, hq]
  have f2 : (2 * Q' + b) % 2 ^ (k + 1) = 2 * t + b := by
    have g := Nat.div_add_mod (2 * Q' + b) (2 ^ (k + 1))
    rw [f1, ep] at g
    rw [ep]
    have g2 : 2 * 2 ^ k * q = 2 * (2 ^ k * q) := Nat.mul_assoc _ _ _
    omega
  rw [f1, f2]
  have hbR : b = 0 ↔ R = 0 := by rw [hb]; split <;> omega
  by_cases h : r = 0
  · obtain ⟨h1, h2⟩ := hzero.1 h
    rw [if_pos h, if_pos (by have := hbR.2 h2; omega)]
  · rw [if_neg h, if_neg]
    intro h'
    exact h (hzero.2 ⟨by omega, hbR.1 (by omega)⟩)
theorem sq_link (f : Ieee.Format) {m n A B : Nat} (x : Int) (hn : 0 < n) (hA : B ≤ A) (hq : 2 ^ (f.fractionBits + 1) ≤ m * 2 ^ B / n) :
    rungOf f (sqV m n A) (x - A - 1) = rungOf f (sqV m n B) (x - B - 1) := by
  obtain ⟨k, rfl⟩ : ∃ k, A = B + k := ⟨A - B, by omega⟩
  have e1 : m * 2 ^ (B + k) / n / 2 ^ k = m * 2 ^ B / n := by
    rw [Nat.div_div_eq_div_mul, Nat.pow_add, ← Nat.mul_assoc, Nat.mul_div_mul_right _ _ (Nat.two_pow_pos k)]
  have h1 : 2 ^ (f.fractionBits + 1 + k) ≤ m * 2 ^ (B + k) / n := by
    rw [Nat.pow_add]
    rw [← e1] at hq
    exact (Nat.le_div_iff_mul_le (Nat.two_pow_pos k)).1 hq
  have h2 : 2 ^ (f.fractionBits + 2 + k) ≤ sqV m n (B + k) := by
    unfold sqV
    rw [show f.fractionBits + 2 + k = f.fractionBits + 1 + k + 1 by omega, Nat.pow_succ]
    omega
  have hM : sqV m n (B + k) ≠ 0 := by have := Nat.two_pow_pos (f.fractionBits + 2 + k); omega
  have hlog : f.fractionBits + 2 + k ≤ (sqV m n (B + k)).log2 := (Nat.le_log2 hM).2 h2
  have := rung_stick f (M := sqV m n (B + k)) (k := k + 1) (x - (B + k : Nat) - 1) (by omega) hM (by unfold lastOf; omega)
  rw [sq_stick hn] at this
  rw [← this]
  congr 1; omega
theorem quo_digits {m n : Nat} (hm : m ≠ 0) (hn : n ≠ 0) {d : Nat} (h0 : 0 < d) : 2 ^ (d - 1) ≤ m * 2 ^ (d + n.log2 - m.log2) / n := by
  rw [Nat.le_div_iff_mul_le (by omega)]
  have h1 := Nat.log2_self_le hm
  have h2 : n < 2 ^ (n.log2 + 1) := Nat.lt_log2_self
  have a1 : 2 ^ (d - 1) * n < 2 ^ (d - 1) * 2 ^ (n.log2 + 1) := Nat.mul_lt_mul_of_pos_left h2 (Nat.two_pow_pos _)
  rw [← Nat.pow_add, show d - 1 + (n.log2 + 1) = d + n.log2 by omega] at a1
  have a2 : 2 ^ m.log2 * 2 ^ (d + n.log2 - m.log2) ≤ m * 2 ^ (d + n.log2 - m.log2) := Nat.mul_le_mul_right _ h1
  rw [← Nat.pow_add] at a2
  have a3 : 2 ^ (d + n.log2) ≤ 2 ^ (m.log2 + (d + n.log2 - m.log2)) := Nat.pow_le_pow_right (by decide) (by omega)
  omega
theorem zeroB_fin (s : Bool) (n : Nat) (e : Int) : zeroB (.fin s n e false) = decide (n = 0) := by
  unfold zeroB; cases n <;> rfl
theorem bne_xor (s t : Bool) : (s != t) = (s ^^ t) := by cases s <;> cases t <;> rfl
theorem sq_not (m n A : Nat) : 2 * (m * 2 ^ A / n) + (!decide (m * 2 ^ A % n = 0)).toNat = sqV m n A := by
  unfold sqV
  by_cases h : m * 2 ^ A % n = 0
  · rw [decide_eq_true h, if_pos h]; rfl
  · rw [decide_eq_false h, if_neg h]; rfl
theorem sq_model (m n A : Nat) : 2 * ((m <<< A) / n) + ((m <<< A) % n != 0).toNat = sqV m n A := by
  unfold sqV
  rw [Nat.shiftLeft_eq]
  by_cases h : m * 2 ^ A % n = 0
  · rw [if_pos h, h]; rfl
  · rw [if_neg h, bne_iff_ne.2 h]; rfl
/-- Quotients. -/
theorem div_link (d d' : Ieee.Datum) : roundR (divR (datumR d) (datumR d')) = toldD (d.quotient 25 d') := by
  cases d with
  | nan s t => cases d' <;> rfl
  | infinity s =>
    cases d' with
    | nan t f => rfl
    | infinity t => rfl
    | number t n j =>
      show Ieee.single.word (s != t) 2139095040 = Ieee.single.word (s ^^ t) Ieee.single.infRung
      rw [single_inf, bne_xor]
  | number s m i =>
    cases d' with
    | nan t f => rfl
    | infinity t =>
      show roundR (.fin (s != t) 0 0 false) = Ieee.single.nearest (s ^^ t) 0 0
      rw [roundR_fin, bne_xor]
    | number t n j =>
      show roundR (divR (.fin s m i false) (.fin t n j false)) = _
      unfold divR
      dsimp only
      rw [zeroB_fin, zeroB_fin]
      simp only [decide_eq_true_eq]
      by_cases hn : n = 0
      · rw [if_pos (Or.inr hn), if_pos hn]
        by_cases hm : m = 0
        · rw [if_pos hm, show (Ieee.Datum.number s m i).quotient 25 (.number t n j) = none from by simp [Ieee.Datum.quotient, hn, hm]]; rfl
        · rw [if_neg hm, show (Ieee.Datum.number s m i).quotient 25 (.number t n j) = some (.infinity (s ^^ t)) from by simp [Ieee.Datum.quotient, hn, hm]]
          show Ieee.single.word (s != t) 2139095040 = Ieee.single.word (s ^^ t) Ieee.single.infRung
          rw [single_inf, bne_xor]
      · have em : (Ieee.Datum.number s m i).quotient 25 (.number t n j) = some (.number (s ^^ t) (sqV m n (25 + n.log2 - m.log2)) (i - j - ((25 + n.log2 - m.log2 : Nat) : Int) - 1)) := by
          rw [← sq_model]
          simp [Ieee.Datum.quotient, hn]
        rw [em]
        show _ = Ieee.single.nearest _ _ _
        rw [nearest_rung]
        by_cases hm : m = 0
        · rw [if_pos (Or.inl hm), if_neg hn, roundR_fin, nearest_rung, bne_xor]
          have z : sqV m n (25 + n.log2 - m.log2) = 0 := by unfold sqV; rw [hm, Nat.zero_mul, Nat.zero_div, Nat.zero_mod, if_pos rfl]
          rw [z]; unfold rungOf; rw [if_pos rfl, if_pos rfl]
        · rw [if_neg (by simp [hn, hm]), bne_xor]
          show Ieee.single.word _ (rungOf Ieee.single (2 * (m * 2 ^ shV m n / n) + (!decide (m * 2 ^ shV m n % n = 0)).toNat) (i - j - (shV m n : Int) - 1)) = _
          rw [sq_not]
          congr 1
          refine sq_link Ieee.single (i - j) (by omega) ?_ ?_
          · unfold shV blen
            rw [if_neg hn, if_neg hm]; omega
          · exact quo_digits hm hn (d := 25) (by omega)
end Go.Proofs.YtjjjgdpgfndbdaaDoor
/- Sums divided: rounded to odd, then once. -/
namespace Go.Proofs.YtjjjgdpgfndbdaaDoor
set_option linter.unusedVariables false
set_option linter.unusedSimpArgs false

/-- So many units divided by d, as a sample's rung. -/
def exR (V d : Nat) : Nat := rungOf Ieee.single (sqV V d 0) (-152)
theorem sqV_up (n d j A : Nat) : sqV n d (A + j) = sqV (n * 2 ^ j) d A := by
  unfold sqV
  rw [Nat.add_comm A j, Nat.pow_add, ← Nat.mul_assoc]
theorem sqV_zero (V d : Nat) : sqV V d 0 = 2 * (V / d) + if V % d = 0 then 0 else 1 := by
  unfold sqV
  rw [Nat.pow_zero, Nat.mul_one]
theorem rung_one : rungOf Ieee.single 1 (-151) = 0 := by decide +kernel
theorem ex_low {V d A : Nat} (hd : 0 < d) : rungOf Ieee.single (sqV V d A) (-152 - A) = exR V d := by
  unfold exR
  have hs : stick (sqV V d (0 + A)) (A + 1) = sqV V d 0 := sq_stick hd
  rw [Nat.zero_add] at hs
  rcases Nat.eq_zero_or_pos (V / d) with h | h
  · -- below one unit: both are rounded to nought
    have hV : V < d := by
      rcases Nat.lt_or_ge V d with g | g
      · exact g
      · exact absurd (Nat.div_pos g hd) (by omega)
    have h1 : V * 2 ^ A / d < 2 ^ A := by
      rw [Nat.div_lt_iff_lt_mul hd, Nat.mul_comm]
      exact Nat.mul_lt_mul_of_pos_left hV (Nat.two_pow_pos A)
    have h2 : sqV V d A ≤ 1 * 2 ^ (A + 1) := by
      unfold sqV
      rw [Nat.pow_succ]
      split <;> omega
    have h3 := rung_mono Ieee.single (-152 - A) h2
    rw [rung_scale, show (-152 - (A : Int) + (A + 1 : Nat)) = -151 by omega, rung_one] at h3
    have h4 : sqV V d 0 ≤ 1 * 2 ^ 1 := by
      rw [sqV_zero, h]
      split <;> omega
    have h5 := rung_mono Ieee.single (-152) h4
    rw [rung_scale, show (-152 + ((1 : Nat) : Int)) = -151 by omega, rung_one] at h5
    omega
  · have hq : 2 ^ A ≤ V * 2 ^ A / d := by
      rw [Nat.le_div_iff_mul_le hd, Nat.mul_comm]
      refine Nat.mul_le_mul_right _ ?_
      rcases Nat.lt_or_ge V d with g | g
      · rw [Nat.div_eq_of_lt g] at h; omega
      · exact g
    have h2 : 2 ^ (A + 1) ≤ sqV V d A := by
      unfold sqV
      rw [Nat.pow_succ]
      omega
    have hM : sqV V d A ≠ 0 := by have := Nat.two_pow_pos (A + 1); omega
    have hlog : A + 1 ≤ (sqV V d A).log2 := (Nat.le_log2 hM).2 h2
    have := rung_stick Ieee.single (M := sqV V d A) (k := A + 1) (-152 - A) hlog hM (by
      have := last_ge Ieee.single (sqV V d A) (-152 - A)
      rw [show Ieee.single.leastPlace = -149 by decide] at this
      omega)
    rw [hs] at this
    rw [← this]
    congr 1
    omega
/-- The document's quotient. -/
theorem ex_ref {n d A j : Nat} {e : Int} (hj : e = (j : Int) - 151) (hd : 0 < d) (hq : 2 ^ 24 ≤ n * 2 ^ A / d) : rungOf Ieee.single (sqV n d A) (e - A - 1) = exR (n * 2 ^ j) d := by
  rw [← sq_link Ieee.single (A := A + j) e hd (by omega) hq, sqV_up, ← ex_low (A := A) hd]
  congr 1
  omega
theorem top_stick (V d b : Nat) : stick (sqV V d 0) (b + 2) = if V % d = 0 ∧ V / d % 2 ^ b = 0 then V / d / 2 ^ b else 2 * (V / d / 2 ^ b / 2) + 1 := by
  rw [sqV_zero]
  generalize V / d = q
  have hr : ∃ r, (if V % d = 0 then 0 else 1) = r ∧ r ≤ 1 ∧ (r = 0 ↔ V % d = 0) := by
    by_cases h : V % d = 0
    · exact ⟨0, if_pos h, by omega, by omega⟩
    · exact ⟨1, if_neg h, by omega, by omega⟩
  obtain ⟨r, h1, h2, h3⟩ := hr
  rw [h1]
  unfold stick
  have e1 : (2 * q + r) / 2 ^ (b + 2) = q / 2 ^ b / 2 := by
    rw [show b + 2 = 1 + (b + 1) by omega, Nat.pow_add, ← Nat.div_div_eq_div_mul, show (2 * q + r) / 2 ^ 1 = q by omega, Nat.pow_succ, ← Nat.div_div_eq_div_mul]
  have e2 : (2 * q + r) % 2 ^ (b + 2) = 0 ↔ r = 0 ∧ q % 2 ^ (b + 1) = 0 := by
    rw [show 2 ^ (b + 2) = 2 * 2 ^ (b + 1) by rw [show b + 2 = b + 1 + 1 from rfl, Nat.pow_succ, Nat.mul_comm]]
    rw [Nat.mod_mul]
    have : (2 * q + r) / 2 = q := by omega
    rw [this]
    omega
  have e3 : q % 2 ^ (b + 1) = 0 ↔ q % 2 ^ b = 0 ∧ q / 2 ^ b % 2 = 0 := by
    rw [Nat.pow_succ, Nat.mod_mul]
    have hp := Nat.two_pow_pos b
    constructor
    · intro h
      have h4 : q % 2 ^ b = 0 := by omega
      rw [h4, Nat.zero_add] at h
      rcases Nat.mul_eq_zero.1 h with g | g
      · omega
      · exact ⟨h4, g⟩
    · rintro ⟨h4, h5⟩
      rw [h4, h5]
      rfl
  rw [e1]
  by_cases c : V % d = 0 ∧ q % 2 ^ b = 0
  · rw [if_pos c]
    by_cases g : q / 2 ^ b % 2 = 0
    · rw [if_pos (e2.2 ⟨h3.2 c.1, e3.2 ⟨c.2, g⟩⟩)]
      omega
    · rw [if_neg (fun h => g (e3.1 (e2.1 h).2).2)]
      omega
  · rw [if_neg c, if_neg (fun h => c ⟨h3.1 (e2.1 h).1, (e3.1 (e2.1 h).2).1⟩)]
theorem stick_low : ∀ M, M < 4 → rungOf Ieee.single (stick M 2) (-151) = rungOf Ieee.single M (-152) := by decide +kernel
theorem ex_top {V d b : Nat} (hb : b = blen (V / d) - 53) : rungOf Ieee.single (stick (sqV V d 0) (b + 2)) ((b : Int) - 151) = exR V d := by
  unfold exR
  have hz := sqV_zero V d
  rcases Nat.lt_or_ge (sqV V d 0) 4 with h | h
  · have hq : V / d < 2 := by split at hz <;> omega
    have hb0 : b = 0 := by
      have h1 := blen_le (n := V / d) (k := 1) (by omega)
      omega
    subst hb0
    exact stick_low _ h
  · have hM : sqV V d 0 ≠ 0 := by omega
    have hlog : b + 2 ≤ (sqV V d 0).log2 ∧ (b = 0 ∨ b + 53 ≤ (sqV V d 0).log2) := by
      rcases Nat.eq_zero_or_pos b with g | g
      · subst g
        exact ⟨(Nat.le_log2 hM).2 h, Or.inl rfl⟩
      · have hq : V / d ≠ 0 := by
          intro h0
          rw [h0] at hb
          unfold blen at hb
          rw [if_pos rfl] at hb
          omega
        have h1 : blen (V / d) = (V / d).log2 + 1 := if_neg hq
        have h2 : 2 ^ (V / d).log2 ≤ V / d := Nat.log2_self_le hq
        have h3 : 2 ^ ((V / d).log2 + 1) ≤ sqV V d 0 := by
          rw [Nat.pow_succ, hz]
          omega
        have h4 := (Nat.le_log2 hM).2 h3
        exact ⟨by omega, Or.inr (by omega)⟩
    have := rung_stick Ieee.single (M := sqV V d 0) (k := b + 2) (-152) hlog.1 hM (by
      have h5 := last_ge Ieee.single (sqV V d 0) (-152)
      rw [show Ieee.single.leastPlace = -149 by decide] at h5
      rcases hlog.2 with g | g
      · omega
      · unfold lastOf
        rw [show (Ieee.single.fractionBits : Int) = 23 from rfl]
        omega)
    rw [← this]
    congr 1
    omega
theorem top_lt {V d b : Nat} (hb : b = blen (V / d) - 53) : stick (sqV V d 0) (b + 2) < 2 ^ 53 := by
  have h1 := blen_lt (V / d)
  have h2 : V / d / 2 ^ b < 2 ^ 53 := by
    rw [Nat.div_lt_iff_lt_mul (Nat.two_pow_pos b), ← Nat.pow_add]
    exact Nat.lt_of_lt_of_le h1 (Nat.pow_le_pow_right (by decide) (by omega))
  rw [top_stick]
  split
  · exact h2
  · have : (2 : Nat) ^ 53 = 2 * 4503599627370496 := by decide
    omega
theorem top_pos {V d b : Nat} (hV : 0 < V) (hd : 0 < d) (hb : b = blen (V / d) - 53) : 0 < stick (sqV V d 0) (b + 2) := by
  rw [top_stick]
  split
  · rename_i h
    have hq : V / d ≠ 0 := by
      intro h0
      have := Nat.div_add_mod V d
      rw [h0, h.1, Nat.mul_zero] at this
      omega
    have h2 : 2 ^ b ≤ V / d := by
      refine Nat.le_trans (Nat.pow_le_pow_right (by decide) ?_) (Nat.log2_self_le hq)
      have h1 : blen (V / d) = (V / d).log2 + 1 := if_neg hq
      omega
    exact Nat.div_pos h2 (Nat.two_pow_pos b)
  · omega
end Go.Proofs.YtjjjgdpgfndbdaaDoor

/- Sums divided: rounded to odd, then once. -/
import Derived.Test.YtmgpaheobhfioaaDoorGb5d5ad33
import Derived.Test.YtmgpaheobhfioaaDoorGf0fb5e8b
namespace Go.Proofs.YtmgpaheobhfioaaDoor
set_option linter.unusedVariables false
set_option linter.unusedSimpArgs false

/-- So many units divided by d, as a sample's rung. -/
def exR (V d : Nat) : Nat := rungOf Ieee.single (sqV V d 0) (-152)
theorem sqV_up (n d j A : Nat) : sqV n d (A + j) = sqV (n * 2 ^ j) d A := by
  unfold sqV
  rw [Nat.add_comm A j, Nat.pow_add, ← Nat.mul_assoc]
theorem sqV_zero (V d : Nat) : sqV V d 0 = 2 * (V / d) + if V % d = 0 then 0 else 1 := by
  unfold sqV
  rw [Nat.pow_zero, Nat.mul_one]
theorem rung_one : rungOf Ieee.single 1 (-151) = 0 := by decide +kernel
theorem ex_low {V d A : Nat} (hd : 0 < d) : rungOf Ieee.single (sqV V d A) (-152 - A) = exR V d := by
  unfold exR
  have hs : stick (sqV V d (0 + A)) (A + 1) = sqV V d 0 := sq_stick hd
  rw [Nat.zero_add] at hs
  rcases Nat.eq_zero_or_pos (V / d) with h | h
  · -- below one unit: both are rounded to nought
    have hV : V < d := by
      rcases Nat.lt_or_ge V d with g | g
      · exact g
      · exact absurd (Nat.div_pos g hd) (by omega)
    have h1 : V * 2 ^ A / d < 2 ^ A := by
      rw [Nat.div_lt_iff_lt_mul hd, Nat.mul_comm]
      exact Nat.mul_lt_mul_of_pos_left hV (Nat.two_pow_pos A)
    have h2 : sqV V d A ≤ 1 * 2 ^ (A + 1) := by
      unfold sqV
      rw [Nat.pow_succ]
      split <;> omega
    have h3 := rung_mono Ieee.single (-152 - A) h2
    rw [rung_scale, show (-152 - (A : Int) + (A + 1 : Nat)) = -151 by omega, rung_one] at h3
    have h4 : sqV V d 0 ≤ 1 * 2 ^ 1 := by
      rw [sqV_zero, h]
      split <;> omega
    have h5 := rung_mono Ieee.single (-152) h4
    rw [rung_scale, show (-152 + ((1 : Nat) : Int)) = -151 by omega, rung_one] at h5
    omega
  · have hq : 2 ^ A ≤ V * 2 ^ A / d := by
      rw [Nat.le_div_iff_mul_le hd, Nat.mul_comm]
      refine Nat.mul_le_mul_right _ ?_
      rcases Nat.lt_or_ge V d with g | g
      · rw [Nat.div_eq_of_lt g] at h; omega
      · exact g
    have h2 : 2 ^ (A + 1) ≤ sqV V d A := by
      unfold sqV
      rw [Nat.pow_succ]
      omega
    have hM : sqV V d A ≠ 0 := by have := Nat.two_pow_pos (A + 1); omega
    have hlog : A + 1 ≤ (sqV V d A).log2 := (Nat.le_log2 hM).2 h2
    have := rung_stick Ieee.single (M := sqV V d A) (k := A + 1) (-152 - A) hlog hM (by
      have := last_ge Ieee.single (sqV V d A) (-152 - A)
      rw [show Ieee.single.leastPlace = -149 by decide] at this
      omega)
    rw [hs] at this
    rw [← this]
    congr 1
    omega
/-- The document's quotient. -/
theorem ex_ref {n d A j : Nat} {e : Int} (hj : e = (j : Int) - 151) (hd : 0 < d) (hq : 2 ^ 24 ≤ n * 2 ^ A / d) : rungOf Ieee.single (sqV n d A) (e - A - 1) = exR (n * 2 ^ j) d := by
  rw [← sq_link Ieee.single (A := A + j) e hd (by omega) hq, sqV_up, ← ex_low (A := A) hd]
  congr 1
  omega
theorem top_stick (V d b : Nat) : stick (sqV V d 0) (b + 2) = if V % d = 0 ∧ V / d % 2 ^ b = 0 then V / d / 2 ^ b else 2 * (V / d / 2 ^ b / 2) + 1 := by
  rw [sqV_zero]
  generalize V / d = q
  have hr : ∃ r, (if V % d = 0 then 0 else 1) = r ∧ r ≤ 1 ∧ (r = 0 ↔ V % d = 0) := by
    by_cases h : V % d = 0
    · exact ⟨0, if_pos h, by omega, by omega⟩
    · exact ⟨1, if_neg h, by omega, by omega⟩
  obtain ⟨r, h1, h2, h3⟩ := hr
  rw [h1]
  unfold stick
  have e1 : (2 * q + r) / 2 ^ (b + 2) = q / 2 ^ b / 2 := by
    rw [show b + 2 = 1 + (b + 1) by omega, Nat.pow_add, ← Nat.div_div_eq_div_mul, show (2 * q + r) / 2 ^ 1 = q by omega, Nat.pow_succ, ← Nat.div_div_eq_div_mul]
  have e2 : (2 * q + r) % 2 ^ (b + 2) = 0 ↔ r = 0 ∧ q % 2 ^ (b + 1) = 0 := by
    rw [show 2 ^ (b + 2) = 2 * 2 ^ (b + 1) by rw [show b + 2 = b + 1 + 1 from rfl, Nat.pow_succ, Nat.mul_comm]]
    rw [Nat.mod_mul]
    have : (2 * q + r) / 2 = q := by omega
    rw [this]
    omega
  have e3 : q % 2 ^ (b + 1) = 0 ↔ q % 2 ^ b = 0 ∧ q / 2 ^ b % 2 = 0 := by
    rw [Nat.pow_succ, Nat.mod_mul]
    have hp := Nat.two_pow_pos b
    constructor
    · intro h
      have h4 : q % 2 ^ b = 0 := by omega
      rw [h4, Nat.zero_add] at h
      rcases Nat.mul_eq_zero.1 h with g | g
      · omega
      · exact ⟨h4, g⟩
    · rintro ⟨h4, h5⟩
      rw [h4, h5]
      rfl
  rw [e1]
  by_cases c : V % d = 0 ∧ q % 2 ^ b = 0
  · rw [if_pos c]
    by_cases g : q / 2 ^ b % 2 = 0
    · rw [if_pos (e2.2 ⟨h3.2 c.1, e3.2 ⟨c.2, g⟩⟩)]
      omega
    · rw [if_neg (fun h => g (e3.1 (e2.1 h).2).2)]
      omega
  · rw [if_neg c, if_neg (fun h => c ⟨h3.1 (e2.1 h).1, (e3.1 (e2.1 h).2).1⟩)]
theorem stick_low : ∀ M, M < 4 → rungOf Ieee.single (stick M 2) (-151) = rungOf Ieee.single M (-152) := by decide +kernel
theorem ex_top {V d b : Nat} (hb : b = blen (V / d) - 53) : rungOf Ieee.single (stick (sqV V d 0) (b + 2)) ((b : Int) - 151) = exR V d := by
  unfold exR
  have hz := sqV_zero V d
  rcases Nat.lt_or_ge (sqV V d 0) 4 with h | h
  · have hq : V / d < 2 := by split at hz <;> omega
    have hb0 : b = 0 := by
      have h1 := blen_le (n := V / d) (k := 1) (by omega)
      omega
    subst hb0
    exact stick_low _ h
  · have hM : sqV V d 0 ≠ 0 := by omega
    have hlog : b + 2 ≤ (sqV V d 0).log2 ∧ (b = 0 ∨ b + 53 ≤ (sqV V d 0).log2) := by
      rcases Nat.eq_zero_or_pos b with g | g
      · subst g
        exact ⟨(Nat.le_log2 hM).2 h, Or.inl rfl⟩
      · have hq : V / d ≠ 0 := by
          intro h0
          rw [h0] at hb
          unfold blen at hb
          rw [if_pos rfl] at hb
          omega
        have h1 : blen (V / d) = (V / d).log2 + 1 := if_neg hq
        have h2 : 2 ^ (V / d).log2 ≤ V / d := Nat.log2_self_le hq
        have h3 : 2 ^ ((V / d).log2 + 1) ≤ sqV V d 0 := by
          rw [Nat.pow_succ, hz]
          omega
        have h4 := (Nat.le_log2 hM).2 h3
        exact ⟨by omega, Or.inr (by omega)⟩
    have := rung_stick Ieee.single (M := sqV V d 0) (k := b + 2) (-152) hlog.1 hM (by
      have h5 := last_ge Ieee.single (sqV V d 0) (-152)
      rw [show Ieee.single.leastPlace = -149 by decide] at h5
      rcases hlog.2 with g | g
      · omega
      · unfold lastOf
        rw [show (Ieee.single.fractionBits : Int) = 23 from rfl]
        omega)
    rw [← this]
    congr 1
    omega
theorem top_lt {V d b : Nat} (hb : b = blen (V / d) - 53) : stick (sqV V d 0) (b + 2) < 2 ^ 53 := by
  have h1 := blen_lt (V / d)
  have h2 : V / d / 2 ^ b < 2 ^ 53 := by
    rw [Nat.div_lt_iff_lt_mul (Nat.two_pow_pos b), ← Nat.pow_add]
    exact Nat.lt_of_lt_of_le h1 (Nat.pow_le_pow_right (by decide) (by omega))
  rw [top_stick]
  split
  · exact h2
  · have : (2 : Nat) ^ 53 = 2 * 4503599627370496 := by decide
    omega
theorem top_pos {V d b : Nat} (hV : 0 < V) (hd : 0 < d) (hb : b = blen (V / d) - 53) : 0 < stick (sqV V d 0) (b + 2) := by
  rw [top_stick]
  split
  · rename_i h
    have hq : V / d ≠ 0 := by
      intro h0
      have := Nat.div_add_mod V d
      rw [h0, h.1, Nat.mul_zero] at this
      omega
    have h2 : 2 ^ b ≤ V / d := by
      refine Nat.le_trans (Nat.pow_le_pow_right (by decide) ?_) (Nat.log2_self_le hq)
      have h1 : blen (V / d) = (V / d).log2 + 1 := if_neg hq
      omega
    exact Nat.div_pos h2 (Nat.two_pow_pos b)
  · omega
end Go.Proofs.YtmgpaheobhfioaaDoor

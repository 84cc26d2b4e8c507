/- Plain facts on whole numbers: a number times a power of two, in the one form that a sample holds. -/
import Derived.Test.YtemfgmnindikfaaMath
namespace Go.Proofs.Ytemfgmnindikfaa
open Go.RowKit

/-- Halve while it is even. -/
def halve : Nat → Int → Int → Int × Int
  | 0, m, e => (m, e)
  | f + 1, m, e => if m % 2 = 0 then halve f (m / 2) (e + 1) else (m, e)
/-- Double while it is below 2^23 and the power is above the least. -/
def up : Nat → Int → Int → Int × Int
  | 0, m, e => (m, e)
  | f + 1, m, e => if m < 8388608 ∧ -149 < e then up f (2 * m) (e - 1) else (m, e)

theorem halve_odd (f : Nat) (m e : Int) (h : m % 2 ≠ 0) : halve f m e = (m, e) := by
  cases f with
  | zero => rfl
  | succ f => unfold halve; rw [if_neg h]
theorem halve_even (f : Nat) (m e : Int) (h : m % 2 = 0) : halve (f + 1) m e = halve f (m / 2) (e + 1) := by
  rw [halve, if_pos h]
/-- What the halving comes to. -/
theorem halve_spec (f : Nat) : ∀ (m e : Int), 0 < m → m < 2 ^ f → ∃ (o : Int) (k : Nat), halve f m e = (o, e + k) ∧ m = o * 2 ^ k ∧ o % 2 = 1 ∧ 0 < o := by
  induction f with
  | zero => intro m e h0 h1; simp at h1; omega
  | succ f ih =>
    intro m e h0 h1
    by_cases h : m % 2 = 0
    · rw [halve_even f m e h]
      have hp : (2 : Int) ^ (f + 1) = 2 ^ f * 2 := Int.pow_succ 2 f
      rw [hp] at h1
      generalize (2 : Int) ^ f = p at h1 ih
      obtain ⟨o, k, e1, e2, e3, e4⟩ := ih (m / 2) (e + 1) (by omega) (by omega)
      refine ⟨o, k + 1, ?_, ?_, e3, e4⟩
      · rw [e1]; congr 1; omega
      · rw [Int.pow_succ]
        generalize (2 : Int) ^ k = q at e2
        have : o * (q * 2) = o * q * 2 := by rw [Int.mul_assoc]
        rw [this, ← e2]; omega
    · exact ⟨m, 0, by rw [halve_odd _ _ _ h]; simp, by simp, by omega, h0⟩

theorem up_stop (f : Nat) (m e : Int) (h : ¬ (m < 8388608 ∧ -149 < e)) : up f m e = (m, e) := by
  cases f with
  | zero => rfl
  | succ f => unfold up; rw [if_neg h]
theorem up_step (f : Nat) (m e : Int) (h : m < 8388608 ∧ -149 < e) : up (f + 1) m e = up f (2 * m) (e - 1) := by
  rw [up, if_pos h]
/-- Enough rounds are enough. -/
theorem up_enough (f : Nat) : ∀ (g : Nat) (m e : Int), 0 < m → 8388608 ≤ m * 2 ^ f → 8388608 ≤ m * 2 ^ g → up f m e = up g m e := by
  induction f with
  | zero =>
    intro g m e _ h1 _
    rw [up_stop g m e (by simp at h1; omega)]; rfl
  | succ f ih =>
    intro g m e h0 h1 h2
    by_cases c : m < 8388608 ∧ -149 < e
    · cases g with
      | zero => simp at h2; omega
      | succ g =>
        rw [up_step f m e c, up_step g m e c]
        refine ih g (2 * m) (e - 1) (by omega) ?_ ?_
        · have : 2 * m * 2 ^ f = m * 2 ^ (f + 1) := by rw [Int.pow_succ, Int.mul_comm 2 m, Int.mul_assoc, Int.mul_comm 2]
          omega
        · have : 2 * m * 2 ^ g = m * 2 ^ (g + 1) := by rw [Int.pow_succ, Int.mul_comm 2 m, Int.mul_assoc, Int.mul_comm 2]
          omega
    · rw [up_stop _ _ _ c, up_stop _ _ _ c]
/-- Doubling goes through every form between. -/
theorem up_through (k : Nat) : ∀ (f : Nat) (o e : Int), 0 < o → o * 2 ^ k < 16777216 → -149 ≤ e → up (f + k) o (e + k) = up f (o * 2 ^ k) e := by
  induction k with
  | zero => intro f o e _ _ _; simp
  | succ k ih =>
    intro f o e h0 h1 h2
    have hp : o * 2 ^ (k + 1) = o * 2 ^ k * 2 := by rw [Int.pow_succ, Int.mul_assoc]
    have h3 : (1 : Int) ≤ 2 ^ k := Int.pow_pos (by decide)
    have h4 : o ≤ o * 2 ^ k := by
      have := Int.mul_le_mul_of_nonneg_left h3 (Int.le_of_lt h0); omega
    have e1 : f + (k + 1) = (f + k) + 1 := by omega
    rw [e1, up_step (f + k) o _ (by omega)]
    have e2 : o * 2 ^ (k + 1) = 2 * o * 2 ^ k := by rw [hp, Int.mul_comm 2 o, Int.mul_assoc, Int.mul_comm (2 ^ k), Int.mul_assoc]
    have e3 : e + ((k + 1 : Nat) : Int) - 1 = e + k := by omega
    rw [e3, e2]
    exact ih f (2 * o) e (by omega) (by rw [← e2]; exact h1) h2
/-- Where it ends. -/
theorem up_spec (f : Nat) : ∀ (m e : Int), 0 < m → m < 16777216 → -149 ≤ e → 8388608 ≤ m * 2 ^ f → ∃ (m' : Int) (k : Nat), up f m e = (m', e - k) ∧ m' = m * 2 ^ k ∧ m' < 16777216 ∧ 0 < m' ∧ -149 ≤ e - k ∧ (8388608 ≤ m' ∨ e - k = -149) := by
  induction f with
  | zero => intro m e h0 h1 h2 h3; exact ⟨m, 0, by simp [up], by simp, h1, h0, by omega, by simp at h3; omega⟩
  | succ f ih =>
    intro m e h0 h1 h2 h3
    by_cases c : m < 8388608 ∧ -149 < e
    · rw [up_step f m e c]
      obtain ⟨m', k, e1, e2, e3, e4, e5, e6⟩ := ih (2 * m) (e - 1) (by omega) (by omega) (by omega) (by
        have : 2 * m * 2 ^ f = m * 2 ^ (f + 1) := by rw [Int.pow_succ, Int.mul_comm 2 m, Int.mul_assoc, Int.mul_comm 2]
        omega)
      refine ⟨m', k + 1, ?_, ?_, e3, e4, by omega, by omega⟩
      · rw [e1]; congr 1; omega
      · rw [e2, Int.pow_succ, Int.mul_comm 2 m, Int.mul_assoc, Int.mul_comm 2]
    · exact ⟨m, 0, by rw [up_stop _ _ _ c]; simp, by simp, h1, h0, by omega, by omega⟩

/-- The form of a number m > 0 times 2^e: nothing, or its size and its power. -/
def fitV (m e : Int) : Option (Int × Int) :=
  if 16777216 ≤ (halve 64 m e).1 ∨ (halve 64 m e).2 < -149 ∨ 127 < (halve 64 m e).2 then none
  else if 104 < (up 24 (halve 64 m e).1 (halve 64 m e).2).2 then none
  else some (up 24 (halve 64 m e).1 (halve 64 m e).2)

theorem pow_24 (o : Int) (h : 0 < o) : 8388608 ≤ o * 2 ^ 24 := by
  have : (2 : Int) ^ 24 = 16777216 := by decide
  rw [this]; omega

/-- A sample's bits. -/
def sampleV (neg : Bool) (m e : Int) : Int := (if neg = true then 2147483648 else 0) + (if m < 8388608 then m else (e + 150) * 8388608 + m - 8388608)
def fpV (n e : Int) : Int := if n = 0 then 0 else match fitV n.natAbs e with | none => 0 | some x => sampleV (decide (n < 0)) x.1 x.2
def fpB (n e : Int) : Bool := if n = 0 then true else (fitV n.natAbs e).isSome

/-- What fits lies within bounds. -/
theorem fitV_bd {m e m' e' : Int} (h0 : 0 < m) (h1 : m < 2 ^ 64) (h : fitV m e = some (m', e')) : 0 < m' ∧ m' < 16777216 ∧ -149 ≤ e' ∧ e' ≤ 104 ∧ (8388608 ≤ m' ∨ e' = -149) := by
  obtain ⟨o, k, e1, e2, e3, e4⟩ := halve_spec 64 m e h0 h1
  unfold fitV at h
  rw [e1] at h
  simp only at h
  by_cases c : 16777216 ≤ o ∨ e + ↑k < -149 ∨ 127 < e + ↑k
  · rw [if_pos c] at h; cases h
  rw [if_neg c] at h
  obtain ⟨x, j, f1, f2, f3, f4, f5, f6⟩ := up_spec 24 o (e + k) e4 (by omega) (by omega) (pow_24 o e4)
  rw [f1] at h
  simp only at h
  by_cases d : 104 < e + ↑k - ↑j
  · rw [if_pos d] at h; cases h
  rw [if_neg d] at h
  have h' := Option.some.inj h
  have g1 : x = m' := congrArg Prod.fst h'
  have g2 : e + ↑k - ↑j = e' := congrArg Prod.snd h'
  omega

/-- The program's halving has come to an odd number that is too long or too fine: nothing fits. -/
theorem fit_odd {m0 e0 m e : Int} {g : Nat} (hh : halve g m e = halve 64 m0 e0) (ho : m % 2 ≠ 0) (hc : 16777216 ≤ m ∨ e < -149) : fitV m0 e0 = none := by
  rw [halve_odd g m e ho] at hh
  unfold fitV
  rw [← hh]
  rw [if_pos]
  rcases hc with h | h
  · exact Or.inl h
  · exact Or.inr (Or.inl h)
/-- A power above 127 fits nothing. -/
theorem fit_great {m0 e0 : Int} (h0 : 0 < m0) (h1 : m0 < 2 ^ 64) (h : 127 < e0) : fitV m0 e0 = none := by
  obtain ⟨o, k, e1, _, _, _⟩ := halve_spec 64 m0 e0 h0 h1
  unfold fitV
  rw [e1, if_pos]
  exact Or.inr (Or.inr (by show 127 < e0 + (k : Int); omega))
/-- The program's doubling begins where the halving stopped. -/
theorem fit_halved {m0 e0 m e : Int} {g : Nat} (hh : halve g m e = halve 64 m0 e0) (h0 : 0 < m) (h1 : m < 2 ^ g) (hm : m < 16777216) (he : -149 ≤ e) :
    fitV m0 e0 = if 104 < (up 24 m e).2 then none else some (up 24 m e) := by
  obtain ⟨o, k, e1, e2, e3, e4⟩ := halve_spec g m e h0 h1
  have hk : (1 : Int) ≤ 2 ^ k := Int.pow_pos (by decide)
  have ho : o ≤ o * 2 ^ k := by have := Int.mul_le_mul_of_nonneg_left hk (Int.le_of_lt e4); omega
  have hu : up 24 o (e + k) = up 24 m e := by
    rw [up_enough 24 (24 + k) o (e + k) e4 (pow_24 o e4) (by rw [Int.pow_add]; have := pow_24 o e4; have h5 : o * 2 ^ 24 ≤ o * 2 ^ 24 * 2 ^ k := by { have := Int.mul_le_mul_of_nonneg_left hk (show 0 ≤ o * 2 ^ 24 by omega); omega }; rw [Int.mul_assoc] at h5; omega)]
    rw [up_through k 24 o e e4 (by omega) he, e2]
  unfold fitV
  rw [← hh, e1]
  simp only
  rw [hu]
  by_cases c : 127 < e + ↑k
  · rw [if_pos (Or.inr (Or.inr c))]
    obtain ⟨x, j, f1, f2, f3, f4, f5, f6⟩ := up_spec 24 o (e + k) e4 (by omega) (by omega) (pow_24 o e4)
    rw [hu] at f1
    have hj : j ≤ 23 := by
      rcases Nat.lt_or_ge j 24 with h | h
      · omega
      · exfalso
        have : (2 : Int) ^ 24 ≤ 2 ^ j := by
          have := Nat.pow_le_pow_right (n := 2) (by decide) h
          exact_mod_cast this
        have h6 : (2 : Int) ^ 24 = 16777216 := by decide
        have h7 : 1 * (2 : Int) ^ j ≤ o * 2 ^ j := Int.mul_le_mul_of_nonneg_right (by omega) (by omega)
        omega
    rw [f1, if_pos]
    show 104 < e + (k : Int) - (j : Int)
    omega
  · rw [if_neg (by omega)]
end Go.Proofs.Ytemfgmnindikfaa

/- What the reference's Bits, Compare and Times return of whole numbers in memory. -/
import Derived.Test.YtieojgblamkgoaaGreatDoorG48a8b647
import Derived.RegionTactic
import Derived.ChangeAlike
namespace Go.Proofs.YtieojgblamkgoaaGreatDoor
open Go.RowKit

/-- How many bits a number has. -/
def blen (n : Nat) : Nat := if n = 0 then 0 else n.log2 + 1
theorem blen_half {n : Nat} (h : 0 < n) : blen (n / 2) + 1 = blen n := by
  unfold blen
  rw [if_neg (by omega : ¬ n = 0)]
  by_cases h1 : n = 1
  · subst h1; decide
  · rw [if_neg (by omega : ¬ n / 2 = 0)]
    rw [Nat.log2_def n, if_pos (by omega)]
theorem blen_lt (n : Nat) : n < 2 ^ blen n := by
  unfold blen
  by_cases h : n = 0
  · rw [if_pos h, h]; decide
  · rw [if_neg h]; exact Nat.lt_log2_self
theorem blen_le {n k : Nat} (h : n < 2 ^ k) : blen n ≤ k := by
  unfold blen
  by_cases h0 : n = 0
  · rw [if_pos h0]; omega
  · rw [if_neg h0]
    exact (Nat.log2_lt h0).2 h
theorem blen_shift (n k : Nat) (h : 2 ^ k ≤ n) : blen n = k + blen (n / 2 ^ k) := by
  have hp := Nat.two_pow_pos k
  have h1 : n / 2 ^ k ≠ 0 := by
    have := (Nat.le_div_iff_mul_le hp).2 (show 1 * 2 ^ k ≤ n by omega)
    omega
  unfold blen
  rw [if_neg (by omega), if_neg h1]
  have : n.log2 = k + (n / 2 ^ k).log2 := by
    refine (Nat.log2_eq_iff (by omega)).2 ⟨?_, ?_⟩
    · have := Nat.log2_self_le h1
      rw [Nat.le_div_iff_mul_le hp, ← Nat.pow_add, Nat.add_comm] at this
      exact this
    · have : n / 2 ^ k < 2 ^ ((n / 2 ^ k).log2 + 1) := Nat.lt_log2_self
      rw [Nat.div_lt_iff_lt_mul hp, ← Nat.pow_add] at this
      rw [show k + (n / 2 ^ k).log2 + 1 = (n / 2 ^ k).log2 + 1 + k by omega]
      exact this
  omega

end Go.Proofs.YtieojgblamkgoaaGreatDoor
/- What the reference's Minus, NatOf, Low and Bit return of whole numbers in memory. -/
namespace Go.Proofs.YtieojgblamkgoaaGreatDoor
open Go.RowKit

end Go.Proofs.YtieojgblamkgoaaGreatDoor
/- What the reference's Up returns: a whole number in memory times a power of two. -/
namespace Go.Proofs.YtieojgblamkgoaaGreatDoor
open Go.RowKit

end Go.Proofs.YtieojgblamkgoaaGreatDoor
/- What the reference's Down returns of a whole number in memory: it shifted down, and whether something was left. -/
namespace Go.Proofs.YtieojgblamkgoaaGreatDoor
open Go.RowKit

end Go.Proofs.YtieojgblamkgoaaGreatDoor

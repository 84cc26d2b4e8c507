/- What is said of borders without the document's answer. -/
import Derived.Test.YtkgfohodahkmmaaPlP
namespace Go.Proofs.Ytkgfohodahkmmaa
open Go.RowKit
set_option linter.unusedVariables false
set_option linter.unusedSimpArgs false

theorem borA_ok {k n : Int} (i : Int) (hk : k = 1 ∨ k = 2 ∨ k = 3) (hn : 1 ≤ n ∧ n ≤ 1024) : borA k n i = borV k n i ∧ borE k n = 0 := by
  unfold borA borE
  rw [if_pos hk, if_pos hk, if_pos (sideB_true.2 hn), if_pos (sideB_true.2 hn)]
  exact ⟨rfl, rfl⟩
theorem border_ok (k n i : Int) (hk : k = 1 ∨ k = 2 ∨ k = 3) (hn : 1 ≤ n ∧ n ≤ 1024) (w : World) : Calls Try.prog 32 #[.int .i64 k, .int .i64 n, .int .i64 i] w fun e w' => e = .returned (.tuple #[.int .i64 (borV k n i), .int .i64 0]) ∧ w' = w := by
  have := border_any k n i w
  rw [(borA_ok i hk hn).1, (borA_ok i hk hn).2] at this
  exact this
theorem borV_in {k n i : Int} (hk : k = 1 ∨ k = 2 ∨ k = 3) (h0 : 0 ≤ i) (h1 : i < n) : borV k n i = i := by
  rcases hk with rfl | rfl | rfl
  · show claV n i = i
    unfold claV
    rw [if_neg (by omega), if_pos h1]
  · show mirV n i = i
    unfold mirV
    by_cases h : n = 1
    · rw [if_pos h]; omega
    · rw [if_neg h]
      have e : i % (2 * (n - 1)) = i := Int.emod_eq_of_lt h0 (by omega)
      rw [e, if_pos h1]
  · show i % n = i
    exact Int.emod_eq_of_lt h0 h1
theorem borV_wrap (n i : Int) : borV 3 n (i + n) = borV 3 n i := by
  show (i + n) % n = i % n
  exact Int.add_emod_right _ _
theorem borV_mir (n i : Int) : borV 2 n (i + 2 * (n - 1)) = borV 2 n i := by
  show mirV n _ = mirV n i
  unfold mirV
  rw [Int.add_emod_right]
theorem borV_neg (n i : Int) (hn : 1 ≤ n) : borV 2 n (-i) = borV 2 n i := by
  show mirV n _ = mirV n i
  unfold mirV
  by_cases h : n = 1
  · rw [if_pos h, if_pos h]
  · rw [if_neg h, if_neg h]
    obtain ⟨t, ht⟩ : ∃ t, 2 * (n - 1) = t := ⟨_, rfl⟩
    rw [ht]
    have t0 : 0 < t := by omega
    have a1 := Int.emod_nonneg i (show t ≠ 0 by omega)
    have a2 := Int.emod_lt_of_pos i t0
    have b1 := Int.emod_nonneg (-i) (show t ≠ 0 by omega)
    have b2 := Int.emod_lt_of_pos (-i) t0
    have hs : (i % t + (-i) % t) % t = 0 := by
      rw [← Int.add_emod]
      rw [Int.add_right_neg, Int.zero_emod]
    generalize i % t = m at *
    generalize (-i) % t = m' at *
    have hc : m + m' = 0 ∨ m + m' = t := by
      rcases Int.lt_or_le (m + m') t with g | g
      · left; rw [Int.emod_eq_of_lt (by omega) g] at hs; exact hs
      · right
        have : (m + m') % t = m + m' - t := by
          have e : (m + m' - t) % t = (m + m') % t := Int.sub_emod_right _ _
          rw [← e]
          exact Int.emod_eq_of_lt (by omega) (by omega)
        omega
    split <;> split <;> omega
end Go.Proofs.Ytkgfohodahkmmaa

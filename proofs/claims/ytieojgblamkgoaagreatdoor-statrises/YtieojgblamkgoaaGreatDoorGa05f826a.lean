/- Borders: the program's and the document's; the document's Size and Check. -/
import Derived.Test.YtieojgblamkgoaaGreatDoorGf88f0262
import Derived.Shelf.Abstract
namespace Go.Proofs.YtieojgblamkgoaaGreatDoor
open Go.RowKit
set_option linter.unusedVariables false
set_option linter.unusedSimpArgs false

def claV (n i : Int) : Int := if i < 0 then 0 else if i < n then i else n - 1
def mirV (n i : Int) : Int := if n = 1 then 0 else if i % (2 * (n - 1)) < n then i % (2 * (n - 1)) else 2 * (n - 1) - i % (2 * (n - 1))
/-- The place within, for one beyond. -/
def borV (k n i : Int) : Int := if k = 1 then claV n i else if k = 2 then mirV n i else i % n
theorem borV_lt {k n : Int} (i : Int) (hn : 1 ≤ n) : 0 ≤ borV k n i ∧ borV k n i < n := by
  unfold borV claV mirV
  split
  · split
    · omega
    · split <;> omega
  · split
    · split
      · omega
      · have h1 := Int.emod_nonneg i (show 2 * (n - 1) ≠ 0 by omega)
        have h2 := Int.emod_lt_of_pos i (show 0 < 2 * (n - 1) by omega)
        split <;> omega
    · exact ⟨Int.emod_nonneg i (by omega), Int.emod_lt_of_pos i (by omega)⟩
/-- What Border answers. -/
def borE (k n : Int) : Int := if k = 1 ∨ k = 2 ∨ k = 3 then (if sideB n = true then 0 else 50) else 53
def borA (k n i : Int) : Int := if k = 1 ∨ k = 2 ∨ k = 3 then (if sideB n = true then borV k n i else 0) else 0
end Go.Proofs.YtieojgblamkgoaaGreatDoor
/- The document's Size, Check and Border. -/
namespace Go.Proofs.YtieojgblamkgoaaGreatDoor
open Go.RowKit
theorem tmod_twice (i n : Int) (hn : 0 < n) : Int.tmod (Int.tmod i n + n) n = i % n := by
  obtain ⟨h1, h2, h3, h4⟩ := tmod_mod i n hn
  rw [Int.tmod_eq_emod_of_nonneg (by omega), Int.add_emod_right]
  by_cases h : Int.tmod i n < 0
  · have := h2 h
    have l := Int.emod_nonneg i (show n ≠ 0 by omega)
    rw [← Int.add_emod_right, this, Int.emod_emod]
  · rw [h1 (by omega), Int.emod_emod]
end Go.Proofs.YtieojgblamkgoaaGreatDoor

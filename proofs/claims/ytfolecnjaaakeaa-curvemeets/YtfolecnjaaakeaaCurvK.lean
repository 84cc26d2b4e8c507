/- The examples of the chapter. -/
import Derived.Test.YtfolecnjaaakeaaCurvS
namespace Go.Proofs.Ytfolecnjaaakeaa
open Go.RowKit

def lk : List (Nat × Nat) := [(0, 0), (1065353216, 1056964608), (1073741824, 1082130432)]
theorem lk_lt (i : Nat) : kx lk i < 4294967296 ∧ ky lk i < 4294967296 := by
  match i with
  | 0 => decide
  | 1 => decide
  | 2 => decide
  | i + 3 => exact ⟨by show 0 < _; decide, by show 0 < _; decide⟩
theorem lk_1 : atV lk 1056964608 = 1048576000 := by decide +kernel
theorem lk_2 : atV lk 1069547520 = 1074790400 := by decide +kernel
theorem lk_3 : atV lk 3212836864 = 0 := by decide +kernel
theorem lk_4 : atV lk 2139095041 = 2143289344 := by decide +kernel
theorem lk_5 : lpX (atV lk) 0 1073741824 1048576000 = 1056964608 := by decide +kernel
theorem lk_6 : lpB (atV lk) 0 1073741824 1048576000 = 1056964607 := by decide +kernel
theorem lk_7 : lpH (atV lk) 0 1073741824 1048576000 = true := by decide +kernel
theorem lk_8 : lpE (atV lk) 1073741824 1048576000 = 0 := by decide +kernel
theorem lk_9 : lpE (atV lk) 1073741824 1084227584 = 43 := by decide +kernel
theorem lk_10 : checkB (atV lk) 0 1073741824 1048576000 1056964608 1056964607 true = true := by decide +kernel
theorem lk_ok : Good lk := by
  refine ⟨by decide, by decide, fun i hi => ?_, fun i hi => ?_⟩
  · match i, hi with
    | 0, _ => decide +kernel
    | 1, _ => decide +kernel
    | 2, _ => decide +kernel
    | i + 3, h => exact absurd h (by show ¬ (i + 3 < 3); omega)
  · match i, hi with
    | 0, _ => decide +kernel
    | 1, _ => decide +kernel
    | i + 2, h => exact absurd h (by show ¬ (i + 2 < 2); omega)
theorem lk_n {r : Int} : ¬ Bad lk r := by
  obtain ⟨h1, h2, h3, h4⟩ := lk_ok
  rintro (⟨h, _⟩ | ⟨_, _, h, _⟩ | ⟨_, _, _, h, _⟩)
  · omega
  · exact h h3
  · exact h h4
end Go.Proofs.Ytfolecnjaaakeaa

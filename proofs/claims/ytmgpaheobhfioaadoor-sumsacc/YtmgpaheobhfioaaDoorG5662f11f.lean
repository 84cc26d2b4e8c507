/- The table of math/bits, as the program's text lays it (beside planes that come in). -/
import Derived.Test.YtmgpaheobhfioaaDoorG24259f96
import Derived.Test.YtmgpaheobhfioaaDoorGeae719cd
import Derived.Lib.LaidTab
import Derived.LaidMore
import Derived.Stop.Joined
import Derived.Handy
import Derived.Lay
namespace Go.Proofs.YtmgpaheobhfioaaDoor
open Go.ChangeShapes Go.WideShapes Go.ChangeAt Go.RowKit Go.Deep
set_option linter.unusedVariables false

def laid1 : List (String × DataW Unit) := [("math/bits.deBruijn64tab", Rows.laid_math_bits_deBruijn64tab)]
def tabZ : List Int := Lib.deBruijn64tab.map fun (n : Nat) => (n : Int)
theorem tab_data : (Rows.laid_math_bits_deBruijn64tab : DataW Unit) = Lib.tabData .u8 tabZ := by rfl
theorem tab_named : Tryd.prog.globalNamed "math/bits.deBruijn64tab" = some 3 := by kernel_rfl
theorem tab_type : (Tryd.prog.globals[3]?).map (·.type) = some 123 := by kernel_rfl
theorem tab_of_laid {W : World} (h : laidMetH Tryd.prog laid1 W) : Tab W := by
  unfold laid1 at h
  rw [MakeChecks.laidMetH_plain _ _ _ (by kernel_rfl)] at h
  obtain ⟨ps, ⟨g0, t0, cs0, f0, p0, q0, hg0, ht0, hv0, hd0, _, _⟩, _, _⟩ := h
  obtain rfl := Option.some.inj (tab_named.symm.trans hg0)
  obtain rfl := Option.some.inj (tab_type.symm.trans ht0)
  rw [tab_data] at hd0
  have hcs := Lib.cells_of_tab Tryd.underlying123 Tryd.underlying5 (by kernel_rfl) (by kernel_rfl) hd0
  intro j hj
  rw [World.var?_cell hg0 hv0 j, ← Array.getElem?_toList, hcs]
  unfold tabZ
  rw [List.getElem?_map, List.getElem?_map, List.getElem?_eq_getElem hj, List.getD_eq_getElem?_getD, List.getElem?_eq_getElem hj]
  rfl
end Go.Proofs.YtmgpaheobhfioaaDoor

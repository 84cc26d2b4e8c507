/-
  DERIVED. GIVEN WITH THE SEED: THE CARDS: each row of YtjjjgdpgfndbdaaDoorRows.lean that lists a variable, with what it lists TIED to the program's text (the seventh form; the later family's looks); each row that meets fmt, with fmt's text TOLD by the authors' own Lean function (tested against real Go, not proved from fmt's source: count such statements apart). THE CARD IS WHAT COUNTS. Prove the row's statement (the work); the ties are given (YtjjjgdpgfndbdaaDoorTie.lean); close each card by the builder's one call (the guide's Derived/Test/ToyasCard.lean, 'card_holds'). Laid BY PROGRAM, IN A SANDBOX (cutbox-door.mjs). By AI agents, Wed Nov 11 2026. No macro, syntax, notation, axiom, sorry.
-/
import Derived.Test.YtjjjgdpgfndbdaaDoorRows
import GoSem.ClaimSeven
namespace Go.Proofs.YtjjjgdpgfndbdaaDoor
namespace Rows

/-- THE TIED CARD OF 'halidelaw3.SumsNames'. -/
def sumsNamesCard : Claim7 := { stood := { row := sumsNamesRow, standIns := [], harness := (true, "efbd8ab29be1e2114c7bf973749435de3409f39c944cda7b4a71cb1ec274d1a1"), looks := false }, kinds := [], alts := [], laidByText := true, laidKinds := [.data], laidTests := true, laidLooks := .later }
def SumsNamesCardSaid : Prop := Claim7.holds Tryd.pinned (.plain (OpenSpec.ofChange sumsNamesSpec)) sumsNamesCard

/-- THE TIED CARD OF 'halidelaw3.SumsLeft'. -/
def sumsLeftCard : Claim7 := { stood := { row := sumsLeftRow, standIns := [], harness := (true, "efbd8ab29be1e2114c7bf973749435de3409f39c944cda7b4a71cb1ec274d1a1"), looks := false }, kinds := [], alts := [], laidByText := true, laidKinds := [.data], laidTests := true, laidLooks := .later }
def SumsLeftCardSaid : Prop := Claim7.holds Tryd.pinned (.plain (OpenSpec.ofChange sumsLeftSpec)) sumsLeftCard

/-- THE TIED CARD OF 'halidelaw3.SumsPairs'. -/
def sumsPairsCard : Claim7 := { stood := { row := sumsPairsRow, standIns := [], harness := (true, "efbd8ab29be1e2114c7bf973749435de3409f39c944cda7b4a71cb1ec274d1a1"), looks := false }, kinds := [], alts := [], laidByText := true, laidKinds := [.data], laidTests := true, laidLooks := .later }
def SumsPairsCardSaid : Prop := Claim7.holds Tryd.pinned (.plain (OpenSpec.ofChange sumsPairsSpec)) sumsPairsCard

/-- THE TIED CARD OF 'halidelaw3.SumsExact'. -/
def sumsExactCard : Claim7 := { stood := { row := sumsExactRow, standIns := [], harness := (true, "efbd8ab29be1e2114c7bf973749435de3409f39c944cda7b4a71cb1ec274d1a1"), looks := false }, kinds := [], alts := [], laidByText := true, laidKinds := [.data], laidTests := true, laidLooks := .later }
def SumsExactCardSaid : Prop := Claim7.holds Tryd.pinned (.plain (OpenSpec.ofChange sumsExactSpec)) sumsExactCard

/-- THE TIED CARD OF 'halidelaw3.SumsDot'. -/
def sumsDotCard : Claim7 := { stood := { row := sumsDotRow, standIns := [], harness := (true, "efbd8ab29be1e2114c7bf973749435de3409f39c944cda7b4a71cb1ec274d1a1"), looks := false }, kinds := [], alts := [], laidByText := true, laidKinds := [.data], laidTests := true, laidLooks := .later }
def SumsDotCardSaid : Prop := Claim7.holds Tryd.pinned (.plain (OpenSpec.ofChange sumsDotSpec)) sumsDotCard

/-- THE TIED CARD OF 'halidelaw3.SumsAcc'. -/
def sumsAccCard : Claim7 := { stood := { row := sumsAccRow, standIns := [], harness := (true, "efbd8ab29be1e2114c7bf973749435de3409f39c944cda7b4a71cb1ec274d1a1"), looks := false }, kinds := [], alts := [], laidByText := true, laidKinds := [.data], laidTests := true, laidLooks := .later }
def SumsAccCardSaid : Prop := Claim7.holds Tryd.pinned (.plain (OpenSpec.ofChange sumsAccSpec)) sumsAccCard

/-- THE SECOND FORM's CARD OF 'halidelaw3.SumsNames'. -/
def sumsNamesUptoCard : Claim7 := { stood := { row := sumsNamesUptoRow, standIns := [], harness := (true, "efbd8ab29be1e2114c7bf973749435de3409f39c944cda7b4a71cb1ec274d1a1"), looks := false }, kinds := [], alts := [], laidByText := true, laidKinds := [.data], laidTests := true, laidLooks := .later }
def SumsNamesUptoCardSaid : Prop := Claim7.holds Tryd.pinned (.plain (OpenSpec.upto sumsNamesSpec)) sumsNamesUptoCard

/-- THE SECOND FORM's CARD OF 'halidelaw3.SumsLeft'. -/
def sumsLeftUptoCard : Claim7 := { stood := { row := sumsLeftUptoRow, standIns := [], harness := (true, "efbd8ab29be1e2114c7bf973749435de3409f39c944cda7b4a71cb1ec274d1a1"), looks := false }, kinds := [], alts := [], laidByText := true, laidKinds := [.data], laidTests := true, laidLooks := .later }
def SumsLeftUptoCardSaid : Prop := Claim7.holds Tryd.pinned (.plain (OpenSpec.upto sumsLeftSpec)) sumsLeftUptoCard

/-- THE SECOND FORM's CARD OF 'halidelaw3.SumsPairs'. -/
def sumsPairsUptoCard : Claim7 := { stood := { row := sumsPairsUptoRow, standIns := [], harness := (true, "efbd8ab29be1e2114c7bf973749435de3409f39c944cda7b4a71cb1ec274d1a1"), looks := false }, kinds := [], alts := [], laidByText := true, laidKinds := [.data], laidTests := true, laidLooks := .later }
def SumsPairsUptoCardSaid : Prop := Claim7.holds Tryd.pinned (.plain (OpenSpec.upto sumsPairsSpec)) sumsPairsUptoCard

/-- THE SECOND FORM's CARD OF 'halidelaw3.SumsExact'. -/
def sumsExactUptoCard : Claim7 := { stood := { row := sumsExactUptoRow, standIns := [], harness := (true, "efbd8ab29be1e2114c7bf973749435de3409f39c944cda7b4a71cb1ec274d1a1"), looks := false }, kinds := [], alts := [], laidByText := true, laidKinds := [.data], laidTests := true, laidLooks := .later }
def SumsExactUptoCardSaid : Prop := Claim7.holds Tryd.pinned (.plain (OpenSpec.upto sumsExactSpec)) sumsExactUptoCard

/-- THE SECOND FORM's CARD OF 'halidelaw3.SumsDot'. -/
def sumsDotUptoCard : Claim7 := { stood := { row := sumsDotUptoRow, standIns := [], harness := (true, "efbd8ab29be1e2114c7bf973749435de3409f39c944cda7b4a71cb1ec274d1a1"), looks := false }, kinds := [], alts := [], laidByText := true, laidKinds := [.data], laidTests := true, laidLooks := .later }
def SumsDotUptoCardSaid : Prop := Claim7.holds Tryd.pinned (.plain (OpenSpec.upto sumsDotSpec)) sumsDotUptoCard

/-- THE SECOND FORM's CARD OF 'halidelaw3.SumsAcc'. -/
def sumsAccUptoCard : Claim7 := { stood := { row := sumsAccUptoRow, standIns := [], harness := (true, "efbd8ab29be1e2114c7bf973749435de3409f39c944cda7b4a71cb1ec274d1a1"), looks := false }, kinds := [], alts := [], laidByText := true, laidKinds := [.data], laidTests := true, laidLooks := .later }
def SumsAccUptoCardSaid : Prop := Claim7.holds Tryd.pinned (.plain (OpenSpec.upto sumsAccSpec)) sumsAccUptoCard
end Rows
end Go.Proofs.YtjjjgdpgfndbdaaDoor

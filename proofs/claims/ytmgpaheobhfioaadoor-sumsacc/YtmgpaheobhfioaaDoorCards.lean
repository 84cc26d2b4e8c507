/-
  DERIVED. GIVEN WITH THE SEED: THE CARDS: each row of YtmgpaheobhfioaaDoorRows.lean that lists a variable, with what it lists TIED to the program's text (the seventh form; the later family's looks); each row that meets fmt, with fmt's text TOLD by the authors' own Lean function (tested against real Go, not proved from fmt's source: count such statements apart). THE CARD IS WHAT COUNTS. Prove the row's statement (the work); the ties are given (YtmgpaheobhfioaaDoorTie.lean); close each card by the builder's one call (the guide's Derived/Test/ToyasCard.lean, 'card_holds'). Laid BY PROGRAM, IN A SANDBOX (cutbox-door.mjs). By AI agents, Wed Nov 11 2026. No macro, syntax, notation, axiom, sorry.
-/
import Derived.Test.YtmgpaheobhfioaaDoorRows
import GoSem.ClaimSeven
namespace Go.Proofs.YtmgpaheobhfioaaDoor
namespace Rows

/-- THE TIED CARD OF 'halidelaw3.SumsAcc'. -/
def sumsAccCard : Claim7 := { stood := { row := sumsAccRow, standIns := [], harness := (true, "f170b88171d3eb56a00191515fc5caab24b2dc803c38b7b4da1ea406b45fbdf3"), looks := false }, kinds := [], alts := [], laidByText := true, laidKinds := [.data], laidTests := true, laidLooks := .later }
def SumsAccCardSaid : Prop := Claim7.holds Tryd.pinned (.plain (OpenSpec.ofChange sumsAccSpec)) sumsAccCard

/-- THE TIED CARD OF 'halidelaw3.SumsNear'. -/
def sumsNearCard : Claim7 := { stood := { row := sumsNearRow, standIns := [], harness := (true, "f170b88171d3eb56a00191515fc5caab24b2dc803c38b7b4da1ea406b45fbdf3"), looks := false }, kinds := [], alts := [], laidByText := true, laidKinds := [.data], laidTests := true, laidLooks := .later }
def SumsNearCardSaid : Prop := Claim7.holds Tryd.pinned (.plain (OpenSpec.ofChange sumsNearSpec)) sumsNearCard

/-- THE SECOND FORM's CARD OF 'halidelaw3.SumsAcc'. -/
def sumsAccUptoCard : Claim7 := { stood := { row := sumsAccUptoRow, standIns := [], harness := (true, "f170b88171d3eb56a00191515fc5caab24b2dc803c38b7b4da1ea406b45fbdf3"), looks := false }, kinds := [], alts := [], laidByText := true, laidKinds := [.data], laidTests := true, laidLooks := .later }
def SumsAccUptoCardSaid : Prop := Claim7.holds Tryd.pinned (.plain (OpenSpec.upto sumsAccSpec)) sumsAccUptoCard

/-- THE SECOND FORM's CARD OF 'halidelaw3.SumsNear'. -/
def sumsNearUptoCard : Claim7 := { stood := { row := sumsNearUptoRow, standIns := [], harness := (true, "f170b88171d3eb56a00191515fc5caab24b2dc803c38b7b4da1ea406b45fbdf3"), looks := false }, kinds := [], alts := [], laidByText := true, laidKinds := [.data], laidTests := true, laidLooks := .later }
def SumsNearUptoCardSaid : Prop := Claim7.holds Tryd.pinned (.plain (OpenSpec.upto sumsNearSpec)) sumsNearUptoCard
end Rows
end Go.Proofs.YtmgpaheobhfioaaDoor

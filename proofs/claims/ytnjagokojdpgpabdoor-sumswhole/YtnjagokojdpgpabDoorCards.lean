/-
  DERIVED. GIVEN WITH THE SEED: THE CARDS: each row of YtnjagokojdpgpabDoorRows.lean that lists a variable, with what it lists TIED to the program's text (the seventh form; the later family's looks); each row that meets fmt, with fmt's text TOLD by the authors' own Lean function (tested against real Go, not proved from fmt's source: count such statements apart). THE CARD IS WHAT COUNTS. Prove the row's statement (the work); the ties are given (YtnjagokojdpgpabDoorTie.lean); close each card by the builder's one call (the guide's Derived/Test/ToyasCard.lean, 'card_holds'). Laid BY PROGRAM, IN A SANDBOX (cutbox-door.mjs). By AI agents, Wed Nov 11 2026. No macro, syntax, notation, axiom, sorry.
-/
import Derived.Test.YtnjagokojdpgpabDoorRows
import GoSem.ClaimSeven
namespace Go.Proofs.YtnjagokojdpgpabDoor
namespace Rows

/-- THE TIED CARD OF 'halidelaw3.SumsOrder'. -/
def sumsOrderCard : Claim7 := { stood := { row := sumsOrderRow, standIns := [], harness := (true, "cc8178c303caf74a5afd6d55c76866eb616cabdcf1efe84dbf7674e02f0208e0"), looks := false }, kinds := [], alts := [], laidByText := true, laidKinds := [.data], laidTests := true, laidLooks := .later }
def SumsOrderCardSaid : Prop := Claim7.holds Tryd.pinned (.plain (OpenSpec.ofChange sumsOrderSpec)) sumsOrderCard

/-- THE TIED CARD OF 'halidelaw3.SumsNear'. -/
def sumsNearCard : Claim7 := { stood := { row := sumsNearRow, standIns := [], harness := (true, "cc8178c303caf74a5afd6d55c76866eb616cabdcf1efe84dbf7674e02f0208e0"), looks := false }, kinds := [], alts := [], laidByText := true, laidKinds := [.data], laidTests := true, laidLooks := .later }
def SumsNearCardSaid : Prop := Claim7.holds Tryd.pinned (.plain (OpenSpec.ofChange sumsNearSpec)) sumsNearCard

/-- THE TIED CARD OF 'halidelaw3.SumsWhole'. -/
def sumsWholeCard : Claim7 := { stood := { row := sumsWholeRow, standIns := [], harness := (true, "cc8178c303caf74a5afd6d55c76866eb616cabdcf1efe84dbf7674e02f0208e0"), looks := false }, kinds := [], alts := [], laidByText := true, laidKinds := [.data], laidTests := true, laidLooks := .later }
def SumsWholeCardSaid : Prop := Claim7.holds Tryd.pinned (.plain (OpenSpec.ofChange sumsWholeSpec)) sumsWholeCard

/-- THE TIED CARD OF 'halidelaw3.SumsLong'. -/
def sumsLongCard : Claim7 := { stood := { row := sumsLongRow, standIns := [], harness := (true, "cc8178c303caf74a5afd6d55c76866eb616cabdcf1efe84dbf7674e02f0208e0"), looks := false }, kinds := [], alts := [], laidByText := true, laidKinds := [.data], laidTests := true, laidLooks := .later }
def SumsLongCardSaid : Prop := Claim7.holds Tryd.pinned (.plain (OpenSpec.ofChange sumsLongSpec)) sumsLongCard

/-- THE SECOND FORM's CARD OF 'halidelaw3.SumsOrder'. -/
def sumsOrderUptoCard : Claim7 := { stood := { row := sumsOrderUptoRow, standIns := [], harness := (true, "cc8178c303caf74a5afd6d55c76866eb616cabdcf1efe84dbf7674e02f0208e0"), looks := false }, kinds := [], alts := [], laidByText := true, laidKinds := [.data], laidTests := true, laidLooks := .later }
def SumsOrderUptoCardSaid : Prop := Claim7.holds Tryd.pinned (.plain (OpenSpec.upto sumsOrderSpec)) sumsOrderUptoCard

/-- THE SECOND FORM's CARD OF 'halidelaw3.SumsNear'. -/
def sumsNearUptoCard : Claim7 := { stood := { row := sumsNearUptoRow, standIns := [], harness := (true, "cc8178c303caf74a5afd6d55c76866eb616cabdcf1efe84dbf7674e02f0208e0"), looks := false }, kinds := [], alts := [], laidByText := true, laidKinds := [.data], laidTests := true, laidLooks := .later }
def SumsNearUptoCardSaid : Prop := Claim7.holds Tryd.pinned (.plain (OpenSpec.upto sumsNearSpec)) sumsNearUptoCard

/-- THE SECOND FORM's CARD OF 'halidelaw3.SumsWhole'. -/
def sumsWholeUptoCard : Claim7 := { stood := { row := sumsWholeUptoRow, standIns := [], harness := (true, "cc8178c303caf74a5afd6d55c76866eb616cabdcf1efe84dbf7674e02f0208e0"), looks := false }, kinds := [], alts := [], laidByText := true, laidKinds := [.data], laidTests := true, laidLooks := .later }
def SumsWholeUptoCardSaid : Prop := Claim7.holds Tryd.pinned (.plain (OpenSpec.upto sumsWholeSpec)) sumsWholeUptoCard

/-- THE SECOND FORM's CARD OF 'halidelaw3.SumsLong'. -/
def sumsLongUptoCard : Claim7 := { stood := { row := sumsLongUptoRow, standIns := [], harness := (true, "cc8178c303caf74a5afd6d55c76866eb616cabdcf1efe84dbf7674e02f0208e0"), looks := false }, kinds := [], alts := [], laidByText := true, laidKinds := [.data], laidTests := true, laidLooks := .later }
def SumsLongUptoCardSaid : Prop := Claim7.holds Tryd.pinned (.plain (OpenSpec.upto sumsLongSpec)) sumsLongUptoCard
end Rows
end Go.Proofs.YtnjagokojdpgpabDoor

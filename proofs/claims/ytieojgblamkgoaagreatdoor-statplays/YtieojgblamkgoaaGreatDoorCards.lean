/-
  DERIVED. GIVEN WITH THE SEED: THE CARDS: each row of YtieojgblamkgoaaGreatDoorRows.lean that lists a variable, with what it lists TIED to the program's text (the seventh form; the later family's looks); each row that meets fmt, with fmt's text TOLD by the authors' own Lean function (tested against real Go, not proved from fmt's source: count such statements apart). THE CARD IS WHAT COUNTS. Prove the row's statement (the work); the ties are given (YtieojgblamkgoaaGreatDoorTie.lean); close each card by the builder's one call (the guide's Derived/Test/ToyasCard.lean, 'card_holds'). Laid BY PROGRAM, IN A SANDBOX (cutbox-door.mjs). By AI agents, Wed Nov 11 2026. No macro, syntax, notation, axiom, sorry.
-/
import Derived.Test.YtieojgblamkgoaaGreatDoorRows
import GoSem.ClaimSeven
namespace Go.Proofs.YtieojgblamkgoaaGreatDoor
namespace Rows

/-- THE TIED CARD OF 'halidelaw16.StatPlays'. -/
def statPlaysCard : Claim7 := { stood := { row := statPlaysRow, standIns := [], harness := (true, "af9b7fb3d06b70569d6679a8f17ff9c49b9eafb8c8d1a7a5cdb1191e902f2687"), looks := false }, kinds := [], alts := [], laidByText := true, laidKinds := [.data], laidTests := true, laidLooks := .later }
def StatPlaysCardSaid : Prop := Claim7.holds Tryz.pinned (.plain (OpenSpec.ofChange statPlaysSpec)) statPlaysCard

/-- THE TIED CARD OF 'halidelaw16.StatRanks'. -/
def statRanksCard : Claim7 := { stood := { row := statRanksRow, standIns := [], harness := (true, "af9b7fb3d06b70569d6679a8f17ff9c49b9eafb8c8d1a7a5cdb1191e902f2687"), looks := false }, kinds := [], alts := [], laidByText := true, laidKinds := [.data], laidTests := true, laidLooks := .later }
def StatRanksCardSaid : Prop := Claim7.holds Tryz.pinned (.plain (OpenSpec.ofChange statRanksSpec)) statRanksCard

/-- THE TIED CARD OF 'halidelaw16.StatLevels'. -/
def statLevelsCard : Claim7 := { stood := { row := statLevelsRow, standIns := [], harness := (true, "af9b7fb3d06b70569d6679a8f17ff9c49b9eafb8c8d1a7a5cdb1191e902f2687"), looks := false }, kinds := [], alts := [], laidByText := true, laidKinds := [.data], laidTests := true, laidLooks := .later }
def StatLevelsCardSaid : Prop := Claim7.holds Tryz.pinned (.plain (OpenSpec.ofChange statLevelsSpec)) statLevelsCard

/-- THE TIED CARD OF 'halidelaw16.StatParts'. -/
def statPartsCard : Claim7 := { stood := { row := statPartsRow, standIns := [], harness := (true, "af9b7fb3d06b70569d6679a8f17ff9c49b9eafb8c8d1a7a5cdb1191e902f2687"), looks := false }, kinds := [], alts := [], laidByText := true, laidKinds := [.data], laidTests := true, laidLooks := .later }
def StatPartsCardSaid : Prop := Claim7.holds Tryz.pinned (.plain (OpenSpec.ofChange statPartsSpec)) statPartsCard

/-- THE TIED CARD OF 'halidelaw16.StatRises'. -/
def statRisesCard : Claim7 := { stood := { row := statRisesRow, standIns := [], harness := (true, "af9b7fb3d06b70569d6679a8f17ff9c49b9eafb8c8d1a7a5cdb1191e902f2687"), looks := false }, kinds := [], alts := [], laidByText := true, laidKinds := [.data], laidTests := true, laidLooks := .later }
def StatRisesCardSaid : Prop := Claim7.holds Tryz.pinned (.plain (OpenSpec.ofChange statRisesSpec)) statRisesCard

/-- THE TIED CARD OF 'halidelaw16.StatMeans'. -/
def statMeansCard : Claim7 := { stood := { row := statMeansRow, standIns := [], harness := (true, "af9b7fb3d06b70569d6679a8f17ff9c49b9eafb8c8d1a7a5cdb1191e902f2687"), looks := false }, kinds := [], alts := [], laidByText := true, laidKinds := [.data], laidTests := true, laidLooks := .later }
def StatMeansCardSaid : Prop := Claim7.holds Tryz.pinned (.plain (OpenSpec.ofChange statMeansSpec)) statMeansCard

/-- THE SECOND FORM's CARD OF 'halidelaw16.StatPlays'. -/
def statPlaysUptoCard : Claim7 := { stood := { row := statPlaysUptoRow, standIns := [], harness := (true, "af9b7fb3d06b70569d6679a8f17ff9c49b9eafb8c8d1a7a5cdb1191e902f2687"), looks := false }, kinds := [], alts := [], laidByText := true, laidKinds := [.data], laidTests := true, laidLooks := .later }
def StatPlaysUptoCardSaid : Prop := Claim7.holds Tryz.pinned (.plain (OpenSpec.upto statPlaysSpec)) statPlaysUptoCard

/-- THE SECOND FORM's CARD OF 'halidelaw16.StatRanks'. -/
def statRanksUptoCard : Claim7 := { stood := { row := statRanksUptoRow, standIns := [], harness := (true, "af9b7fb3d06b70569d6679a8f17ff9c49b9eafb8c8d1a7a5cdb1191e902f2687"), looks := false }, kinds := [], alts := [], laidByText := true, laidKinds := [.data], laidTests := true, laidLooks := .later }
def StatRanksUptoCardSaid : Prop := Claim7.holds Tryz.pinned (.plain (OpenSpec.upto statRanksSpec)) statRanksUptoCard

/-- THE SECOND FORM's CARD OF 'halidelaw16.StatLevels'. -/
def statLevelsUptoCard : Claim7 := { stood := { row := statLevelsUptoRow, standIns := [], harness := (true, "af9b7fb3d06b70569d6679a8f17ff9c49b9eafb8c8d1a7a5cdb1191e902f2687"), looks := false }, kinds := [], alts := [], laidByText := true, laidKinds := [.data], laidTests := true, laidLooks := .later }
def StatLevelsUptoCardSaid : Prop := Claim7.holds Tryz.pinned (.plain (OpenSpec.upto statLevelsSpec)) statLevelsUptoCard

/-- THE SECOND FORM's CARD OF 'halidelaw16.StatParts'. -/
def statPartsUptoCard : Claim7 := { stood := { row := statPartsUptoRow, standIns := [], harness := (true, "af9b7fb3d06b70569d6679a8f17ff9c49b9eafb8c8d1a7a5cdb1191e902f2687"), looks := false }, kinds := [], alts := [], laidByText := true, laidKinds := [.data], laidTests := true, laidLooks := .later }
def StatPartsUptoCardSaid : Prop := Claim7.holds Tryz.pinned (.plain (OpenSpec.upto statPartsSpec)) statPartsUptoCard

/-- THE SECOND FORM's CARD OF 'halidelaw16.StatRises'. -/
def statRisesUptoCard : Claim7 := { stood := { row := statRisesUptoRow, standIns := [], harness := (true, "af9b7fb3d06b70569d6679a8f17ff9c49b9eafb8c8d1a7a5cdb1191e902f2687"), looks := false }, kinds := [], alts := [], laidByText := true, laidKinds := [.data], laidTests := true, laidLooks := .later }
def StatRisesUptoCardSaid : Prop := Claim7.holds Tryz.pinned (.plain (OpenSpec.upto statRisesSpec)) statRisesUptoCard

/-- THE SECOND FORM's CARD OF 'halidelaw16.StatMeans'. -/
def statMeansUptoCard : Claim7 := { stood := { row := statMeansUptoRow, standIns := [], harness := (true, "af9b7fb3d06b70569d6679a8f17ff9c49b9eafb8c8d1a7a5cdb1191e902f2687"), looks := false }, kinds := [], alts := [], laidByText := true, laidKinds := [.data], laidTests := true, laidLooks := .later }
def StatMeansUptoCardSaid : Prop := Claim7.holds Tryz.pinned (.plain (OpenSpec.upto statMeansSpec)) statMeansUptoCard
end Rows
end Go.Proofs.YtieojgblamkgoaaGreatDoor

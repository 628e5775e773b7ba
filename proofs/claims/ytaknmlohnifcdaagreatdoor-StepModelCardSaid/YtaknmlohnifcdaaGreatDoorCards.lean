/-
  DERIVED. GIVEN WITH THE SEED: THE CARDS: each row of YtaknmlohnifcdaaGreatDoorRows.lean that lists a variable, with what it lists TIED to the program's text (the seventh form; the later family's looks); each row that meets fmt, with fmt's text TOLD by the authors' own Lean function (tested against real Go, not proved from fmt's source: count such statements apart). THE CARD IS WHAT COUNTS. Prove the row's statement (the work); the ties are given (YtaknmlohnifcdaaGreatDoorTie.lean); close each card by the builder's one call (the guide's Derived/Test/ToyasCard.lean, 'card_holds'). Laid BY PROGRAM, IN A SANDBOX (cutbox-door.mjs). By AI agents, Wed Nov 11 2026. No macro, syntax, notation, axiom, sorry.
-/
import Derived.Test.YtaknmlohnifcdaaGreatDoorRows
import GoSem.ClaimSeven
namespace Go.Proofs.YtaknmlohnifcdaaGreatDoor
namespace Rows

/-- THE TIED CARD OF 'billiardlaw20.StepModel'. -/
def stepModelCard : Claim7 := { stood := { row := stepModelRow, standIns := [], harness := (true, "737a9b4c2cf8597e7c302e6a8f88e4926c33aca1b2a930cbb4b476dcc9873e83"), looks := false }, kinds := [], alts := [], laidByText := true, laidKinds := [.data], laidTests := true, laidLooks := .later }
def StepModelCardSaid : Prop := Claim7.holds Tryz.pinned (.plain (OpenSpec.ofChange stepModelSpec)) stepModelCard

/-- THE TIED CARD OF 'billiardlaw20.StepKeepsShapes'. -/
def stepKeepsShapesCard : Claim7 := { stood := { row := stepKeepsShapesRow, standIns := [], harness := (true, "737a9b4c2cf8597e7c302e6a8f88e4926c33aca1b2a930cbb4b476dcc9873e83"), looks := false }, kinds := [], alts := [], laidByText := true, laidKinds := [.data], laidTests := true, laidLooks := .later }
def StepKeepsShapesCardSaid : Prop := Claim7.holds Tryz.pinned (.plain (OpenSpec.ofChange stepKeepsShapesSpec)) stepKeepsShapesCard

/-- THE TIED CARD OF 'billiardlaw20.StepMoves'. -/
def stepMovesCard : Claim7 := { stood := { row := stepMovesRow, standIns := [], harness := (true, "737a9b4c2cf8597e7c302e6a8f88e4926c33aca1b2a930cbb4b476dcc9873e83"), looks := false }, kinds := [], alts := [], laidByText := true, laidKinds := [.data], laidTests := true, laidLooks := .later }
def StepMovesCardSaid : Prop := Claim7.holds Tryz.pinned (.plain (OpenSpec.ofChange stepMovesSpec)) stepMovesCard

/-- THE TIED CARD OF 'billiardlaw20.StepLonely'. -/
def stepLonelyCard : Claim7 := { stood := { row := stepLonelyRow, standIns := [], harness := (true, "737a9b4c2cf8597e7c302e6a8f88e4926c33aca1b2a930cbb4b476dcc9873e83"), looks := false }, kinds := [], alts := [], laidByText := true, laidKinds := [.data], laidTests := true, laidLooks := .later }
def StepLonelyCardSaid : Prop := Claim7.holds Tryz.pinned (.plain (OpenSpec.ofChange stepLonelySpec)) stepLonelyCard

/-- THE TIED CARD OF 'billiardlaw20.StepSplits'. -/
def stepSplitsCard : Claim7 := { stood := { row := stepSplitsRow, standIns := [], harness := (true, "737a9b4c2cf8597e7c302e6a8f88e4926c33aca1b2a930cbb4b476dcc9873e83"), looks := false }, kinds := [], alts := [], laidByText := true, laidKinds := [.data], laidTests := true, laidLooks := .later }
def StepSplitsCardSaid : Prop := Claim7.holds Tryz.pinned (.plain (OpenSpec.ofChange stepSplitsSpec)) stepSplitsCard

/-- THE SECOND FORM's CARD OF 'billiardlaw20.StepModel'. -/
def stepModelUptoCard : Claim7 := { stood := { row := stepModelUptoRow, standIns := [], harness := (true, "737a9b4c2cf8597e7c302e6a8f88e4926c33aca1b2a930cbb4b476dcc9873e83"), looks := false }, kinds := [], alts := [], laidByText := true, laidKinds := [.data], laidTests := true, laidLooks := .later }
def StepModelUptoCardSaid : Prop := Claim7.holds Tryz.pinned (.plain (OpenSpec.upto stepModelSpec)) stepModelUptoCard

/-- THE SECOND FORM's CARD OF 'billiardlaw20.StepKeepsShapes'. -/
def stepKeepsShapesUptoCard : Claim7 := { stood := { row := stepKeepsShapesUptoRow, standIns := [], harness := (true, "737a9b4c2cf8597e7c302e6a8f88e4926c33aca1b2a930cbb4b476dcc9873e83"), looks := false }, kinds := [], alts := [], laidByText := true, laidKinds := [.data], laidTests := true, laidLooks := .later }
def StepKeepsShapesUptoCardSaid : Prop := Claim7.holds Tryz.pinned (.plain (OpenSpec.upto stepKeepsShapesSpec)) stepKeepsShapesUptoCard

/-- THE SECOND FORM's CARD OF 'billiardlaw20.StepMoves'. -/
def stepMovesUptoCard : Claim7 := { stood := { row := stepMovesUptoRow, standIns := [], harness := (true, "737a9b4c2cf8597e7c302e6a8f88e4926c33aca1b2a930cbb4b476dcc9873e83"), looks := false }, kinds := [], alts := [], laidByText := true, laidKinds := [.data], laidTests := true, laidLooks := .later }
def StepMovesUptoCardSaid : Prop := Claim7.holds Tryz.pinned (.plain (OpenSpec.upto stepMovesSpec)) stepMovesUptoCard

/-- THE SECOND FORM's CARD OF 'billiardlaw20.StepLonely'. -/
def stepLonelyUptoCard : Claim7 := { stood := { row := stepLonelyUptoRow, standIns := [], harness := (true, "737a9b4c2cf8597e7c302e6a8f88e4926c33aca1b2a930cbb4b476dcc9873e83"), looks := false }, kinds := [], alts := [], laidByText := true, laidKinds := [.data], laidTests := true, laidLooks := .later }
def StepLonelyUptoCardSaid : Prop := Claim7.holds Tryz.pinned (.plain (OpenSpec.upto stepLonelySpec)) stepLonelyUptoCard

/-- THE SECOND FORM's CARD OF 'billiardlaw20.StepSplits'. -/
def stepSplitsUptoCard : Claim7 := { stood := { row := stepSplitsUptoRow, standIns := [], harness := (true, "737a9b4c2cf8597e7c302e6a8f88e4926c33aca1b2a930cbb4b476dcc9873e83"), looks := false }, kinds := [], alts := [], laidByText := true, laidKinds := [.data], laidTests := true, laidLooks := .later }
def StepSplitsUptoCardSaid : Prop := Claim7.holds Tryz.pinned (.plain (OpenSpec.upto stepSplitsSpec)) stepSplitsUptoCard
end Rows
end Go.Proofs.YtaknmlohnifcdaaGreatDoor

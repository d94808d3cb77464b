/-
  DERIVED. GIVEN WITH THE SEED: THE CARDS: each row of YtfecnkhoojnkbaaGreatDoorRows.lean that lists a variable, with what it lists TIED to the program's text (the seventh form; the later family's looks); each row that meets fmt, with fmt's text TOLD by the authors' own Lean function (tested against real Go, not proved from fmt's source: count such statements apart). THE CARD IS WHAT COUNTS. Prove the row's statement (the work); the ties are given (YtfecnkhoojnkbaaGreatDoorTie.lean); close each card by the builder's one call (the guide's Derived/Test/ToyasCard.lean, 'card_holds'). Laid BY PROGRAM, IN A SANDBOX (cutbox-door.mjs). By AI agents, Wed Nov 11 2026. No macro, syntax, notation, axiom, sorry.
-/
import Derived.Test.YtfecnkhoojnkbaaGreatDoorRows
import GoSem.ClaimSeven
namespace Go.Proofs.YtfecnkhoojnkbaaGreatDoor
namespace Rows

/-- THE TIED CARD OF 'hostelrylaw11.CalTells'. -/
def calTellsCard : Claim7 := { stood := { row := calTellsRow, standIns := [], harness := (true, "c14c1c01a13ff0bee6cec8b4f572398c41352e61a35ed14dfdb6130f842d8382"), looks := true }, kinds := [], alts := [], laidByText := true, laidKinds := [.data, .data, .data, .data, .sentinel, .sentinel, .data, .data, .pinned, .pinned], laidTests := true, laidLooks := .later }
def CalTellsCardSaid : Prop := Claim7.holds Tryz.pinned (.plain (OpenSpec.ofChange calTellsSpec)) calTellsCard

/-- THE TIED CARD OF 'hostelrylaw11.CalParses'. -/
def calParsesCard : Claim7 := { stood := { row := calParsesRow, standIns := [], harness := (true, "c14c1c01a13ff0bee6cec8b4f572398c41352e61a35ed14dfdb6130f842d8382"), looks := true }, kinds := [], alts := [], laidByText := true, laidKinds := [.data, .data, .data, .data, .sentinel, .sentinel, .data, .data, .pinned, .pinned], laidTests := true, laidLooks := .later }
def CalParsesCardSaid : Prop := Claim7.holds Tryz.pinned (.plain (OpenSpec.ofChange calParsesSpec)) calParsesCard

/-- THE TIED CARD OF 'hostelrylaw11.CalBack'. -/
def calBackCard : Claim7 := { stood := { row := calBackRow, standIns := [], harness := (true, "c14c1c01a13ff0bee6cec8b4f572398c41352e61a35ed14dfdb6130f842d8382"), looks := true }, kinds := [], alts := [], laidByText := true, laidKinds := [.data, .data, .data, .data, .sentinel, .sentinel, .data, .data, .pinned, .pinned], laidTests := true, laidLooks := .later }
def CalBackCardSaid : Prop := Claim7.holds Tryz.pinned (.plain (OpenSpec.ofChange calBackSpec)) calBackCard

/-- THE TIED CARD OF 'hostelrylaw11.CalShapes'. -/
def calShapesCard : Claim7 := { stood := { row := calShapesRow, standIns := [], harness := (true, "c14c1c01a13ff0bee6cec8b4f572398c41352e61a35ed14dfdb6130f842d8382"), looks := true }, kinds := [], alts := [], laidByText := true, laidKinds := [.data, .data, .data, .data, .sentinel, .sentinel, .data, .data, .pinned, .pinned], laidTests := true, laidLooks := .later }
def CalShapesCardSaid : Prop := Claim7.holds Tryz.pinned (.plain (OpenSpec.ofChange calShapesSpec)) calShapesCard

/-- THE SECOND FORM's CARD OF 'hostelrylaw11.CalTells'. -/
def calTellsUptoCard : Claim7 := { stood := { row := calTellsUptoRow, standIns := [], harness := (true, "c14c1c01a13ff0bee6cec8b4f572398c41352e61a35ed14dfdb6130f842d8382"), looks := true }, kinds := [], alts := [], laidByText := true, laidKinds := [.data, .data, .data, .data, .sentinel, .sentinel, .data, .data, .pinned, .pinned], laidTests := true, laidLooks := .later }
def CalTellsUptoCardSaid : Prop := Claim7.holds Tryz.pinned (.plain (OpenSpec.upto calTellsSpec)) calTellsUptoCard

/-- THE SECOND FORM's CARD OF 'hostelrylaw11.CalParses'. -/
def calParsesUptoCard : Claim7 := { stood := { row := calParsesUptoRow, standIns := [], harness := (true, "c14c1c01a13ff0bee6cec8b4f572398c41352e61a35ed14dfdb6130f842d8382"), looks := true }, kinds := [], alts := [], laidByText := true, laidKinds := [.data, .data, .data, .data, .sentinel, .sentinel, .data, .data, .pinned, .pinned], laidTests := true, laidLooks := .later }
def CalParsesUptoCardSaid : Prop := Claim7.holds Tryz.pinned (.plain (OpenSpec.upto calParsesSpec)) calParsesUptoCard

/-- THE SECOND FORM's CARD OF 'hostelrylaw11.CalBack'. -/
def calBackUptoCard : Claim7 := { stood := { row := calBackUptoRow, standIns := [], harness := (true, "c14c1c01a13ff0bee6cec8b4f572398c41352e61a35ed14dfdb6130f842d8382"), looks := true }, kinds := [], alts := [], laidByText := true, laidKinds := [.data, .data, .data, .data, .sentinel, .sentinel, .data, .data, .pinned, .pinned], laidTests := true, laidLooks := .later }
def CalBackUptoCardSaid : Prop := Claim7.holds Tryz.pinned (.plain (OpenSpec.upto calBackSpec)) calBackUptoCard

/-- THE SECOND FORM's CARD OF 'hostelrylaw11.CalShapes'. -/
def calShapesUptoCard : Claim7 := { stood := { row := calShapesUptoRow, standIns := [], harness := (true, "c14c1c01a13ff0bee6cec8b4f572398c41352e61a35ed14dfdb6130f842d8382"), looks := true }, kinds := [], alts := [], laidByText := true, laidKinds := [.data, .data, .data, .data, .sentinel, .sentinel, .data, .data, .pinned, .pinned], laidTests := true, laidLooks := .later }
def CalShapesUptoCardSaid : Prop := Claim7.holds Tryz.pinned (.plain (OpenSpec.upto calShapesSpec)) calShapesUptoCard
end Rows
end Go.Proofs.YtfecnkhoojnkbaaGreatDoor

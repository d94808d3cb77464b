/-
  DERIVED. GIVEN WITH THE SEED: THE CARDS: each row of YtlmdceeeahnkcaaGreatDoorRows.lean that lists a variable, with what it lists TIED to the program's text (the seventh form; the later family's looks); each row that meets fmt, with fmt's text TOLD by the authors' own Lean function (tested against real Go, not proved from fmt's source: count such statements apart). THE CARD IS WHAT COUNTS. Prove the row's statement (the work); the ties are given (YtlmdceeeahnkcaaGreatDoorTie.lean); close each card by the builder's one call (the guide's Derived/Test/ToyasCard.lean, 'card_holds'). Laid BY PROGRAM, IN A SANDBOX (cutbox-door.mjs). By AI agents, Wed Nov 11 2026. No macro, syntax, notation, axiom, sorry.
-/
import Derived.Test.YtlmdceeeahnkcaaGreatDoorRows
import GoSem.ClaimSeven
namespace Go.Proofs.YtlmdceeeahnkcaaGreatDoor
namespace Rows

/-- THE TIED CARD OF 'hostelrylaw15.ScribeBack'. -/
def scribeBackCard : Claim7 := { stood := { row := scribeBackRow, standIns := [], harness := (true, "5e25e08fc9f2f27f4dff1886c6b767a5e66b6945dd7e1dc941c706e2fd1b73d7"), looks := true }, kinds := [], alts := [], laidByText := true, laidKinds := [.data, .data, .data, .sentinel, .sentinel], laidTests := true, laidLooks := .later }
def ScribeBackCardSaid : Prop := Claim7.holds Tryz.pinned (.plain (OpenSpec.ofChange scribeBackSpec)) scribeBackCard

/-- THE TIED CARD OF 'hostelrylaw15.ScribeSpoilt'. -/
def scribeSpoiltCard : Claim7 := { stood := { row := scribeSpoiltRow, standIns := [], harness := (true, "5e25e08fc9f2f27f4dff1886c6b767a5e66b6945dd7e1dc941c706e2fd1b73d7"), looks := true }, kinds := [], alts := [], laidByText := true, laidKinds := [.data, .data, .data, .sentinel, .sentinel], laidTests := true, laidLooks := .later }
def ScribeSpoiltCardSaid : Prop := Claim7.holds Tryz.pinned (.plain (OpenSpec.ofChange scribeSpoiltSpec)) scribeSpoiltCard

/-- THE TIED CARD OF 'hostelrylaw15.ScribeReads'. -/
def scribeReadsCard : Claim7 := { stood := { row := scribeReadsRow, standIns := [], harness := (true, "5e25e08fc9f2f27f4dff1886c6b767a5e66b6945dd7e1dc941c706e2fd1b73d7"), looks := true }, kinds := [], alts := [], laidByText := true, laidKinds := [.data, .data, .data, .sentinel, .sentinel], laidTests := true, laidLooks := .later }
def ScribeReadsCardSaid : Prop := Claim7.holds Tryz.pinned (.plain (OpenSpec.ofChange scribeReadsSpec)) scribeReadsCard

/-- THE TIED CARD OF 'hostelrylaw15.ScribeRows'. -/
def scribeRowsCard : Claim7 := { stood := { row := scribeRowsRow, standIns := [], harness := (true, "5e25e08fc9f2f27f4dff1886c6b767a5e66b6945dd7e1dc941c706e2fd1b73d7"), looks := true }, kinds := [], alts := [], laidByText := true, laidKinds := [.data, .data, .data, .sentinel, .sentinel], laidTests := true, laidLooks := .later }
def ScribeRowsCardSaid : Prop := Claim7.holds Tryz.pinned (.plain (OpenSpec.ofChange scribeRowsSpec)) scribeRowsCard

/-- THE TIED CARD OF 'hostelrylaw15.ScribeGreat'. -/
def scribeGreatCard : Claim7 := { stood := { row := scribeGreatRow, standIns := [], harness := (true, "5e25e08fc9f2f27f4dff1886c6b767a5e66b6945dd7e1dc941c706e2fd1b73d7"), looks := true }, kinds := [], alts := [], laidByText := true, laidKinds := [.data, .data, .data, .sentinel, .sentinel], laidTests := true, laidLooks := .later }
def ScribeGreatCardSaid : Prop := Claim7.holds Tryz.pinned (.plain (OpenSpec.ofChange scribeGreatSpec)) scribeGreatCard

/-- THE SECOND FORM's CARD OF 'hostelrylaw15.ScribeBack'. -/
def scribeBackUptoCard : Claim7 := { stood := { row := scribeBackUptoRow, standIns := [], harness := (true, "5e25e08fc9f2f27f4dff1886c6b767a5e66b6945dd7e1dc941c706e2fd1b73d7"), looks := true }, kinds := [], alts := [], laidByText := true, laidKinds := [.data, .data, .data, .sentinel, .sentinel], laidTests := true, laidLooks := .later }
def ScribeBackUptoCardSaid : Prop := Claim7.holds Tryz.pinned (.plain (OpenSpec.upto scribeBackSpec)) scribeBackUptoCard

/-- THE SECOND FORM's CARD OF 'hostelrylaw15.ScribeSpoilt'. -/
def scribeSpoiltUptoCard : Claim7 := { stood := { row := scribeSpoiltUptoRow, standIns := [], harness := (true, "5e25e08fc9f2f27f4dff1886c6b767a5e66b6945dd7e1dc941c706e2fd1b73d7"), looks := true }, kinds := [], alts := [], laidByText := true, laidKinds := [.data, .data, .data, .sentinel, .sentinel], laidTests := true, laidLooks := .later }
def ScribeSpoiltUptoCardSaid : Prop := Claim7.holds Tryz.pinned (.plain (OpenSpec.upto scribeSpoiltSpec)) scribeSpoiltUptoCard

/-- THE SECOND FORM's CARD OF 'hostelrylaw15.ScribeReads'. -/
def scribeReadsUptoCard : Claim7 := { stood := { row := scribeReadsUptoRow, standIns := [], harness := (true, "5e25e08fc9f2f27f4dff1886c6b767a5e66b6945dd7e1dc941c706e2fd1b73d7"), looks := true }, kinds := [], alts := [], laidByText := true, laidKinds := [.data, .data, .data, .sentinel, .sentinel], laidTests := true, laidLooks := .later }
def ScribeReadsUptoCardSaid : Prop := Claim7.holds Tryz.pinned (.plain (OpenSpec.upto scribeReadsSpec)) scribeReadsUptoCard

/-- THE SECOND FORM's CARD OF 'hostelrylaw15.ScribeRows'. -/
def scribeRowsUptoCard : Claim7 := { stood := { row := scribeRowsUptoRow, standIns := [], harness := (true, "5e25e08fc9f2f27f4dff1886c6b767a5e66b6945dd7e1dc941c706e2fd1b73d7"), looks := true }, kinds := [], alts := [], laidByText := true, laidKinds := [.data, .data, .data, .sentinel, .sentinel], laidTests := true, laidLooks := .later }
def ScribeRowsUptoCardSaid : Prop := Claim7.holds Tryz.pinned (.plain (OpenSpec.upto scribeRowsSpec)) scribeRowsUptoCard

/-- THE SECOND FORM's CARD OF 'hostelrylaw15.ScribeGreat'. -/
def scribeGreatUptoCard : Claim7 := { stood := { row := scribeGreatUptoRow, standIns := [], harness := (true, "5e25e08fc9f2f27f4dff1886c6b767a5e66b6945dd7e1dc941c706e2fd1b73d7"), looks := true }, kinds := [], alts := [], laidByText := true, laidKinds := [.data, .data, .data, .sentinel, .sentinel], laidTests := true, laidLooks := .later }
def ScribeGreatUptoCardSaid : Prop := Claim7.holds Tryz.pinned (.plain (OpenSpec.upto scribeGreatSpec)) scribeGreatUptoCard
end Rows
end Go.Proofs.YtlmdceeeahnkcaaGreatDoor

/-
  DERIVED. GIVEN WITH THE SEED: THE CARDS: each row of YtffobailjdhijaaGreatDoorRows.lean that lists a variable, with what it lists TIED to the program's text (the seventh form; the later family's looks); each row that meets fmt, with fmt's text TOLD by the authors' own Lean function (tested against real Go, not proved from fmt's source: count such statements apart). THE CARD IS WHAT COUNTS. Prove the row's statement (the work); the ties are given (YtffobailjdhijaaGreatDoorTie.lean); close each card by the builder's one call (the guide's Derived/Test/ToyasCard.lean, 'card_holds'). Laid BY PROGRAM, IN A SANDBOX (cutbox-door.mjs). By AI agents, Wed Nov 11 2026. No macro, syntax, notation, axiom, sorry.
-/
import Derived.Test.YtffobailjdhijaaGreatDoorRows
import GoSem.ClaimSeven
namespace Go.Proofs.YtffobailjdhijaaGreatDoor
namespace Rows

/-- THE TIED CARD OF 'hostelrylaw7.RtextTells'. -/
def rtextTellsCard : Claim7 := { stood := { row := rtextTellsRow, standIns := [], harness := (true, "be39ac70521db285f6bc89a982bfc4763b12a476f79b5cf7ac76d118c6267b85"), looks := true }, kinds := [], alts := [], laidByText := true, laidKinds := [.data, .data, .data, .data, .sentinel, .sentinel, .pinned], laidTests := true, laidLooks := .later }
def RtextTellsCardSaid : Prop := Claim7.holds Tryz.pinned (.plain (OpenSpec.ofChange rtextTellsSpec)) rtextTellsCard

/-- THE TIED CARD OF 'hostelrylaw7.RtextBack'. -/
def rtextBackCard : Claim7 := { stood := { row := rtextBackRow, standIns := [], harness := (true, "be39ac70521db285f6bc89a982bfc4763b12a476f79b5cf7ac76d118c6267b85"), looks := true }, kinds := [], alts := [], laidByText := true, laidKinds := [.data, .data, .data, .data, .sentinel, .sentinel, .pinned], laidTests := true, laidLooks := .later }
def RtextBackCardSaid : Prop := Claim7.holds Tryz.pinned (.plain (OpenSpec.ofChange rtextBackSpec)) rtextBackCard

/-- THE TIED CARD OF 'hostelrylaw7.RtextSpoilt'. -/
def rtextSpoiltCard : Claim7 := { stood := { row := rtextSpoiltRow, standIns := [], harness := (true, "be39ac70521db285f6bc89a982bfc4763b12a476f79b5cf7ac76d118c6267b85"), looks := true }, kinds := [], alts := [], laidByText := true, laidKinds := [.data, .data, .data, .data, .sentinel, .sentinel, .pinned], laidTests := true, laidLooks := .later }
def RtextSpoiltCardSaid : Prop := Claim7.holds Tryz.pinned (.plain (OpenSpec.ofChange rtextSpoiltSpec)) rtextSpoiltCard

/-- THE TIED CARD OF 'hostelrylaw7.RtextLists'. -/
def rtextListsCard : Claim7 := { stood := { row := rtextListsRow, standIns := [], harness := (true, "be39ac70521db285f6bc89a982bfc4763b12a476f79b5cf7ac76d118c6267b85"), looks := true }, kinds := [], alts := [], laidByText := true, laidKinds := [.data, .data, .data, .data, .sentinel, .sentinel, .pinned], laidTests := true, laidLooks := .later }
def RtextListsCardSaid : Prop := Claim7.holds Tryz.pinned (.plain (OpenSpec.ofChange rtextListsSpec)) rtextListsCard

/-- THE TIED CARD OF 'hostelrylaw7.RtextDays'. -/
def rtextDaysCard : Claim7 := { stood := { row := rtextDaysRow, standIns := [], harness := (true, "be39ac70521db285f6bc89a982bfc4763b12a476f79b5cf7ac76d118c6267b85"), looks := true }, kinds := [], alts := [], laidByText := true, laidKinds := [.data, .data, .data, .data, .sentinel, .sentinel, .pinned], laidTests := true, laidLooks := .later }
def RtextDaysCardSaid : Prop := Claim7.holds Tryz.pinned (.plain (OpenSpec.ofChange rtextDaysSpec)) rtextDaysCard

/-- THE SECOND FORM's CARD OF 'hostelrylaw7.RtextTells'. -/
def rtextTellsUptoCard : Claim7 := { stood := { row := rtextTellsUptoRow, standIns := [], harness := (true, "be39ac70521db285f6bc89a982bfc4763b12a476f79b5cf7ac76d118c6267b85"), looks := true }, kinds := [], alts := [], laidByText := true, laidKinds := [.data, .data, .data, .data, .sentinel, .sentinel, .pinned], laidTests := true, laidLooks := .later }
def RtextTellsUptoCardSaid : Prop := Claim7.holds Tryz.pinned (.plain (OpenSpec.upto rtextTellsSpec)) rtextTellsUptoCard

/-- THE SECOND FORM's CARD OF 'hostelrylaw7.RtextBack'. -/
def rtextBackUptoCard : Claim7 := { stood := { row := rtextBackUptoRow, standIns := [], harness := (true, "be39ac70521db285f6bc89a982bfc4763b12a476f79b5cf7ac76d118c6267b85"), looks := true }, kinds := [], alts := [], laidByText := true, laidKinds := [.data, .data, .data, .data, .sentinel, .sentinel, .pinned], laidTests := true, laidLooks := .later }
def RtextBackUptoCardSaid : Prop := Claim7.holds Tryz.pinned (.plain (OpenSpec.upto rtextBackSpec)) rtextBackUptoCard

/-- THE SECOND FORM's CARD OF 'hostelrylaw7.RtextSpoilt'. -/
def rtextSpoiltUptoCard : Claim7 := { stood := { row := rtextSpoiltUptoRow, standIns := [], harness := (true, "be39ac70521db285f6bc89a982bfc4763b12a476f79b5cf7ac76d118c6267b85"), looks := true }, kinds := [], alts := [], laidByText := true, laidKinds := [.data, .data, .data, .data, .sentinel, .sentinel, .pinned], laidTests := true, laidLooks := .later }
def RtextSpoiltUptoCardSaid : Prop := Claim7.holds Tryz.pinned (.plain (OpenSpec.upto rtextSpoiltSpec)) rtextSpoiltUptoCard

/-- THE SECOND FORM's CARD OF 'hostelrylaw7.RtextLists'. -/
def rtextListsUptoCard : Claim7 := { stood := { row := rtextListsUptoRow, standIns := [], harness := (true, "be39ac70521db285f6bc89a982bfc4763b12a476f79b5cf7ac76d118c6267b85"), looks := true }, kinds := [], alts := [], laidByText := true, laidKinds := [.data, .data, .data, .data, .sentinel, .sentinel, .pinned], laidTests := true, laidLooks := .later }
def RtextListsUptoCardSaid : Prop := Claim7.holds Tryz.pinned (.plain (OpenSpec.upto rtextListsSpec)) rtextListsUptoCard

/-- THE SECOND FORM's CARD OF 'hostelrylaw7.RtextDays'. -/
def rtextDaysUptoCard : Claim7 := { stood := { row := rtextDaysUptoRow, standIns := [], harness := (true, "be39ac70521db285f6bc89a982bfc4763b12a476f79b5cf7ac76d118c6267b85"), looks := true }, kinds := [], alts := [], laidByText := true, laidKinds := [.data, .data, .data, .data, .sentinel, .sentinel, .pinned], laidTests := true, laidLooks := .later }
def RtextDaysUptoCardSaid : Prop := Claim7.holds Tryz.pinned (.plain (OpenSpec.upto rtextDaysSpec)) rtextDaysUptoCard
end Rows
end Go.Proofs.YtffobailjdhijaaGreatDoor

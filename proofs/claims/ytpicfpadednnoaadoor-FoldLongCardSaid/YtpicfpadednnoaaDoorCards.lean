/-
  DERIVED. GIVEN WITH THE SEED: THE CARDS: each row of YtpicfpadednnoaaDoorRows.lean that lists a variable, with what it lists TIED to the program's text (the seventh form; the later family's looks); each row that meets fmt, with fmt's text TOLD by the authors' own Lean function (tested against real Go, not proved from fmt's source: count such statements apart). THE CARD IS WHAT COUNTS. Prove the row's statement (the work); the ties are given (YtpicfpadednnoaaDoorTie.lean); close each card by the builder's one call (the guide's Derived/Test/ToyasCard.lean, 'card_holds'). Laid BY PROGRAM, IN A SANDBOX (cutbox-door.mjs). By AI agents, Wed Nov 11 2026. No macro, syntax, notation, axiom, sorry.
-/
import Derived.Test.YtpicfpadednnoaaDoorRows
import GoSem.ClaimSeven
namespace Go.Proofs.YtpicfpadednnoaaDoor
namespace Rows

/-- THE TIED CARD OF 'hostelrylaw8.FoldTells'. -/
def foldTellsCard : Claim7 := { stood := { row := foldTellsRow, standIns := [], harness := (true, "5d7b670990cb4d5a1ffdfbdb606cc5d86f06884dbccd8ef28423703e534a0b6d"), looks := false }, kinds := [], alts := [], laidByText := true, laidKinds := [.data, .pinned], laidTests := true, laidLooks := .later }
def FoldTellsCardSaid : Prop := Claim7.holds Tryd.pinned (.plain (OpenSpec.ofChange foldTellsSpec)) foldTellsCard

/-- THE TIED CARD OF 'hostelrylaw8.FoldBack'. -/
def foldBackCard : Claim7 := { stood := { row := foldBackRow, standIns := [], harness := (true, "5d7b670990cb4d5a1ffdfbdb606cc5d86f06884dbccd8ef28423703e534a0b6d"), looks := false }, kinds := [], alts := [], laidByText := true, laidKinds := [.data, .pinned], laidTests := true, laidLooks := .later }
def FoldBackCardSaid : Prop := Claim7.holds Tryd.pinned (.plain (OpenSpec.ofChange foldBackSpec)) foldBackCard

/-- THE TIED CARD OF 'hostelrylaw8.FoldLong'. -/
def foldLongCard : Claim7 := { stood := { row := foldLongRow, standIns := [], harness := (true, "5d7b670990cb4d5a1ffdfbdb606cc5d86f06884dbccd8ef28423703e534a0b6d"), looks := false }, kinds := [], alts := [], laidByText := true, laidKinds := [.data, .pinned], laidTests := true, laidLooks := .later }
def FoldLongCardSaid : Prop := Claim7.holds Tryd.pinned (.plain (OpenSpec.ofChange foldLongSpec)) foldLongCard

/-- THE TIED CARD OF 'hostelrylaw8.FoldSigns'. -/
def foldSignsCard : Claim7 := { stood := { row := foldSignsRow, standIns := [], harness := (true, "5d7b670990cb4d5a1ffdfbdb606cc5d86f06884dbccd8ef28423703e534a0b6d"), looks := false }, kinds := [], alts := [], laidByText := true, laidKinds := [.data, .pinned], laidTests := true, laidLooks := .later }
def FoldSignsCardSaid : Prop := Claim7.holds Tryd.pinned (.plain (OpenSpec.ofChange foldSignsSpec)) foldSignsCard

/-- THE TIED CARD OF 'hostelrylaw8.FoldCuts'. -/
def foldCutsCard : Claim7 := { stood := { row := foldCutsRow, standIns := [], harness := (true, "5d7b670990cb4d5a1ffdfbdb606cc5d86f06884dbccd8ef28423703e534a0b6d"), looks := false }, kinds := [], alts := [], laidByText := true, laidKinds := [.data, .pinned], laidTests := true, laidLooks := .later }
def FoldCutsCardSaid : Prop := Claim7.holds Tryd.pinned (.plain (OpenSpec.ofChange foldCutsSpec)) foldCutsCard

/-- THE SECOND FORM's CARD OF 'hostelrylaw8.FoldTells'. -/
def foldTellsUptoCard : Claim7 := { stood := { row := foldTellsUptoRow, standIns := [], harness := (true, "5d7b670990cb4d5a1ffdfbdb606cc5d86f06884dbccd8ef28423703e534a0b6d"), looks := false }, kinds := [], alts := [], laidByText := true, laidKinds := [.data, .pinned], laidTests := true, laidLooks := .later }
def FoldTellsUptoCardSaid : Prop := Claim7.holds Tryd.pinned (.plain (OpenSpec.upto foldTellsSpec)) foldTellsUptoCard

/-- THE SECOND FORM's CARD OF 'hostelrylaw8.FoldBack'. -/
def foldBackUptoCard : Claim7 := { stood := { row := foldBackUptoRow, standIns := [], harness := (true, "5d7b670990cb4d5a1ffdfbdb606cc5d86f06884dbccd8ef28423703e534a0b6d"), looks := false }, kinds := [], alts := [], laidByText := true, laidKinds := [.data, .pinned], laidTests := true, laidLooks := .later }
def FoldBackUptoCardSaid : Prop := Claim7.holds Tryd.pinned (.plain (OpenSpec.upto foldBackSpec)) foldBackUptoCard

/-- THE SECOND FORM's CARD OF 'hostelrylaw8.FoldLong'. -/
def foldLongUptoCard : Claim7 := { stood := { row := foldLongUptoRow, standIns := [], harness := (true, "5d7b670990cb4d5a1ffdfbdb606cc5d86f06884dbccd8ef28423703e534a0b6d"), looks := false }, kinds := [], alts := [], laidByText := true, laidKinds := [.data, .pinned], laidTests := true, laidLooks := .later }
def FoldLongUptoCardSaid : Prop := Claim7.holds Tryd.pinned (.plain (OpenSpec.upto foldLongSpec)) foldLongUptoCard

/-- THE SECOND FORM's CARD OF 'hostelrylaw8.FoldSigns'. -/
def foldSignsUptoCard : Claim7 := { stood := { row := foldSignsUptoRow, standIns := [], harness := (true, "5d7b670990cb4d5a1ffdfbdb606cc5d86f06884dbccd8ef28423703e534a0b6d"), looks := false }, kinds := [], alts := [], laidByText := true, laidKinds := [.data, .pinned], laidTests := true, laidLooks := .later }
def FoldSignsUptoCardSaid : Prop := Claim7.holds Tryd.pinned (.plain (OpenSpec.upto foldSignsSpec)) foldSignsUptoCard

/-- THE SECOND FORM's CARD OF 'hostelrylaw8.FoldCuts'. -/
def foldCutsUptoCard : Claim7 := { stood := { row := foldCutsUptoRow, standIns := [], harness := (true, "5d7b670990cb4d5a1ffdfbdb606cc5d86f06884dbccd8ef28423703e534a0b6d"), looks := false }, kinds := [], alts := [], laidByText := true, laidKinds := [.data, .pinned], laidTests := true, laidLooks := .later }
def FoldCutsUptoCardSaid : Prop := Claim7.holds Tryd.pinned (.plain (OpenSpec.upto foldCutsSpec)) foldCutsUptoCard
end Rows
end Go.Proofs.YtpicfpadednnoaaDoor

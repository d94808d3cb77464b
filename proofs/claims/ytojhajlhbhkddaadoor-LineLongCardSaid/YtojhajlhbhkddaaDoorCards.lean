/-
  DERIVED. GIVEN WITH THE SEED: THE CARDS: each row of YtojhajlhbhkddaaDoorRows.lean that lists a variable, with what it lists TIED to the program's text (the seventh form; the later family's looks); each row that meets fmt, with fmt's text TOLD by the authors' own Lean function (tested against real Go, not proved from fmt's source: count such statements apart). THE CARD IS WHAT COUNTS. Prove the row's statement (the work); the ties are given (YtojhajlhbhkddaaDoorTie.lean); close each card by the builder's one call (the guide's Derived/Test/ToyasCard.lean, 'card_holds'). Laid BY PROGRAM, IN A SANDBOX (cutbox-door.mjs). By AI agents, Wed Nov 11 2026. No macro, syntax, notation, axiom, sorry.
-/
import Derived.Test.YtojhajlhbhkddaaDoorRows
import GoSem.ClaimSeven
namespace Go.Proofs.YtojhajlhbhkddaaDoor
namespace Rows

/-- THE TIED CARD OF 'hostelrylaw9.LineLong'. -/
def lineLongCard : Claim7 := { stood := { row := lineLongRow, standIns := [], harness := (true, "9b3b79d54d4b193f3571ce0c6c76306cb47843cb5ae870069b3693664d6d19e3"), looks := false }, kinds := [], alts := [], laidByText := true, laidKinds := [.data, .pinned], laidTests := true, laidLooks := .later }
def LineLongCardSaid : Prop := Claim7.holds Tryd.pinned (.plain (OpenSpec.ofChange lineLongSpec)) lineLongCard

/-- THE SECOND FORM's CARD OF 'hostelrylaw9.LineLong'. -/
def lineLongUptoCard : Claim7 := { stood := { row := lineLongUptoRow, standIns := [], harness := (true, "9b3b79d54d4b193f3571ce0c6c76306cb47843cb5ae870069b3693664d6d19e3"), looks := false }, kinds := [], alts := [], laidByText := true, laidKinds := [.data, .pinned], laidTests := true, laidLooks := .later }
def LineLongUptoCardSaid : Prop := Claim7.holds Tryd.pinned (.plain (OpenSpec.upto lineLongSpec)) lineLongUptoCard
end Rows
end Go.Proofs.YtojhajlhbhkddaaDoor

/-
  DERIVED. GIVEN WITH THE SEED: THE CARDS: each row of YtimhbpfeofdfnaaDoorRows.lean that lists a variable, with what it lists TIED to the program's text (the seventh form; the later family's looks); each row that meets fmt, with fmt's text TOLD by the authors' own Lean function (tested against real Go, not proved from fmt's source: count such statements apart). THE CARD IS WHAT COUNTS. Prove the row's statement (the work); the ties are given (YtimhbpfeofdfnaaDoorTie.lean); close each card by the builder's one call (the guide's Derived/Test/ToyasCard.lean, 'card_holds'). Laid BY PROGRAM, IN A SANDBOX (cutbox-door.mjs). By AI agents, Wed Nov 11 2026. No macro, syntax, notation, axiom, sorry.
-/
import Derived.Test.YtimhbpfeofdfnaaDoorRows
import GoSem.ClaimSeven
namespace Go.Proofs.YtimhbpfeofdfnaaDoor
namespace Rows

/-- THE TIED CARD OF 'hostelrylaw16.SlatePlays'. -/
def slatePlaysCard : Claim7 := { stood := { row := slatePlaysRow, standIns := [], harness := (true, "5d75c43ad9ed1ce34a15f8f46174037ab610d557b6bc57e3bd2e62db822bd559"), looks := false }, kinds := [], alts := [], laidByText := true, laidKinds := [.data, .pinned], laidTests := true, laidLooks := .later }
def SlatePlaysCardSaid : Prop := Claim7.holds Tryd.pinned (.plain (OpenSpec.ofChange slatePlaysSpec)) slatePlaysCard

/-- THE TIED CARD OF 'hostelrylaw16.SlateKeeps'. -/
def slateKeepsCard : Claim7 := { stood := { row := slateKeepsRow, standIns := [], harness := (true, "5d75c43ad9ed1ce34a15f8f46174037ab610d557b6bc57e3bd2e62db822bd559"), looks := false }, kinds := [], alts := [], laidByText := true, laidKinds := [.data, .pinned], laidTests := true, laidLooks := .later }
def SlateKeepsCardSaid : Prop := Claim7.holds Tryd.pinned (.plain (OpenSpec.ofChange slateKeepsSpec)) slateKeepsCard

/-- THE TIED CARD OF 'hostelrylaw16.SlateExact'. -/
def slateExactCard : Claim7 := { stood := { row := slateExactRow, standIns := [], harness := (true, "5d75c43ad9ed1ce34a15f8f46174037ab610d557b6bc57e3bd2e62db822bd559"), looks := false }, kinds := [], alts := [], laidByText := true, laidKinds := [.data, .pinned], laidTests := true, laidLooks := .later }
def SlateExactCardSaid : Prop := Claim7.holds Tryd.pinned (.plain (OpenSpec.ofChange slateExactSpec)) slateExactCard

/-- THE SECOND FORM's CARD OF 'hostelrylaw16.SlatePlays'. -/
def slatePlaysUptoCard : Claim7 := { stood := { row := slatePlaysUptoRow, standIns := [], harness := (true, "5d75c43ad9ed1ce34a15f8f46174037ab610d557b6bc57e3bd2e62db822bd559"), looks := false }, kinds := [], alts := [], laidByText := true, laidKinds := [.data, .pinned], laidTests := true, laidLooks := .later }
def SlatePlaysUptoCardSaid : Prop := Claim7.holds Tryd.pinned (.plain (OpenSpec.upto slatePlaysSpec)) slatePlaysUptoCard

/-- THE SECOND FORM's CARD OF 'hostelrylaw16.SlateKeeps'. -/
def slateKeepsUptoCard : Claim7 := { stood := { row := slateKeepsUptoRow, standIns := [], harness := (true, "5d75c43ad9ed1ce34a15f8f46174037ab610d557b6bc57e3bd2e62db822bd559"), looks := false }, kinds := [], alts := [], laidByText := true, laidKinds := [.data, .pinned], laidTests := true, laidLooks := .later }
def SlateKeepsUptoCardSaid : Prop := Claim7.holds Tryd.pinned (.plain (OpenSpec.upto slateKeepsSpec)) slateKeepsUptoCard

/-- THE SECOND FORM's CARD OF 'hostelrylaw16.SlateExact'. -/
def slateExactUptoCard : Claim7 := { stood := { row := slateExactUptoRow, standIns := [], harness := (true, "5d75c43ad9ed1ce34a15f8f46174037ab610d557b6bc57e3bd2e62db822bd559"), looks := false }, kinds := [], alts := [], laidByText := true, laidKinds := [.data, .pinned], laidTests := true, laidLooks := .later }
def SlateExactUptoCardSaid : Prop := Claim7.holds Tryd.pinned (.plain (OpenSpec.upto slateExactSpec)) slateExactUptoCard
end Rows
end Go.Proofs.YtimhbpfeofdfnaaDoor

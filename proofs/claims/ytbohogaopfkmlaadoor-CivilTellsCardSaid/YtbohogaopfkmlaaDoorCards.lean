/-
  DERIVED. GIVEN WITH THE SEED: THE CARDS: each row of YtbohogaopfkmlaaDoorRows.lean that lists a variable, with what it lists TIED to the program's text (the seventh form; the later family's looks); each row that meets fmt, with fmt's text TOLD by the authors' own Lean function (tested against real Go, not proved from fmt's source: count such statements apart). THE CARD IS WHAT COUNTS. Prove the row's statement (the work); the ties are given (YtbohogaopfkmlaaDoorTie.lean); close each card by the builder's one call (the guide's Derived/Test/ToyasCard.lean, 'card_holds'). Laid BY PROGRAM, IN A SANDBOX (cutbox-door.mjs). By AI agents, Wed Nov 11 2026. No macro, syntax, notation, axiom, sorry.
-/
import Derived.Test.YtbohogaopfkmlaaDoorRows
import GoSem.ClaimSeven
namespace Go.Proofs.YtbohogaopfkmlaaDoor
namespace Rows

/-- THE TIED CARD OF 'hostelrylaw1.CivilTells'. -/
def civilTellsCard : Claim7 := { stood := { row := civilTellsRow, standIns := [], harness := (true, "1fdb17af0ddbe8a2eb5bd5b45b7df450676149968585722a1acd152848895a9e"), looks := false }, kinds := [], alts := [], laidByText := true, laidKinds := [.data, .data, .data], laidTests := true, laidLooks := .later }
def CivilTellsCardSaid : Prop := Claim7.holds Tryd.pinned (.plain (OpenSpec.ofChange civilTellsSpec)) civilTellsCard

/-- THE TIED CARD OF 'hostelrylaw1.CivilParses'. -/
def civilParsesCard : Claim7 := { stood := { row := civilParsesRow, standIns := [], harness := (true, "1fdb17af0ddbe8a2eb5bd5b45b7df450676149968585722a1acd152848895a9e"), looks := false }, kinds := [], alts := [], laidByText := true, laidKinds := [.data, .data, .data], laidTests := true, laidLooks := .later }
def CivilParsesCardSaid : Prop := Claim7.holds Tryd.pinned (.plain (OpenSpec.ofChange civilParsesSpec)) civilParsesCard

/-- THE TIED CARD OF 'hostelrylaw1.CivilBack'. -/
def civilBackCard : Claim7 := { stood := { row := civilBackRow, standIns := [], harness := (true, "1fdb17af0ddbe8a2eb5bd5b45b7df450676149968585722a1acd152848895a9e"), looks := false }, kinds := [], alts := [], laidByText := true, laidKinds := [.data, .data, .data], laidTests := true, laidLooks := .later }
def CivilBackCardSaid : Prop := Claim7.holds Tryd.pinned (.plain (OpenSpec.ofChange civilBackSpec)) civilBackCard

/-- THE TIED CARD OF 'hostelrylaw1.CivilSteps'. -/
def civilStepsCard : Claim7 := { stood := { row := civilStepsRow, standIns := [], harness := (true, "1fdb17af0ddbe8a2eb5bd5b45b7df450676149968585722a1acd152848895a9e"), looks := false }, kinds := [], alts := [], laidByText := true, laidKinds := [.data, .data, .data], laidTests := true, laidLooks := .later }
def CivilStepsCardSaid : Prop := Claim7.holds Tryd.pinned (.plain (OpenSpec.ofChange civilStepsSpec)) civilStepsCard

/-- THE TIED CARD OF 'hostelrylaw1.CivilMonths'. -/
def civilMonthsCard : Claim7 := { stood := { row := civilMonthsRow, standIns := [], harness := (true, "1fdb17af0ddbe8a2eb5bd5b45b7df450676149968585722a1acd152848895a9e"), looks := false }, kinds := [], alts := [], laidByText := true, laidKinds := [.data, .data, .data], laidTests := true, laidLooks := .later }
def CivilMonthsCardSaid : Prop := Claim7.holds Tryd.pinned (.plain (OpenSpec.ofChange civilMonthsSpec)) civilMonthsCard

/-- THE TIED CARD OF 'hostelrylaw1.CivilYears'. -/
def civilYearsCard : Claim7 := { stood := { row := civilYearsRow, standIns := [], harness := (true, "1fdb17af0ddbe8a2eb5bd5b45b7df450676149968585722a1acd152848895a9e"), looks := false }, kinds := [], alts := [], laidByText := true, laidKinds := [.data, .data, .data], laidTests := true, laidLooks := .later }
def CivilYearsCardSaid : Prop := Claim7.holds Tryd.pinned (.plain (OpenSpec.ofChange civilYearsSpec)) civilYearsCard

/-- THE TIED CARD OF 'hostelrylaw1.CivilNoDays'. -/
def civilNoDaysCard : Claim7 := { stood := { row := civilNoDaysRow, standIns := [], harness := (true, "1fdb17af0ddbe8a2eb5bd5b45b7df450676149968585722a1acd152848895a9e"), looks := false }, kinds := [], alts := [], laidByText := true, laidKinds := [.data, .data, .data], laidTests := true, laidLooks := .later }
def CivilNoDaysCardSaid : Prop := Claim7.holds Tryd.pinned (.plain (OpenSpec.ofChange civilNoDaysSpec)) civilNoDaysCard

/-- THE TIED CARD OF 'hostelrylaw1.CivilTexts'. -/
def civilTextsCard : Claim7 := { stood := { row := civilTextsRow, standIns := [], harness := (true, "1fdb17af0ddbe8a2eb5bd5b45b7df450676149968585722a1acd152848895a9e"), looks := false }, kinds := [], alts := [], laidByText := true, laidKinds := [.data, .data, .data], laidTests := true, laidLooks := .later }
def CivilTextsCardSaid : Prop := Claim7.holds Tryd.pinned (.plain (OpenSpec.ofChange civilTextsSpec)) civilTextsCard

/-- THE SECOND FORM's CARD OF 'hostelrylaw1.CivilTells'. -/
def civilTellsUptoCard : Claim7 := { stood := { row := civilTellsUptoRow, standIns := [], harness := (true, "1fdb17af0ddbe8a2eb5bd5b45b7df450676149968585722a1acd152848895a9e"), looks := false }, kinds := [], alts := [], laidByText := true, laidKinds := [.data, .data, .data], laidTests := true, laidLooks := .later }
def CivilTellsUptoCardSaid : Prop := Claim7.holds Tryd.pinned (.plain (OpenSpec.upto civilTellsSpec)) civilTellsUptoCard

/-- THE SECOND FORM's CARD OF 'hostelrylaw1.CivilParses'. -/
def civilParsesUptoCard : Claim7 := { stood := { row := civilParsesUptoRow, standIns := [], harness := (true, "1fdb17af0ddbe8a2eb5bd5b45b7df450676149968585722a1acd152848895a9e"), looks := false }, kinds := [], alts := [], laidByText := true, laidKinds := [.data, .data, .data], laidTests := true, laidLooks := .later }
def CivilParsesUptoCardSaid : Prop := Claim7.holds Tryd.pinned (.plain (OpenSpec.upto civilParsesSpec)) civilParsesUptoCard

/-- THE SECOND FORM's CARD OF 'hostelrylaw1.CivilBack'. -/
def civilBackUptoCard : Claim7 := { stood := { row := civilBackUptoRow, standIns := [], harness := (true, "1fdb17af0ddbe8a2eb5bd5b45b7df450676149968585722a1acd152848895a9e"), looks := false }, kinds := [], alts := [], laidByText := true, laidKinds := [.data, .data, .data], laidTests := true, laidLooks := .later }
def CivilBackUptoCardSaid : Prop := Claim7.holds Tryd.pinned (.plain (OpenSpec.upto civilBackSpec)) civilBackUptoCard

/-- THE SECOND FORM's CARD OF 'hostelrylaw1.CivilSteps'. -/
def civilStepsUptoCard : Claim7 := { stood := { row := civilStepsUptoRow, standIns := [], harness := (true, "1fdb17af0ddbe8a2eb5bd5b45b7df450676149968585722a1acd152848895a9e"), looks := false }, kinds := [], alts := [], laidByText := true, laidKinds := [.data, .data, .data], laidTests := true, laidLooks := .later }
def CivilStepsUptoCardSaid : Prop := Claim7.holds Tryd.pinned (.plain (OpenSpec.upto civilStepsSpec)) civilStepsUptoCard

/-- THE SECOND FORM's CARD OF 'hostelrylaw1.CivilMonths'. -/
def civilMonthsUptoCard : Claim7 := { stood := { row := civilMonthsUptoRow, standIns := [], harness := (true, "1fdb17af0ddbe8a2eb5bd5b45b7df450676149968585722a1acd152848895a9e"), looks := false }, kinds := [], alts := [], laidByText := true, laidKinds := [.data, .data, .data], laidTests := true, laidLooks := .later }
def CivilMonthsUptoCardSaid : Prop := Claim7.holds Tryd.pinned (.plain (OpenSpec.upto civilMonthsSpec)) civilMonthsUptoCard

/-- THE SECOND FORM's CARD OF 'hostelrylaw1.CivilYears'. -/
def civilYearsUptoCard : Claim7 := { stood := { row := civilYearsUptoRow, standIns := [], harness := (true, "1fdb17af0ddbe8a2eb5bd5b45b7df450676149968585722a1acd152848895a9e"), looks := false }, kinds := [], alts := [], laidByText := true, laidKinds := [.data, .data, .data], laidTests := true, laidLooks := .later }
def CivilYearsUptoCardSaid : Prop := Claim7.holds Tryd.pinned (.plain (OpenSpec.upto civilYearsSpec)) civilYearsUptoCard

/-- THE SECOND FORM's CARD OF 'hostelrylaw1.CivilNoDays'. -/
def civilNoDaysUptoCard : Claim7 := { stood := { row := civilNoDaysUptoRow, standIns := [], harness := (true, "1fdb17af0ddbe8a2eb5bd5b45b7df450676149968585722a1acd152848895a9e"), looks := false }, kinds := [], alts := [], laidByText := true, laidKinds := [.data, .data, .data], laidTests := true, laidLooks := .later }
def CivilNoDaysUptoCardSaid : Prop := Claim7.holds Tryd.pinned (.plain (OpenSpec.upto civilNoDaysSpec)) civilNoDaysUptoCard

/-- THE SECOND FORM's CARD OF 'hostelrylaw1.CivilTexts'. -/
def civilTextsUptoCard : Claim7 := { stood := { row := civilTextsUptoRow, standIns := [], harness := (true, "1fdb17af0ddbe8a2eb5bd5b45b7df450676149968585722a1acd152848895a9e"), looks := false }, kinds := [], alts := [], laidByText := true, laidKinds := [.data, .data, .data], laidTests := true, laidLooks := .later }
def CivilTextsUptoCardSaid : Prop := Claim7.holds Tryd.pinned (.plain (OpenSpec.upto civilTextsSpec)) civilTextsUptoCard
end Rows
end Go.Proofs.YtbohogaopfkmlaaDoor

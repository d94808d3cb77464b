/-
  No cell of these rows narrows 'for every input' (looked for: loops, veiled, ifaces, maps, wideKeys, modest, calm, conditions, laid).
  DERIVED. THE GIVEN ROWS OF THIS SEAT. 6 by the template 'for every input the law returns true; each argument reads behind the call as it read before'; 0 by the template 'total and deterministic' (their statements: YtigbfmlpbobpfaaTotals.lean).
  GIVEN WITH THE SEED: the statements are not yours to turn. If you find one false, say at which input.
  Laid BY PROGRAM, IN A SANDBOX (cutbox-rows.mjs): the forced cells as the released guide's own fill.sh prints them over the translation f330fc43dffb5f0a… (all of the seat's roots in one cut). By AI agents, Wed Nov 11 2026. No macro, syntax, notation, axiom, sorry.
-/
import Derived.Test.YtigbfmlpbobpfaaChecked
import GoSem.Claim
import GoSem.ClaimJoined
import GoSem.ClaimMapViews
import Derived.JoinedTies
import Derived.KernelRfl
namespace Go.Proofs.Ytigbfmlpbobpfaa
/- THE CELL 'sum', in the pinned program and in every row, IS THE sha256 OF THE DUMP (.gsa) THAT YtigbfmlpbobpfaaProg.lean LOADS. Nothing in Lean hashes anything: it is a label: what it is worth is what the hold of that sum in a sandbox is worth. -/
noncomputable def Try.pinned : Pinned := { name := "ytigbfmlpbobpfaa", sum := "f330fc43dffb5f0a8a626d8c92acfd5b769875066d4a4ececd8a7e3e1c9e5894", checked := Try.checked }
namespace Rows
def none {H : Type} : Left H := { results := [], args := [] }

/-- 'hostelrylaw4.RuleTells': WHATEVER THE INPUT: true; the input reads as it did. -/
def ruleTellsSpec : ChangeSpec := { name := "ruleTells", fn := fun _ => fun
  | [d1, d2, d3] => { results := [.lit (.bool true)], args := [d1, d2, d3] }
  | _ => none }
def ruleTellsRow : OpenClaim := { program := "ytigbfmlpbobpfaa", sum := "f330fc43dffb5f0a8a626d8c92acfd5b769875066d4a4ececd8a7e3e1c9e5894", func := "hostelry/hostelrylaw4.RuleTells", spec := "ruleTells", unfollowed := true, recurses := true, apart := false }
def RuleTellsSaid : Prop := ruleTellsRow.holds Try.pinned (OpenSpec.ofChange ruleTellsSpec)

/-- ITS FALSE NEIGHBOUR: 'it returns false'. Refute it at one input. -/
def ruleTellsWrong : ChangeSpec := { name := "ruleTells", fn := fun _ => fun
  | [d1, d2, d3] => { results := [.lit (.bool false)], args := [d1, d2, d3] }
  | _ => none }
def RuleTellsWrongFalsely : Prop := ruleTellsRow.holds Try.pinned (OpenSpec.ofChange ruleTellsWrong)

/-- 'hostelrylaw4.RuleSpoils': WHATEVER THE INPUT: true; the input reads as it did. -/
def ruleSpoilsSpec : ChangeSpec := { name := "ruleSpoils", fn := fun _ => fun
  | [d1, d2] => { results := [.lit (.bool true)], args := [d1, d2] }
  | _ => none }
def ruleSpoilsRow : OpenClaim := { program := "ytigbfmlpbobpfaa", sum := "f330fc43dffb5f0a8a626d8c92acfd5b769875066d4a4ececd8a7e3e1c9e5894", func := "hostelry/hostelrylaw4.RuleSpoils", spec := "ruleSpoils", unfollowed := true, recurses := true, apart := false }
def RuleSpoilsSaid : Prop := ruleSpoilsRow.holds Try.pinned (OpenSpec.ofChange ruleSpoilsSpec)

/-- ITS FALSE NEIGHBOUR: 'it returns false'. Refute it at one input. -/
def ruleSpoilsWrong : ChangeSpec := { name := "ruleSpoils", fn := fun _ => fun
  | [d1, d2] => { results := [.lit (.bool false)], args := [d1, d2] }
  | _ => none }
def RuleSpoilsWrongFalsely : Prop := ruleSpoilsRow.holds Try.pinned (OpenSpec.ofChange ruleSpoilsWrong)

/-- 'hostelrylaw4.RuleOrdinals': WHATEVER THE INPUT: true; the input reads as it did. -/
def ruleOrdinalsSpec : ChangeSpec := { name := "ruleOrdinals", fn := fun _ => fun
  | [d1, d2, d3] => { results := [.lit (.bool true)], args := [d1, d2, d3] }
  | _ => none }
def ruleOrdinalsRow : OpenClaim := { program := "ytigbfmlpbobpfaa", sum := "f330fc43dffb5f0a8a626d8c92acfd5b769875066d4a4ececd8a7e3e1c9e5894", func := "hostelry/hostelrylaw4.RuleOrdinals", spec := "ruleOrdinals", unfollowed := true, recurses := true, apart := false }
def RuleOrdinalsSaid : Prop := ruleOrdinalsRow.holds Try.pinned (OpenSpec.ofChange ruleOrdinalsSpec)

/-- ITS FALSE NEIGHBOUR: 'it returns false'. Refute it at one input. -/
def ruleOrdinalsWrong : ChangeSpec := { name := "ruleOrdinals", fn := fun _ => fun
  | [d1, d2, d3] => { results := [.lit (.bool false)], args := [d1, d2, d3] }
  | _ => none }
def RuleOrdinalsWrongFalsely : Prop := ruleOrdinalsRow.holds Try.pinned (OpenSpec.ofChange ruleOrdinalsWrong)

/-- 'hostelrylaw4.RuleMonthDays': WHATEVER THE INPUT: true; the input reads as it did. -/
def ruleMonthDaysSpec : ChangeSpec := { name := "ruleMonthDays", fn := fun _ => fun
  | [d1, d2] => { results := [.lit (.bool true)], args := [d1, d2] }
  | _ => none }
def ruleMonthDaysRow : OpenClaim := { program := "ytigbfmlpbobpfaa", sum := "f330fc43dffb5f0a8a626d8c92acfd5b769875066d4a4ececd8a7e3e1c9e5894", func := "hostelry/hostelrylaw4.RuleMonthDays", spec := "ruleMonthDays", unfollowed := true, recurses := true, apart := false }
def RuleMonthDaysSaid : Prop := ruleMonthDaysRow.holds Try.pinned (OpenSpec.ofChange ruleMonthDaysSpec)

/-- ITS FALSE NEIGHBOUR: 'it returns false'. Refute it at one input. -/
def ruleMonthDaysWrong : ChangeSpec := { name := "ruleMonthDays", fn := fun _ => fun
  | [d1, d2] => { results := [.lit (.bool false)], args := [d1, d2] }
  | _ => none }
def RuleMonthDaysWrongFalsely : Prop := ruleMonthDaysRow.holds Try.pinned (OpenSpec.ofChange ruleMonthDaysWrong)

/-- 'hostelrylaw4.RuleLists': WHATEVER THE INPUT: true; the input reads as it did. -/
def ruleListsSpec : ChangeSpec := { name := "ruleLists", fn := fun _ => fun
  | [d1, d2] => { results := [.lit (.bool true)], args := [d1, d2] }
  | _ => none }
def ruleListsRow : OpenClaim := { program := "ytigbfmlpbobpfaa", sum := "f330fc43dffb5f0a8a626d8c92acfd5b769875066d4a4ececd8a7e3e1c9e5894", func := "hostelry/hostelrylaw4.RuleLists", spec := "ruleLists", unfollowed := true, recurses := true, apart := false }
def RuleListsSaid : Prop := ruleListsRow.holds Try.pinned (OpenSpec.ofChange ruleListsSpec)

/-- ITS FALSE NEIGHBOUR: 'it returns false'. Refute it at one input. -/
def ruleListsWrong : ChangeSpec := { name := "ruleLists", fn := fun _ => fun
  | [d1, d2] => { results := [.lit (.bool false)], args := [d1, d2] }
  | _ => none }
def RuleListsWrongFalsely : Prop := ruleListsRow.holds Try.pinned (OpenSpec.ofChange ruleListsWrong)

/-- 'hostelrylaw4.RuleWeeks': WHATEVER THE INPUT: true; the input reads as it did. -/
def ruleWeeksSpec : ChangeSpec := { name := "ruleWeeks", fn := fun _ => fun
  | [d1, d2] => { results := [.lit (.bool true)], args := [d1, d2] }
  | _ => none }
def ruleWeeksRow : OpenClaim := { program := "ytigbfmlpbobpfaa", sum := "f330fc43dffb5f0a8a626d8c92acfd5b769875066d4a4ececd8a7e3e1c9e5894", func := "hostelry/hostelrylaw4.RuleWeeks", spec := "ruleWeeks", unfollowed := true, recurses := true, apart := false }
def RuleWeeksSaid : Prop := ruleWeeksRow.holds Try.pinned (OpenSpec.ofChange ruleWeeksSpec)

/-- ITS FALSE NEIGHBOUR: 'it returns false'. Refute it at one input. -/
def ruleWeeksWrong : ChangeSpec := { name := "ruleWeeks", fn := fun _ => fun
  | [d1, d2] => { results := [.lit (.bool false)], args := [d1, d2] }
  | _ => none }
def RuleWeeksWrongFalsely : Prop := ruleWeeksRow.holds Try.pinned (OpenSpec.ofChange ruleWeeksWrong)

/- THE SECOND FORM. 'bulk': how many values and letters a reading holds, each counted each time it is reached (what is shared counts as often as it is met; a slice's spare places count too). A statement '..UptoSaid' is the law's where the arguments, and the package variables that the reading takes, are together of bulk at most 1048576: NARROWER than '..Said'. Prove '..Said' where nothing that the law and all that it calls make is longer than what came in: it says more and counts as full. Else prove '..UptoSaid'. A law counts once. -/
mutual
def uptoBulk {H : Type} : DataW H → Nat
  | .lit (.string bytes) => bytes.length + 1
  | .lit _ => 1
  | .nil => 1
  | .ptr d => uptoBulk d + 1
  | .slice elems spare => uptoBulkAll elems + uptoBulkAll spare + 1
  | .agg parts => uptoBulkAll parts + 1
  | .iface _ d => uptoBulk d + 1
  | .map entries => uptoBulkEntries entries + 1
  | .held _ => 1
def uptoBulkAll {H : Type} : List (DataW H) → Nat
  | [] => 0
  | d :: r => uptoBulk d + uptoBulkAll r
def uptoBulkEntries {H : Type} : List (Lit × DataW H) → Nat
  | [] => 0
  | x :: r => uptoBulkEntry x + uptoBulkEntries r
def uptoBulkEntry {H : Type} : Lit × DataW H → Nat
  | (.string bytes, d) => bytes.length + uptoBulk d + 1
  | (_, d) => uptoBulk d + 1
 end
def uptoSmall : (H : Type) → List (DataW H) → Bool := fun _ ds => decide (uptoBulkAll ds ≤ 1048576)
def OpenSpec.upto (s : _root_.Go.ChangeSpec) : _root_.Go.OpenSpec := { _root_.Go.OpenSpec.ofChange s with cond := some uptoSmall }

/-- 'hostelrylaw4.RuleTells', WHERE WHAT IT READS IS OF BULK AT MOST 1048576: true; the input reads as it did. -/
def ruleTellsUptoRow : OpenClaim := { program := "ytigbfmlpbobpfaa", sum := "f330fc43dffb5f0a8a626d8c92acfd5b769875066d4a4ececd8a7e3e1c9e5894", func := "hostelry/hostelrylaw4.RuleTells", spec := "ruleTells", unfollowed := true, recurses := true, apart := false, narrowed := true }
def RuleTellsUptoSaid : Prop := ruleTellsUptoRow.holds Try.pinned (OpenSpec.upto ruleTellsSpec)

/-- 'hostelrylaw4.RuleSpoils', WHERE WHAT IT READS IS OF BULK AT MOST 1048576: true; the input reads as it did. -/
def ruleSpoilsUptoRow : OpenClaim := { program := "ytigbfmlpbobpfaa", sum := "f330fc43dffb5f0a8a626d8c92acfd5b769875066d4a4ececd8a7e3e1c9e5894", func := "hostelry/hostelrylaw4.RuleSpoils", spec := "ruleSpoils", unfollowed := true, recurses := true, apart := false, narrowed := true }
def RuleSpoilsUptoSaid : Prop := ruleSpoilsUptoRow.holds Try.pinned (OpenSpec.upto ruleSpoilsSpec)

/-- 'hostelrylaw4.RuleOrdinals', WHERE WHAT IT READS IS OF BULK AT MOST 1048576: true; the input reads as it did. -/
def ruleOrdinalsUptoRow : OpenClaim := { program := "ytigbfmlpbobpfaa", sum := "f330fc43dffb5f0a8a626d8c92acfd5b769875066d4a4ececd8a7e3e1c9e5894", func := "hostelry/hostelrylaw4.RuleOrdinals", spec := "ruleOrdinals", unfollowed := true, recurses := true, apart := false, narrowed := true }
def RuleOrdinalsUptoSaid : Prop := ruleOrdinalsUptoRow.holds Try.pinned (OpenSpec.upto ruleOrdinalsSpec)

/-- 'hostelrylaw4.RuleMonthDays', WHERE WHAT IT READS IS OF BULK AT MOST 1048576: true; the input reads as it did. -/
def ruleMonthDaysUptoRow : OpenClaim := { program := "ytigbfmlpbobpfaa", sum := "f330fc43dffb5f0a8a626d8c92acfd5b769875066d4a4ececd8a7e3e1c9e5894", func := "hostelry/hostelrylaw4.RuleMonthDays", spec := "ruleMonthDays", unfollowed := true, recurses := true, apart := false, narrowed := true }
def RuleMonthDaysUptoSaid : Prop := ruleMonthDaysUptoRow.holds Try.pinned (OpenSpec.upto ruleMonthDaysSpec)

/-- 'hostelrylaw4.RuleLists', WHERE WHAT IT READS IS OF BULK AT MOST 1048576: true; the input reads as it did. -/
def ruleListsUptoRow : OpenClaim := { program := "ytigbfmlpbobpfaa", sum := "f330fc43dffb5f0a8a626d8c92acfd5b769875066d4a4ececd8a7e3e1c9e5894", func := "hostelry/hostelrylaw4.RuleLists", spec := "ruleLists", unfollowed := true, recurses := true, apart := false, narrowed := true }
def RuleListsUptoSaid : Prop := ruleListsUptoRow.holds Try.pinned (OpenSpec.upto ruleListsSpec)

/-- 'hostelrylaw4.RuleWeeks', WHERE WHAT IT READS IS OF BULK AT MOST 1048576: true; the input reads as it did. -/
def ruleWeeksUptoRow : OpenClaim := { program := "ytigbfmlpbobpfaa", sum := "f330fc43dffb5f0a8a626d8c92acfd5b769875066d4a4ececd8a7e3e1c9e5894", func := "hostelry/hostelrylaw4.RuleWeeks", spec := "ruleWeeks", unfollowed := true, recurses := true, apart := false, narrowed := true }
def RuleWeeksUptoSaid : Prop := ruleWeeksUptoRow.holds Try.pinned (OpenSpec.upto ruleWeeksSpec)

end Rows
end Go.Proofs.Ytigbfmlpbobpfaa

/-
  No cell of these rows narrows 'for every input' (looked for: loops, veiled, ifaces, maps, wideKeys, modest, calm, conditions, laid).
  DERIVED. THE GIVEN ROWS OF THIS SEAT. 7 by the template 'for every input the law returns true; each argument reads behind the call as it read before'; 0 by the template 'total and deterministic' (their statements: YtdmplojfidkipaaTotals.lean).
  GIVEN WITH THE SEED: the statements are not yours to turn. If you find one false, say at which input.
  Laid BY PROGRAM, IN A SANDBOX (cutbox-rows.mjs): the forced cells as the released guide's own fill.sh prints them over the translation 59c568f0f298af97… (all of the seat's roots in one cut). By AI agents, Wed Nov 11 2026. No macro, syntax, notation, axiom, sorry.
-/
import Derived.Test.YtdmplojfidkipaaChecked
import GoSem.Claim
import GoSem.ClaimJoined
import GoSem.ClaimMapViews
import Derived.JoinedTies
import Derived.KernelRfl
namespace Go.Proofs.Ytdmplojfidkipaa
/- THE CELL 'sum', in the pinned program and in every row, IS THE sha256 OF THE DUMP (.gsa) THAT YtdmplojfidkipaaProg.lean LOADS. Nothing in Lean hashes anything: it is a label: what it is worth is what the hold of that sum in a sandbox is worth. -/
noncomputable def Try.pinned : Pinned := { name := "ytdmplojfidkipaa", sum := "59c568f0f298af97802c77ee9827323c7eab937f565a2bd8fd64ec23b9f1b550", checked := Try.checked }
namespace Rows
def none {H : Type} : Left H := { results := [], args := [] }

/-- 'hostelrylaw6.ExpandFits': WHATEVER THE INPUT: true; the input reads as it did. -/
def expandFitsSpec : ChangeSpec := { name := "expandFits", fn := fun _ => fun
  | [d1, d2, d3] => { results := [.lit (.bool true)], args := [d1, d2, d3] }
  | _ => none }
def expandFitsRow : OpenClaim := { program := "ytdmplojfidkipaa", sum := "59c568f0f298af97802c77ee9827323c7eab937f565a2bd8fd64ec23b9f1b550", func := "hostelry/hostelrylaw6.ExpandFits", spec := "expandFits", unfollowed := true, recurses := true, apart := false }
def ExpandFitsSaid : Prop := expandFitsRow.holds Try.pinned (OpenSpec.ofChange expandFitsSpec)

/-- ITS FALSE NEIGHBOUR: 'it returns false'. Refute it at one input. -/
def expandFitsWrong : ChangeSpec := { name := "expandFits", fn := fun _ => fun
  | [d1, d2, d3] => { results := [.lit (.bool false)], args := [d1, d2, d3] }
  | _ => none }
def ExpandFitsWrongFalsely : Prop := expandFitsRow.holds Try.pinned (OpenSpec.ofChange expandFitsWrong)

/-- 'hostelrylaw6.ExpandCounts': WHATEVER THE INPUT: true; the input reads as it did. -/
def expandCountsSpec : ChangeSpec := { name := "expandCounts", fn := fun _ => fun
  | [d1, d2, d3] => { results := [.lit (.bool true)], args := [d1, d2, d3] }
  | _ => none }
def expandCountsRow : OpenClaim := { program := "ytdmplojfidkipaa", sum := "59c568f0f298af97802c77ee9827323c7eab937f565a2bd8fd64ec23b9f1b550", func := "hostelry/hostelrylaw6.ExpandCounts", spec := "expandCounts", unfollowed := true, recurses := true, apart := false }
def ExpandCountsSaid : Prop := expandCountsRow.holds Try.pinned (OpenSpec.ofChange expandCountsSpec)

/-- ITS FALSE NEIGHBOUR: 'it returns false'. Refute it at one input. -/
def expandCountsWrong : ChangeSpec := { name := "expandCounts", fn := fun _ => fun
  | [d1, d2, d3] => { results := [.lit (.bool false)], args := [d1, d2, d3] }
  | _ => none }
def ExpandCountsWrongFalsely : Prop := expandCountsRow.holds Try.pinned (OpenSpec.ofChange expandCountsWrong)

/-- 'hostelrylaw6.ExpandDaily': WHATEVER THE INPUT: true; the input reads as it did. -/
def expandDailySpec : ChangeSpec := { name := "expandDaily", fn := fun _ => fun
  | [d1, d2, d3, d4] => { results := [.lit (.bool true)], args := [d1, d2, d3, d4] }
  | _ => none }
def expandDailyRow : OpenClaim := { program := "ytdmplojfidkipaa", sum := "59c568f0f298af97802c77ee9827323c7eab937f565a2bd8fd64ec23b9f1b550", func := "hostelry/hostelrylaw6.ExpandDaily", spec := "expandDaily", unfollowed := true, recurses := true, apart := false }
def ExpandDailySaid : Prop := expandDailyRow.holds Try.pinned (OpenSpec.ofChange expandDailySpec)

/-- ITS FALSE NEIGHBOUR: 'it returns false'. Refute it at one input. -/
def expandDailyWrong : ChangeSpec := { name := "expandDaily", fn := fun _ => fun
  | [d1, d2, d3, d4] => { results := [.lit (.bool false)], args := [d1, d2, d3, d4] }
  | _ => none }
def ExpandDailyWrongFalsely : Prop := expandDailyRow.holds Try.pinned (OpenSpec.ofChange expandDailyWrong)

/-- 'hostelrylaw6.ExpandWeekdays': WHATEVER THE INPUT: true; the input reads as it did. -/
def expandWeekdaysSpec : ChangeSpec := { name := "expandWeekdays", fn := fun _ => fun
  | [d1, d2, d3] => { results := [.lit (.bool true)], args := [d1, d2, d3] }
  | _ => none }
def expandWeekdaysRow : OpenClaim := { program := "ytdmplojfidkipaa", sum := "59c568f0f298af97802c77ee9827323c7eab937f565a2bd8fd64ec23b9f1b550", func := "hostelry/hostelrylaw6.ExpandWeekdays", spec := "expandWeekdays", unfollowed := true, recurses := true, apart := false }
def ExpandWeekdaysSaid : Prop := expandWeekdaysRow.holds Try.pinned (OpenSpec.ofChange expandWeekdaysSpec)

/-- ITS FALSE NEIGHBOUR: 'it returns false'. Refute it at one input. -/
def expandWeekdaysWrong : ChangeSpec := { name := "expandWeekdays", fn := fun _ => fun
  | [d1, d2, d3] => { results := [.lit (.bool false)], args := [d1, d2, d3] }
  | _ => none }
def ExpandWeekdaysWrongFalsely : Prop := expandWeekdaysRow.holds Try.pinned (OpenSpec.ofChange expandWeekdaysWrong)

/-- 'hostelrylaw6.ExpandMonthEnds': WHATEVER THE INPUT: true; the input reads as it did. -/
def expandMonthEndsSpec : ChangeSpec := { name := "expandMonthEnds", fn := fun _ => fun
  | [d1, d2, d3] => { results := [.lit (.bool true)], args := [d1, d2, d3] }
  | _ => none }
def expandMonthEndsRow : OpenClaim := { program := "ytdmplojfidkipaa", sum := "59c568f0f298af97802c77ee9827323c7eab937f565a2bd8fd64ec23b9f1b550", func := "hostelry/hostelrylaw6.ExpandMonthEnds", spec := "expandMonthEnds", unfollowed := true, recurses := true, apart := false }
def ExpandMonthEndsSaid : Prop := expandMonthEndsRow.holds Try.pinned (OpenSpec.ofChange expandMonthEndsSpec)

/-- ITS FALSE NEIGHBOUR: 'it returns false'. Refute it at one input. -/
def expandMonthEndsWrong : ChangeSpec := { name := "expandMonthEnds", fn := fun _ => fun
  | [d1, d2, d3] => { results := [.lit (.bool false)], args := [d1, d2, d3] }
  | _ => none }
def ExpandMonthEndsWrongFalsely : Prop := expandMonthEndsRow.holds Try.pinned (OpenSpec.ofChange expandMonthEndsWrong)

/-- 'hostelrylaw6.ExpandExcept': WHATEVER THE INPUT: true; the input reads as it did. -/
def expandExceptSpec : ChangeSpec := { name := "expandExcept", fn := fun _ => fun
  | [d1, d2, d3] => { results := [.lit (.bool true)], args := [d1, d2, d3] }
  | _ => none }
def expandExceptRow : OpenClaim := { program := "ytdmplojfidkipaa", sum := "59c568f0f298af97802c77ee9827323c7eab937f565a2bd8fd64ec23b9f1b550", func := "hostelry/hostelrylaw6.ExpandExcept", spec := "expandExcept", unfollowed := true, recurses := true, apart := false }
def ExpandExceptSaid : Prop := expandExceptRow.holds Try.pinned (OpenSpec.ofChange expandExceptSpec)

/-- ITS FALSE NEIGHBOUR: 'it returns false'. Refute it at one input. -/
def expandExceptWrong : ChangeSpec := { name := "expandExcept", fn := fun _ => fun
  | [d1, d2, d3] => { results := [.lit (.bool false)], args := [d1, d2, d3] }
  | _ => none }
def ExpandExceptWrongFalsely : Prop := expandExceptRow.holds Try.pinned (OpenSpec.ofChange expandExceptWrong)

/-- 'hostelrylaw6.ExpandMany': WHATEVER THE INPUT: true; the input reads as it did. -/
def expandManySpec : ChangeSpec := { name := "expandMany", fn := fun _ => fun
  | [d1, d2] => { results := [.lit (.bool true)], args := [d1, d2] }
  | _ => none }
def expandManyRow : OpenClaim := { program := "ytdmplojfidkipaa", sum := "59c568f0f298af97802c77ee9827323c7eab937f565a2bd8fd64ec23b9f1b550", func := "hostelry/hostelrylaw6.ExpandMany", spec := "expandMany", unfollowed := true, recurses := true, apart := false }
def ExpandManySaid : Prop := expandManyRow.holds Try.pinned (OpenSpec.ofChange expandManySpec)

/-- ITS FALSE NEIGHBOUR: 'it returns false'. Refute it at one input. -/
def expandManyWrong : ChangeSpec := { name := "expandMany", fn := fun _ => fun
  | [d1, d2] => { results := [.lit (.bool false)], args := [d1, d2] }
  | _ => none }
def ExpandManyWrongFalsely : Prop := expandManyRow.holds Try.pinned (OpenSpec.ofChange expandManyWrong)

/- THE SECOND FORM. 'bulk': how many values and letters a reading holds, each counted each time it is reached (what is shared counts as often as it is met; a slice's spare places count too). A statement '..UptoSaid' is the law's where the arguments, and the package variables that the reading takes, are together of bulk at most 1048576: NARROWER than '..Said'. Prove '..Said' where nothing that the law and all that it calls make is longer than what came in: it says more and counts as full. Else prove '..UptoSaid'. A law counts once. -/
mutual
def uptoBulk {H : Type} : DataW H → Nat
  | .lit (.string bytes) => bytes.length + 1
  | .lit _ => 1
  | .nil => 1
  | .ptr d => uptoBulk d + 1
  | .slice elems spare => uptoBulkAll elems + uptoBulkAll spare + 1
  | .agg parts => uptoBulkAll parts + 1
  | .iface _ d => uptoBulk d + 1
  | .map entries => uptoBulkEntries entries + 1
  | .held _ => 1
def uptoBulkAll {H : Type} : List (DataW H) → Nat
  | [] => 0
  | d :: r => uptoBulk d + uptoBulkAll r
def uptoBulkEntries {H : Type} : List (Lit × DataW H) → Nat
  | [] => 0
  | x :: r => uptoBulkEntry x + uptoBulkEntries r
def uptoBulkEntry {H : Type} : Lit × DataW H → Nat
  | (.string bytes, d) => bytes.length + uptoBulk d + 1
  | (_, d) => uptoBulk d + 1
 end
def uptoSmall : (H : Type) → List (DataW H) → Bool := fun _ ds => decide (uptoBulkAll ds ≤ 1048576)
def OpenSpec.upto (s : _root_.Go.ChangeSpec) : _root_.Go.OpenSpec := { _root_.Go.OpenSpec.ofChange s with cond := some uptoSmall }

/-- 'hostelrylaw6.ExpandFits', WHERE WHAT IT READS IS OF BULK AT MOST 1048576: true; the input reads as it did. -/
def expandFitsUptoRow : OpenClaim := { program := "ytdmplojfidkipaa", sum := "59c568f0f298af97802c77ee9827323c7eab937f565a2bd8fd64ec23b9f1b550", func := "hostelry/hostelrylaw6.ExpandFits", spec := "expandFits", unfollowed := true, recurses := true, apart := false, narrowed := true }
def ExpandFitsUptoSaid : Prop := expandFitsUptoRow.holds Try.pinned (OpenSpec.upto expandFitsSpec)

/-- 'hostelrylaw6.ExpandCounts', WHERE WHAT IT READS IS OF BULK AT MOST 1048576: true; the input reads as it did. -/
def expandCountsUptoRow : OpenClaim := { program := "ytdmplojfidkipaa", sum := "59c568f0f298af97802c77ee9827323c7eab937f565a2bd8fd64ec23b9f1b550", func := "hostelry/hostelrylaw6.ExpandCounts", spec := "expandCounts", unfollowed := true, recurses := true, apart := false, narrowed := true }
def ExpandCountsUptoSaid : Prop := expandCountsUptoRow.holds Try.pinned (OpenSpec.upto expandCountsSpec)

/-- 'hostelrylaw6.ExpandDaily', WHERE WHAT IT READS IS OF BULK AT MOST 1048576: true; the input reads as it did. -/
def expandDailyUptoRow : OpenClaim := { program := "ytdmplojfidkipaa", sum := "59c568f0f298af97802c77ee9827323c7eab937f565a2bd8fd64ec23b9f1b550", func := "hostelry/hostelrylaw6.ExpandDaily", spec := "expandDaily", unfollowed := true, recurses := true, apart := false, narrowed := true }
def ExpandDailyUptoSaid : Prop := expandDailyUptoRow.holds Try.pinned (OpenSpec.upto expandDailySpec)

/-- 'hostelrylaw6.ExpandWeekdays', WHERE WHAT IT READS IS OF BULK AT MOST 1048576: true; the input reads as it did. -/
def expandWeekdaysUptoRow : OpenClaim := { program := "ytdmplojfidkipaa", sum := "59c568f0f298af97802c77ee9827323c7eab937f565a2bd8fd64ec23b9f1b550", func := "hostelry/hostelrylaw6.ExpandWeekdays", spec := "expandWeekdays", unfollowed := true, recurses := true, apart := false, narrowed := true }
def ExpandWeekdaysUptoSaid : Prop := expandWeekdaysUptoRow.holds Try.pinned (OpenSpec.upto expandWeekdaysSpec)

/-- 'hostelrylaw6.ExpandMonthEnds', WHERE WHAT IT READS IS OF BULK AT MOST 1048576: true; the input reads as it did. -/
def expandMonthEndsUptoRow : OpenClaim := { program := "ytdmplojfidkipaa", sum := "59c568f0f298af97802c77ee9827323c7eab937f565a2bd8fd64ec23b9f1b550", func := "hostelry/hostelrylaw6.ExpandMonthEnds", spec := "expandMonthEnds", unfollowed := true, recurses := true, apart := false, narrowed := true }
def ExpandMonthEndsUptoSaid : Prop := expandMonthEndsUptoRow.holds Try.pinned (OpenSpec.upto expandMonthEndsSpec)

/-- 'hostelrylaw6.ExpandExcept', WHERE WHAT IT READS IS OF BULK AT MOST 1048576: true; the input reads as it did. -/
def expandExceptUptoRow : OpenClaim := { program := "ytdmplojfidkipaa", sum := "59c568f0f298af97802c77ee9827323c7eab937f565a2bd8fd64ec23b9f1b550", func := "hostelry/hostelrylaw6.ExpandExcept", spec := "expandExcept", unfollowed := true, recurses := true, apart := false, narrowed := true }
def ExpandExceptUptoSaid : Prop := expandExceptUptoRow.holds Try.pinned (OpenSpec.upto expandExceptSpec)

/-- 'hostelrylaw6.ExpandMany', WHERE WHAT IT READS IS OF BULK AT MOST 1048576: true; the input reads as it did. -/
def expandManyUptoRow : OpenClaim := { program := "ytdmplojfidkipaa", sum := "59c568f0f298af97802c77ee9827323c7eab937f565a2bd8fd64ec23b9f1b550", func := "hostelry/hostelrylaw6.ExpandMany", spec := "expandMany", unfollowed := true, recurses := true, apart := false, narrowed := true }
def ExpandManyUptoSaid : Prop := expandManyUptoRow.holds Try.pinned (OpenSpec.upto expandManySpec)

end Rows
end Go.Proofs.Ytdmplojfidkipaa

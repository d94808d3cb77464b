/-
  No cell of these rows narrows 'for every input' (looked for: loops, veiled, ifaces, maps, wideKeys, modest, calm, conditions, laid).
  DERIVED. THE GIVEN ROWS OF THIS SEAT. 5 by the template 'for every input the law returns true; each argument reads behind the call as it read before'; 0 by the template 'total and deterministic' (their statements: YtcjkghpcjjbjhaaTotals.lean).
  GIVEN WITH THE SEED: the statements are not yours to turn. If you find one false, say at which input.
  Laid BY PROGRAM, IN A SANDBOX (cutbox-rows.mjs): the forced cells as the released guide's own fill.sh prints them over the translation 0d3f6577a894ec34… (all of the seat's roots in one cut). By AI agents, Wed Nov 11 2026. No macro, syntax, notation, axiom, sorry.
-/
import Derived.Test.YtcjkghpcjjbjhaaChecked
import GoSem.Claim
import GoSem.ClaimJoined
import GoSem.ClaimMapViews
import Derived.JoinedTies
import Derived.KernelRfl
namespace Go.Proofs.Ytcjkghpcjjbjhaa
/- THE CELL 'sum', in the pinned program and in every row, IS THE sha256 OF THE DUMP (.gsa) THAT YtcjkghpcjjbjhaaProg.lean LOADS. Nothing in Lean hashes anything: it is a label: what it is worth is what the hold of that sum in a sandbox is worth. -/
noncomputable def Try.pinned : Pinned := { name := "ytcjkghpcjjbjhaa", sum := "0d3f6577a894ec34fb97426029cf21c2c448ad94d741ab4ab6b9400c3363e3e6", checked := Try.checked }
namespace Rows
def none {H : Type} : Left H := { results := [], args := [] }

/-- 'hostelrylaw5.DaysTell': WHATEVER THE INPUT: true; the input reads as it did. -/
def daysTellSpec : ChangeSpec := { name := "daysTell", fn := fun _ => fun
  | [d1, d2, d3] => { results := [.lit (.bool true)], args := [d1, d2, d3] }
  | _ => none }
def daysTellRow : OpenClaim := { program := "ytcjkghpcjjbjhaa", sum := "0d3f6577a894ec34fb97426029cf21c2c448ad94d741ab4ab6b9400c3363e3e6", func := "hostelry/hostelrylaw5.DaysTell", spec := "daysTell", unfollowed := true, recurses := true, apart := false }
def DaysTellSaid : Prop := daysTellRow.holds Try.pinned (OpenSpec.ofChange daysTellSpec)

/-- ITS FALSE NEIGHBOUR: 'it returns false'. Refute it at one input. -/
def daysTellWrong : ChangeSpec := { name := "daysTell", fn := fun _ => fun
  | [d1, d2, d3] => { results := [.lit (.bool false)], args := [d1, d2, d3] }
  | _ => none }
def DaysTellWrongFalsely : Prop := daysTellRow.holds Try.pinned (OpenSpec.ofChange daysTellWrong)

/-- 'hostelrylaw5.DaysPeriods': WHATEVER THE INPUT: true; the input reads as it did. -/
def daysPeriodsSpec : ChangeSpec := { name := "daysPeriods", fn := fun _ => fun
  | [d1, d2, d3] => { results := [.lit (.bool true)], args := [d1, d2, d3] }
  | _ => none }
def daysPeriodsRow : OpenClaim := { program := "ytcjkghpcjjbjhaa", sum := "0d3f6577a894ec34fb97426029cf21c2c448ad94d741ab4ab6b9400c3363e3e6", func := "hostelry/hostelrylaw5.DaysPeriods", spec := "daysPeriods", unfollowed := true, recurses := true, apart := false }
def DaysPeriodsSaid : Prop := daysPeriodsRow.holds Try.pinned (OpenSpec.ofChange daysPeriodsSpec)

/-- ITS FALSE NEIGHBOUR: 'it returns false'. Refute it at one input. -/
def daysPeriodsWrong : ChangeSpec := { name := "daysPeriods", fn := fun _ => fun
  | [d1, d2, d3] => { results := [.lit (.bool false)], args := [d1, d2, d3] }
  | _ => none }
def DaysPeriodsWrongFalsely : Prop := daysPeriodsRow.holds Try.pinned (OpenSpec.ofChange daysPeriodsWrong)

/-- 'hostelrylaw5.DaysSame': WHATEVER THE INPUT: true; the input reads as it did. -/
def daysSameSpec : ChangeSpec := { name := "daysSame", fn := fun _ => fun
  | [d1, d2, d3, d4] => { results := [.lit (.bool true)], args := [d1, d2, d3, d4] }
  | _ => none }
def daysSameRow : OpenClaim := { program := "ytcjkghpcjjbjhaa", sum := "0d3f6577a894ec34fb97426029cf21c2c448ad94d741ab4ab6b9400c3363e3e6", func := "hostelry/hostelrylaw5.DaysSame", spec := "daysSame", unfollowed := true, recurses := true, apart := false }
def DaysSameSaid : Prop := daysSameRow.holds Try.pinned (OpenSpec.ofChange daysSameSpec)

/-- ITS FALSE NEIGHBOUR: 'it returns false'. Refute it at one input. -/
def daysSameWrong : ChangeSpec := { name := "daysSame", fn := fun _ => fun
  | [d1, d2, d3, d4] => { results := [.lit (.bool false)], args := [d1, d2, d3, d4] }
  | _ => none }
def DaysSameWrongFalsely : Prop := daysSameRow.holds Try.pinned (OpenSpec.ofChange daysSameWrong)

/-- 'hostelrylaw5.DaysMonths': WHATEVER THE INPUT: true; the input reads as it did. -/
def daysMonthsSpec : ChangeSpec := { name := "daysMonths", fn := fun _ => fun
  | [d1, d2, d3] => { results := [.lit (.bool true)], args := [d1, d2, d3] }
  | _ => none }
def daysMonthsRow : OpenClaim := { program := "ytcjkghpcjjbjhaa", sum := "0d3f6577a894ec34fb97426029cf21c2c448ad94d741ab4ab6b9400c3363e3e6", func := "hostelry/hostelrylaw5.DaysMonths", spec := "daysMonths", unfollowed := true, recurses := true, apart := false }
def DaysMonthsSaid : Prop := daysMonthsRow.holds Try.pinned (OpenSpec.ofChange daysMonthsSpec)

/-- ITS FALSE NEIGHBOUR: 'it returns false'. Refute it at one input. -/
def daysMonthsWrong : ChangeSpec := { name := "daysMonths", fn := fun _ => fun
  | [d1, d2, d3] => { results := [.lit (.bool false)], args := [d1, d2, d3] }
  | _ => none }
def DaysMonthsWrongFalsely : Prop := daysMonthsRow.holds Try.pinned (OpenSpec.ofChange daysMonthsWrong)

/-- 'hostelrylaw5.DaysLast': WHATEVER THE INPUT: true; the input reads as it did. -/
def daysLastSpec : ChangeSpec := { name := "daysLast", fn := fun _ => fun
  | [d1, d2] => { results := [.lit (.bool true)], args := [d1, d2] }
  | _ => none }
def daysLastRow : OpenClaim := { program := "ytcjkghpcjjbjhaa", sum := "0d3f6577a894ec34fb97426029cf21c2c448ad94d741ab4ab6b9400c3363e3e6", func := "hostelry/hostelrylaw5.DaysLast", spec := "daysLast", unfollowed := true, recurses := true, apart := false }
def DaysLastSaid : Prop := daysLastRow.holds Try.pinned (OpenSpec.ofChange daysLastSpec)

/-- ITS FALSE NEIGHBOUR: 'it returns false'. Refute it at one input. -/
def daysLastWrong : ChangeSpec := { name := "daysLast", fn := fun _ => fun
  | [d1, d2] => { results := [.lit (.bool false)], args := [d1, d2] }
  | _ => none }
def DaysLastWrongFalsely : Prop := daysLastRow.holds Try.pinned (OpenSpec.ofChange daysLastWrong)

/- THE SECOND FORM. 'bulk': how many values and letters a reading holds, each counted each time it is reached (what is shared counts as often as it is met; a slice's spare places count too). A statement '..UptoSaid' is the law's where the arguments, and the package variables that the reading takes, are together of bulk at most 1048576: NARROWER than '..Said'. Prove '..Said' where nothing that the law and all that it calls make is longer than what came in: it says more and counts as full. Else prove '..UptoSaid'. A law counts once. -/
mutual
def uptoBulk {H : Type} : DataW H → Nat
  | .lit (.string bytes) => bytes.length + 1
  | .lit _ => 1
  | .nil => 1
  | .ptr d => uptoBulk d + 1
  | .slice elems spare => uptoBulkAll elems + uptoBulkAll spare + 1
  | .agg parts => uptoBulkAll parts + 1
  | .iface _ d => uptoBulk d + 1
  | .map entries => uptoBulkEntries entries + 1
  | .held _ => 1
def uptoBulkAll {H : Type} : List (DataW H) → Nat
  | [] => 0
  | d :: r => uptoBulk d + uptoBulkAll r
def uptoBulkEntries {H : Type} : List (Lit × DataW H) → Nat
  | [] => 0
  | x :: r => uptoBulkEntry x + uptoBulkEntries r
def uptoBulkEntry {H : Type} : Lit × DataW H → Nat
  | (.string bytes, d) => bytes.length + uptoBulk d + 1
  | (_, d) => uptoBulk d + 1
 end
def uptoSmall : (H : Type) → List (DataW H) → Bool := fun _ ds => decide (uptoBulkAll ds ≤ 1048576)
def OpenSpec.upto (s : _root_.Go.ChangeSpec) : _root_.Go.OpenSpec := { _root_.Go.OpenSpec.ofChange s with cond := some uptoSmall }

/-- 'hostelrylaw5.DaysTell', WHERE WHAT IT READS IS OF BULK AT MOST 1048576: true; the input reads as it did. -/
def daysTellUptoRow : OpenClaim := { program := "ytcjkghpcjjbjhaa", sum := "0d3f6577a894ec34fb97426029cf21c2c448ad94d741ab4ab6b9400c3363e3e6", func := "hostelry/hostelrylaw5.DaysTell", spec := "daysTell", unfollowed := true, recurses := true, apart := false, narrowed := true }
def DaysTellUptoSaid : Prop := daysTellUptoRow.holds Try.pinned (OpenSpec.upto daysTellSpec)

/-- 'hostelrylaw5.DaysPeriods', WHERE WHAT IT READS IS OF BULK AT MOST 1048576: true; the input reads as it did. -/
def daysPeriodsUptoRow : OpenClaim := { program := "ytcjkghpcjjbjhaa", sum := "0d3f6577a894ec34fb97426029cf21c2c448ad94d741ab4ab6b9400c3363e3e6", func := "hostelry/hostelrylaw5.DaysPeriods", spec := "daysPeriods", unfollowed := true, recurses := true, apart := false, narrowed := true }
def DaysPeriodsUptoSaid : Prop := daysPeriodsUptoRow.holds Try.pinned (OpenSpec.upto daysPeriodsSpec)

/-- 'hostelrylaw5.DaysSame', WHERE WHAT IT READS IS OF BULK AT MOST 1048576: true; the input reads as it did. -/
def daysSameUptoRow : OpenClaim := { program := "ytcjkghpcjjbjhaa", sum := "0d3f6577a894ec34fb97426029cf21c2c448ad94d741ab4ab6b9400c3363e3e6", func := "hostelry/hostelrylaw5.DaysSame", spec := "daysSame", unfollowed := true, recurses := true, apart := false, narrowed := true }
def DaysSameUptoSaid : Prop := daysSameUptoRow.holds Try.pinned (OpenSpec.upto daysSameSpec)

/-- 'hostelrylaw5.DaysMonths', WHERE WHAT IT READS IS OF BULK AT MOST 1048576: true; the input reads as it did. -/
def daysMonthsUptoRow : OpenClaim := { program := "ytcjkghpcjjbjhaa", sum := "0d3f6577a894ec34fb97426029cf21c2c448ad94d741ab4ab6b9400c3363e3e6", func := "hostelry/hostelrylaw5.DaysMonths", spec := "daysMonths", unfollowed := true, recurses := true, apart := false, narrowed := true }
def DaysMonthsUptoSaid : Prop := daysMonthsUptoRow.holds Try.pinned (OpenSpec.upto daysMonthsSpec)

/-- 'hostelrylaw5.DaysLast', WHERE WHAT IT READS IS OF BULK AT MOST 1048576: true; the input reads as it did. -/
def daysLastUptoRow : OpenClaim := { program := "ytcjkghpcjjbjhaa", sum := "0d3f6577a894ec34fb97426029cf21c2c448ad94d741ab4ab6b9400c3363e3e6", func := "hostelry/hostelrylaw5.DaysLast", spec := "daysLast", unfollowed := true, recurses := true, apart := false, narrowed := true }
def DaysLastUptoSaid : Prop := daysLastUptoRow.holds Try.pinned (OpenSpec.upto daysLastSpec)

end Rows
end Go.Proofs.Ytcjkghpcjjbjhaa

/-
  No cell of these rows narrows 'for every input' (looked for: loops, veiled, ifaces, maps, wideKeys, modest, calm, conditions, laid).
  DERIVED. THE GIVEN ROWS OF THIS SEAT. 5 by the template 'for every input the law returns true; each argument reads behind the call as it read before'; 0 by the template 'total and deterministic' (their statements: YtkjkegjekfebpaaTotals.lean).
  GIVEN WITH THE SEED: the statements are not yours to turn. If you find one false, say at which input.
  Laid BY PROGRAM, IN A SANDBOX (cutbox-rows.mjs): the forced cells as the released guide's own fill.sh prints them over the translation 29ae20ee610f92e6… (all of the seat's roots in one cut). By AI agents, Wed Nov 11 2026. No macro, syntax, notation, axiom, sorry.
-/
import Derived.Test.YtkjkegjekfebpaaChecked
import GoSem.Claim
import GoSem.ClaimJoined
import GoSem.ClaimMapViews
import Derived.JoinedTies
import Derived.KernelRfl
namespace Go.Proofs.Ytkjkegjekfebpaa
/- THE CELL 'sum', in the pinned program and in every row, IS THE sha256 OF THE DUMP (.gsa) THAT YtkjkegjekfebpaaProg.lean LOADS. Nothing in Lean hashes anything: it is a label: what it is worth is what the hold of that sum in a sandbox is worth. -/
noncomputable def Try.pinned : Pinned := { name := "ytkjkegjekfebpaa", sum := "29ae20ee610f92e6c1452864c921223372a7b69342605721b4aa4eca1bc47115", checked := Try.checked }
namespace Rows
def none {H : Type} : Left H := { results := [], args := [] }

/-- 'hostelrylaw3.SpansPlays': WHATEVER THE INPUT: true; the input reads as it did. -/
def spansPlaysSpec : ChangeSpec := { name := "spansPlays", fn := fun _ => fun
  | [d1, d2, d3] => { results := [.lit (.bool true)], args := [d1, d2, d3] }
  | _ => none }
def spansPlaysRow : OpenClaim := { program := "ytkjkegjekfebpaa", sum := "29ae20ee610f92e6c1452864c921223372a7b69342605721b4aa4eca1bc47115", func := "hostelry/hostelrylaw3.SpansPlays", spec := "spansPlays", unfollowed := true, recurses := true, apart := false }
def SpansPlaysSaid : Prop := spansPlaysRow.holds Try.pinned (OpenSpec.ofChange spansPlaysSpec)

/-- ITS FALSE NEIGHBOUR: 'it returns false'. Refute it at one input. -/
def spansPlaysWrong : ChangeSpec := { name := "spansPlays", fn := fun _ => fun
  | [d1, d2, d3] => { results := [.lit (.bool false)], args := [d1, d2, d3] }
  | _ => none }
def SpansPlaysWrongFalsely : Prop := spansPlaysRow.holds Try.pinned (OpenSpec.ofChange spansPlaysWrong)

/-- 'hostelrylaw3.SpansPieces': WHATEVER THE INPUT: true; the input reads as it did. -/
def spansPiecesSpec : ChangeSpec := { name := "spansPieces", fn := fun _ => fun
  | [d1, d2, d3] => { results := [.lit (.bool true)], args := [d1, d2, d3] }
  | _ => none }
def spansPiecesRow : OpenClaim := { program := "ytkjkegjekfebpaa", sum := "29ae20ee610f92e6c1452864c921223372a7b69342605721b4aa4eca1bc47115", func := "hostelry/hostelrylaw3.SpansPieces", spec := "spansPieces", unfollowed := true, recurses := true, apart := false }
def SpansPiecesSaid : Prop := spansPiecesRow.holds Try.pinned (OpenSpec.ofChange spansPiecesSpec)

/-- ITS FALSE NEIGHBOUR: 'it returns false'. Refute it at one input. -/
def spansPiecesWrong : ChangeSpec := { name := "spansPieces", fn := fun _ => fun
  | [d1, d2, d3] => { results := [.lit (.bool false)], args := [d1, d2, d3] }
  | _ => none }
def SpansPiecesWrongFalsely : Prop := spansPiecesRow.holds Try.pinned (OpenSpec.ofChange spansPiecesWrong)

/-- 'hostelrylaw3.SpansRules': WHATEVER THE INPUT: true; the input reads as it did. -/
def spansRulesSpec : ChangeSpec := { name := "spansRules", fn := fun _ => fun
  | [d1, d2, d3, d4] => { results := [.lit (.bool true)], args := [d1, d2, d3, d4] }
  | _ => none }
def spansRulesRow : OpenClaim := { program := "ytkjkegjekfebpaa", sum := "29ae20ee610f92e6c1452864c921223372a7b69342605721b4aa4eca1bc47115", func := "hostelry/hostelrylaw3.SpansRules", spec := "spansRules", unfollowed := true, recurses := true, apart := false }
def SpansRulesSaid : Prop := spansRulesRow.holds Try.pinned (OpenSpec.ofChange spansRulesSpec)

/-- ITS FALSE NEIGHBOUR: 'it returns false'. Refute it at one input. -/
def spansRulesWrong : ChangeSpec := { name := "spansRules", fn := fun _ => fun
  | [d1, d2, d3, d4] => { results := [.lit (.bool false)], args := [d1, d2, d3, d4] }
  | _ => none }
def SpansRulesWrongFalsely : Prop := spansRulesRow.holds Try.pinned (OpenSpec.ofChange spansRulesWrong)

/-- 'hostelrylaw3.SpansCopies': WHATEVER THE INPUT: true; the input reads as it did. -/
def spansCopiesSpec : ChangeSpec := { name := "spansCopies", fn := fun _ => fun
  | [d1, d2, d3] => { results := [.lit (.bool true)], args := [d1, d2, d3] }
  | _ => none }
def spansCopiesRow : OpenClaim := { program := "ytkjkegjekfebpaa", sum := "29ae20ee610f92e6c1452864c921223372a7b69342605721b4aa4eca1bc47115", func := "hostelry/hostelrylaw3.SpansCopies", spec := "spansCopies", unfollowed := true, recurses := true, apart := false }
def SpansCopiesSaid : Prop := spansCopiesRow.holds Try.pinned (OpenSpec.ofChange spansCopiesSpec)

/-- ITS FALSE NEIGHBOUR: 'it returns false'. Refute it at one input. -/
def spansCopiesWrong : ChangeSpec := { name := "spansCopies", fn := fun _ => fun
  | [d1, d2, d3] => { results := [.lit (.bool false)], args := [d1, d2, d3] }
  | _ => none }
def SpansCopiesWrongFalsely : Prop := spansCopiesRow.holds Try.pinned (OpenSpec.ofChange spansCopiesWrong)

/-- 'hostelrylaw3.SpansTeeth': WHATEVER THE INPUT: true; the input reads as it did. -/
def spansTeethSpec : ChangeSpec := { name := "spansTeeth", fn := fun _ => fun
  | [d1, d2, d3] => { results := [.lit (.bool true)], args := [d1, d2, d3] }
  | _ => none }
def spansTeethRow : OpenClaim := { program := "ytkjkegjekfebpaa", sum := "29ae20ee610f92e6c1452864c921223372a7b69342605721b4aa4eca1bc47115", func := "hostelry/hostelrylaw3.SpansTeeth", spec := "spansTeeth", unfollowed := true, recurses := true, apart := false }
def SpansTeethSaid : Prop := spansTeethRow.holds Try.pinned (OpenSpec.ofChange spansTeethSpec)

/-- ITS FALSE NEIGHBOUR: 'it returns false'. Refute it at one input. -/
def spansTeethWrong : ChangeSpec := { name := "spansTeeth", fn := fun _ => fun
  | [d1, d2, d3] => { results := [.lit (.bool false)], args := [d1, d2, d3] }
  | _ => none }
def SpansTeethWrongFalsely : Prop := spansTeethRow.holds Try.pinned (OpenSpec.ofChange spansTeethWrong)

/- THE SECOND FORM. 'bulk': how many values and letters a reading holds, each counted each time it is reached (what is shared counts as often as it is met; a slice's spare places count too). A statement '..UptoSaid' is the law's where the arguments, and the package variables that the reading takes, are together of bulk at most 1048576: NARROWER than '..Said'. Prove '..Said' where nothing that the law and all that it calls make is longer than what came in: it says more and counts as full. Else prove '..UptoSaid'. A law counts once. -/
mutual
def uptoBulk {H : Type} : DataW H → Nat
  | .lit (.string bytes) => bytes.length + 1
  | .lit _ => 1
  | .nil => 1
  | .ptr d => uptoBulk d + 1
  | .slice elems spare => uptoBulkAll elems + uptoBulkAll spare + 1
  | .agg parts => uptoBulkAll parts + 1
  | .iface _ d => uptoBulk d + 1
  | .map entries => uptoBulkEntries entries + 1
  | .held _ => 1
def uptoBulkAll {H : Type} : List (DataW H) → Nat
  | [] => 0
  | d :: r => uptoBulk d + uptoBulkAll r
def uptoBulkEntries {H : Type} : List (Lit × DataW H) → Nat
  | [] => 0
  | x :: r => uptoBulkEntry x + uptoBulkEntries r
def uptoBulkEntry {H : Type} : Lit × DataW H → Nat
  | (.string bytes, d) => bytes.length + uptoBulk d + 1
  | (_, d) => uptoBulk d + 1
 end
def uptoSmall : (H : Type) → List (DataW H) → Bool := fun _ ds => decide (uptoBulkAll ds ≤ 1048576)
def OpenSpec.upto (s : _root_.Go.ChangeSpec) : _root_.Go.OpenSpec := { _root_.Go.OpenSpec.ofChange s with cond := some uptoSmall }

/-- 'hostelrylaw3.SpansPlays', WHERE WHAT IT READS IS OF BULK AT MOST 1048576: true; the input reads as it did. -/
def spansPlaysUptoRow : OpenClaim := { program := "ytkjkegjekfebpaa", sum := "29ae20ee610f92e6c1452864c921223372a7b69342605721b4aa4eca1bc47115", func := "hostelry/hostelrylaw3.SpansPlays", spec := "spansPlays", unfollowed := true, recurses := true, apart := false, narrowed := true }
def SpansPlaysUptoSaid : Prop := spansPlaysUptoRow.holds Try.pinned (OpenSpec.upto spansPlaysSpec)

/-- 'hostelrylaw3.SpansPieces', WHERE WHAT IT READS IS OF BULK AT MOST 1048576: true; the input reads as it did. -/
def spansPiecesUptoRow : OpenClaim := { program := "ytkjkegjekfebpaa", sum := "29ae20ee610f92e6c1452864c921223372a7b69342605721b4aa4eca1bc47115", func := "hostelry/hostelrylaw3.SpansPieces", spec := "spansPieces", unfollowed := true, recurses := true, apart := false, narrowed := true }
def SpansPiecesUptoSaid : Prop := spansPiecesUptoRow.holds Try.pinned (OpenSpec.upto spansPiecesSpec)

/-- 'hostelrylaw3.SpansRules', WHERE WHAT IT READS IS OF BULK AT MOST 1048576: true; the input reads as it did. -/
def spansRulesUptoRow : OpenClaim := { program := "ytkjkegjekfebpaa", sum := "29ae20ee610f92e6c1452864c921223372a7b69342605721b4aa4eca1bc47115", func := "hostelry/hostelrylaw3.SpansRules", spec := "spansRules", unfollowed := true, recurses := true, apart := false, narrowed := true }
def SpansRulesUptoSaid : Prop := spansRulesUptoRow.holds Try.pinned (OpenSpec.upto spansRulesSpec)

/-- 'hostelrylaw3.SpansCopies', WHERE WHAT IT READS IS OF BULK AT MOST 1048576: true; the input reads as it did. -/
def spansCopiesUptoRow : OpenClaim := { program := "ytkjkegjekfebpaa", sum := "29ae20ee610f92e6c1452864c921223372a7b69342605721b4aa4eca1bc47115", func := "hostelry/hostelrylaw3.SpansCopies", spec := "spansCopies", unfollowed := true, recurses := true, apart := false, narrowed := true }
def SpansCopiesUptoSaid : Prop := spansCopiesUptoRow.holds Try.pinned (OpenSpec.upto spansCopiesSpec)

/-- 'hostelrylaw3.SpansTeeth', WHERE WHAT IT READS IS OF BULK AT MOST 1048576: true; the input reads as it did. -/
def spansTeethUptoRow : OpenClaim := { program := "ytkjkegjekfebpaa", sum := "29ae20ee610f92e6c1452864c921223372a7b69342605721b4aa4eca1bc47115", func := "hostelry/hostelrylaw3.SpansTeeth", spec := "spansTeeth", unfollowed := true, recurses := true, apart := false, narrowed := true }
def SpansTeethUptoSaid : Prop := spansTeethUptoRow.holds Try.pinned (OpenSpec.upto spansTeethSpec)

end Rows
end Go.Proofs.Ytkjkegjekfebpaa

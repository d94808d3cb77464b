/-
  No cell of these rows narrows 'for every input' (looked for: loops, veiled, ifaces, maps, wideKeys, modest, calm, conditions, laid).
  DERIVED. THE GIVEN ROWS OF THIS SEAT. 6 by the template 'for every input the law returns true; each argument reads behind the call as it read before'; 0 by the template 'total and deterministic' (their statements: YtgihekokbgggcaaGreatTotals.lean).
  GIVEN WITH THE SEED: the statements are not yours to turn. If you find one false, say at which input.
  Laid BY PROGRAM, IN A SANDBOX (cutbox-rows.mjs): the forced cells as the released guide's own fill.sh prints them over the translation 6e5dc533cae710a3… (all of the seat's roots in one cut). By AI agents, Wed Nov 11 2026. No macro, syntax, notation, axiom, sorry.
-/
import Derived.Test.YtgihekokbgggcaaGreatChecked
import GoSem.Claim
import GoSem.ClaimJoined
import GoSem.ClaimMapViews
import Derived.JoinedTies
import Derived.KernelRfl
namespace Go.Proofs.YtgihekokbgggcaaGreat
/- THE CELL 'sum', in the pinned program and in every row, IS THE sha256 OF THE DUMP (.gsa) THAT YtgihekokbgggcaaGreatProg.lean LOADS. Nothing in Lean hashes anything: it is a label: what it is worth is what the hold of that sum in a sandbox is worth. -/
noncomputable def Tryz.pinned : Pinned := { name := "ytgihekokbgggcaagreat", sum := "6e5dc533cae710a3ec3221b5fa2e9f09c5da8b02d4f1653994ab1194e3d6cc34", checked := Tryz.checked }
namespace Rows
def none {H : Type} : Left H := { results := [], args := [] }

/-- 'hostelrylaw12.ClaimTells': WHATEVER THE INPUT: true; the input reads as it did. -/
def claimTellsSpec : ChangeSpec := { name := "claimTells", fn := fun _ => fun
  | [d1, d2, d3, d4] => { results := [.lit (.bool true)], args := [d1, d2, d3, d4] }
  | _ => none }
def claimTellsRow : OpenClaim := { program := "ytgihekokbgggcaagreat", sum := "6e5dc533cae710a3ec3221b5fa2e9f09c5da8b02d4f1653994ab1194e3d6cc34", func := "hostelry/hostelrylaw12.ClaimTells", spec := "claimTells", unfollowed := true, recurses := true, apart := false }
def ClaimTellsSaid : Prop := claimTellsRow.holds Tryz.pinned (OpenSpec.ofChange claimTellsSpec)

/-- ITS FALSE NEIGHBOUR: 'it returns false'. Refute it at one input. -/
def claimTellsWrong : ChangeSpec := { name := "claimTells", fn := fun _ => fun
  | [d1, d2, d3, d4] => { results := [.lit (.bool false)], args := [d1, d2, d3, d4] }
  | _ => none }
def ClaimTellsWrongFalsely : Prop := claimTellsRow.holds Tryz.pinned (OpenSpec.ofChange claimTellsWrong)

/-- 'hostelrylaw12.ClaimOf': WHATEVER THE INPUT: true; the input reads as it did. -/
def claimOfSpec : ChangeSpec := { name := "claimOf", fn := fun _ => fun
  | [d] => { results := [.lit (.bool true)], args := [d] }
  | _ => none }
def claimOfRow : OpenClaim := { program := "ytgihekokbgggcaagreat", sum := "6e5dc533cae710a3ec3221b5fa2e9f09c5da8b02d4f1653994ab1194e3d6cc34", func := "hostelry/hostelrylaw12.ClaimOf", spec := "claimOf", unfollowed := true, recurses := true, apart := false }
def ClaimOfSaid : Prop := claimOfRow.holds Tryz.pinned (OpenSpec.ofChange claimOfSpec)

/-- ITS FALSE NEIGHBOUR: 'it returns false'. Refute it at one input. -/
def claimOfWrong : ChangeSpec := { name := "claimOf", fn := fun _ => fun
  | [d] => { results := [.lit (.bool false)], args := [d] }
  | _ => none }
def ClaimOfWrongFalsely : Prop := claimOfRow.holds Tryz.pinned (OpenSpec.ofChange claimOfWrong)

/-- 'hostelrylaw12.ClaimMinutes': WHATEVER THE INPUT: true; the input reads as it did. -/
def claimMinutesSpec : ChangeSpec := { name := "claimMinutes", fn := fun _ => fun
  | [d1, d2, d3, d4] => { results := [.lit (.bool true)], args := [d1, d2, d3, d4] }
  | _ => none }
def claimMinutesRow : OpenClaim := { program := "ytgihekokbgggcaagreat", sum := "6e5dc533cae710a3ec3221b5fa2e9f09c5da8b02d4f1653994ab1194e3d6cc34", func := "hostelry/hostelrylaw12.ClaimMinutes", spec := "claimMinutes", unfollowed := true, recurses := true, apart := false }
def ClaimMinutesSaid : Prop := claimMinutesRow.holds Tryz.pinned (OpenSpec.ofChange claimMinutesSpec)

/-- ITS FALSE NEIGHBOUR: 'it returns false'. Refute it at one input. -/
def claimMinutesWrong : ChangeSpec := { name := "claimMinutes", fn := fun _ => fun
  | [d1, d2, d3, d4] => { results := [.lit (.bool false)], args := [d1, d2, d3, d4] }
  | _ => none }
def ClaimMinutesWrongFalsely : Prop := claimMinutesRow.holds Tryz.pinned (OpenSpec.ofChange claimMinutesWrong)

/-- 'hostelrylaw12.ClaimEvents': WHATEVER THE INPUT: true; the input reads as it did. -/
def claimEventsSpec : ChangeSpec := { name := "claimEvents", fn := fun _ => fun
  | [d] => { results := [.lit (.bool true)], args := [d] }
  | _ => none }
def claimEventsRow : OpenClaim := { program := "ytgihekokbgggcaagreat", sum := "6e5dc533cae710a3ec3221b5fa2e9f09c5da8b02d4f1653994ab1194e3d6cc34", func := "hostelry/hostelrylaw12.ClaimEvents", spec := "claimEvents", unfollowed := true, recurses := true, apart := false }
def ClaimEventsSaid : Prop := claimEventsRow.holds Tryz.pinned (OpenSpec.ofChange claimEventsSpec)

/-- ITS FALSE NEIGHBOUR: 'it returns false'. Refute it at one input. -/
def claimEventsWrong : ChangeSpec := { name := "claimEvents", fn := fun _ => fun
  | [d] => { results := [.lit (.bool false)], args := [d] }
  | _ => none }
def ClaimEventsWrongFalsely : Prop := claimEventsRow.holds Tryz.pinned (OpenSpec.ofChange claimEventsWrong)

/-- 'hostelrylaw12.ClaimClash': WHATEVER THE INPUT: true; the input reads as it did. -/
def claimClashSpec : ChangeSpec := { name := "claimClash", fn := fun _ => fun
  | [d1, d2, d3] => { results := [.lit (.bool true)], args := [d1, d2, d3] }
  | _ => none }
def claimClashRow : OpenClaim := { program := "ytgihekokbgggcaagreat", sum := "6e5dc533cae710a3ec3221b5fa2e9f09c5da8b02d4f1653994ab1194e3d6cc34", func := "hostelry/hostelrylaw12.ClaimClash", spec := "claimClash", unfollowed := true, recurses := true, apart := false }
def ClaimClashSaid : Prop := claimClashRow.holds Tryz.pinned (OpenSpec.ofChange claimClashSpec)

/-- ITS FALSE NEIGHBOUR: 'it returns false'. Refute it at one input. -/
def claimClashWrong : ChangeSpec := { name := "claimClash", fn := fun _ => fun
  | [d1, d2, d3] => { results := [.lit (.bool false)], args := [d1, d2, d3] }
  | _ => none }
def ClaimClashWrongFalsely : Prop := claimClashRow.holds Tryz.pinned (OpenSpec.ofChange claimClashWrong)

/-- 'hostelrylaw12.ClaimTurns': WHATEVER THE INPUT: true; the input reads as it did. -/
def claimTurnsSpec : ChangeSpec := { name := "claimTurns", fn := fun _ => fun
  | [d1, d2, d3] => { results := [.lit (.bool true)], args := [d1, d2, d3] }
  | _ => none }
def claimTurnsRow : OpenClaim := { program := "ytgihekokbgggcaagreat", sum := "6e5dc533cae710a3ec3221b5fa2e9f09c5da8b02d4f1653994ab1194e3d6cc34", func := "hostelry/hostelrylaw12.ClaimTurns", spec := "claimTurns", unfollowed := true, recurses := true, apart := false }
def ClaimTurnsSaid : Prop := claimTurnsRow.holds Tryz.pinned (OpenSpec.ofChange claimTurnsSpec)

/-- ITS FALSE NEIGHBOUR: 'it returns false'. Refute it at one input. -/
def claimTurnsWrong : ChangeSpec := { name := "claimTurns", fn := fun _ => fun
  | [d1, d2, d3] => { results := [.lit (.bool false)], args := [d1, d2, d3] }
  | _ => none }
def ClaimTurnsWrongFalsely : Prop := claimTurnsRow.holds Tryz.pinned (OpenSpec.ofChange claimTurnsWrong)

/- THE SECOND FORM. 'bulk': how many values and letters a reading holds, each counted each time it is reached (what is shared counts as often as it is met; a slice's spare places count too). A statement '..UptoSaid' is the law's where the arguments, and the package variables that the reading takes, are together of bulk at most 1048576: NARROWER than '..Said'. Prove '..Said' where nothing that the law and all that it calls make is longer than what came in: it says more and counts as full. Else prove '..UptoSaid'. A law counts once. -/
mutual
def uptoBulk {H : Type} : DataW H → Nat
  | .lit (.string bytes) => bytes.length + 1
  | .lit _ => 1
  | .nil => 1
  | .ptr d => uptoBulk d + 1
  | .slice elems spare => uptoBulkAll elems + uptoBulkAll spare + 1
  | .agg parts => uptoBulkAll parts + 1
  | .iface _ d => uptoBulk d + 1
  | .map entries => uptoBulkEntries entries + 1
  | .held _ => 1
def uptoBulkAll {H : Type} : List (DataW H) → Nat
  | [] => 0
  | d :: r => uptoBulk d + uptoBulkAll r
def uptoBulkEntries {H : Type} : List (Lit × DataW H) → Nat
  | [] => 0
  | x :: r => uptoBulkEntry x + uptoBulkEntries r
def uptoBulkEntry {H : Type} : Lit × DataW H → Nat
  | (.string bytes, d) => bytes.length + uptoBulk d + 1
  | (_, d) => uptoBulk d + 1
 end
def uptoSmall : (H : Type) → List (DataW H) → Bool := fun _ ds => decide (uptoBulkAll ds ≤ 1048576)
def OpenSpec.upto (s : _root_.Go.ChangeSpec) : _root_.Go.OpenSpec := { _root_.Go.OpenSpec.ofChange s with cond := some uptoSmall }

/-- 'hostelrylaw12.ClaimTells', WHERE WHAT IT READS IS OF BULK AT MOST 1048576: true; the input reads as it did. -/
def claimTellsUptoRow : OpenClaim := { program := "ytgihekokbgggcaagreat", sum := "6e5dc533cae710a3ec3221b5fa2e9f09c5da8b02d4f1653994ab1194e3d6cc34", func := "hostelry/hostelrylaw12.ClaimTells", spec := "claimTells", unfollowed := true, recurses := true, apart := false, narrowed := true }
def ClaimTellsUptoSaid : Prop := claimTellsUptoRow.holds Tryz.pinned (OpenSpec.upto claimTellsSpec)

/-- 'hostelrylaw12.ClaimOf', WHERE WHAT IT READS IS OF BULK AT MOST 1048576: true; the input reads as it did. -/
def claimOfUptoRow : OpenClaim := { program := "ytgihekokbgggcaagreat", sum := "6e5dc533cae710a3ec3221b5fa2e9f09c5da8b02d4f1653994ab1194e3d6cc34", func := "hostelry/hostelrylaw12.ClaimOf", spec := "claimOf", unfollowed := true, recurses := true, apart := false, narrowed := true }
def ClaimOfUptoSaid : Prop := claimOfUptoRow.holds Tryz.pinned (OpenSpec.upto claimOfSpec)

/-- 'hostelrylaw12.ClaimMinutes', WHERE WHAT IT READS IS OF BULK AT MOST 1048576: true; the input reads as it did. -/
def claimMinutesUptoRow : OpenClaim := { program := "ytgihekokbgggcaagreat", sum := "6e5dc533cae710a3ec3221b5fa2e9f09c5da8b02d4f1653994ab1194e3d6cc34", func := "hostelry/hostelrylaw12.ClaimMinutes", spec := "claimMinutes", unfollowed := true, recurses := true, apart := false, narrowed := true }
def ClaimMinutesUptoSaid : Prop := claimMinutesUptoRow.holds Tryz.pinned (OpenSpec.upto claimMinutesSpec)

/-- 'hostelrylaw12.ClaimEvents', WHERE WHAT IT READS IS OF BULK AT MOST 1048576: true; the input reads as it did. -/
def claimEventsUptoRow : OpenClaim := { program := "ytgihekokbgggcaagreat", sum := "6e5dc533cae710a3ec3221b5fa2e9f09c5da8b02d4f1653994ab1194e3d6cc34", func := "hostelry/hostelrylaw12.ClaimEvents", spec := "claimEvents", unfollowed := true, recurses := true, apart := false, narrowed := true }
def ClaimEventsUptoSaid : Prop := claimEventsUptoRow.holds Tryz.pinned (OpenSpec.upto claimEventsSpec)

/-- 'hostelrylaw12.ClaimClash', WHERE WHAT IT READS IS OF BULK AT MOST 1048576: true; the input reads as it did. -/
def claimClashUptoRow : OpenClaim := { program := "ytgihekokbgggcaagreat", sum := "6e5dc533cae710a3ec3221b5fa2e9f09c5da8b02d4f1653994ab1194e3d6cc34", func := "hostelry/hostelrylaw12.ClaimClash", spec := "claimClash", unfollowed := true, recurses := true, apart := false, narrowed := true }
def ClaimClashUptoSaid : Prop := claimClashUptoRow.holds Tryz.pinned (OpenSpec.upto claimClashSpec)

/-- 'hostelrylaw12.ClaimTurns', WHERE WHAT IT READS IS OF BULK AT MOST 1048576: true; the input reads as it did. -/
def claimTurnsUptoRow : OpenClaim := { program := "ytgihekokbgggcaagreat", sum := "6e5dc533cae710a3ec3221b5fa2e9f09c5da8b02d4f1653994ab1194e3d6cc34", func := "hostelry/hostelrylaw12.ClaimTurns", spec := "claimTurns", unfollowed := true, recurses := true, apart := false, narrowed := true }
def ClaimTurnsUptoSaid : Prop := claimTurnsUptoRow.holds Tryz.pinned (OpenSpec.upto claimTurnsSpec)

end Rows
end Go.Proofs.YtgihekokbgggcaaGreat

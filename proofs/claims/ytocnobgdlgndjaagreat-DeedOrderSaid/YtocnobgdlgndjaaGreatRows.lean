/-
  No cell of these rows narrows 'for every input' (looked for: loops, veiled, ifaces, maps, wideKeys, modest, calm, conditions, laid).
  DERIVED. THE GIVEN ROWS OF THIS SEAT. 4 by the template 'for every input the law returns true; each argument reads behind the call as it read before'; 0 by the template 'total and deterministic' (their statements: YtocnobgdlgndjaaGreatTotals.lean).
  GIVEN WITH THE SEED: the statements are not yours to turn. If you find one false, say at which input.
  Laid BY PROGRAM, IN A SANDBOX (cutbox-rows.mjs): the forced cells as the released guide's own fill.sh prints them over the translation a8c01c768413e2a7… (all of the seat's roots in one cut). By AI agents, Wed Nov 11 2026. No macro, syntax, notation, axiom, sorry.
-/
import Derived.Test.YtocnobgdlgndjaaGreatChecked
import GoSem.Claim
import GoSem.ClaimJoined
import GoSem.ClaimMapViews
import Derived.JoinedTies
import Derived.KernelRfl
namespace Go.Proofs.YtocnobgdlgndjaaGreat
/- THE CELL 'sum', in the pinned program and in every row, IS THE sha256 OF THE DUMP (.gsa) THAT YtocnobgdlgndjaaGreatProg.lean LOADS. Nothing in Lean hashes anything: it is a label: what it is worth is what the hold of that sum in a sandbox is worth. -/
noncomputable def Tryz.pinned : Pinned := { name := "ytocnobgdlgndjaagreat", sum := "a8c01c768413e2a7738c2454548ba24f12fa7101f6ee5006a33db3f82444baba", checked := Tryz.checked }
namespace Rows
def none {H : Type} : Left H := { results := [], args := [] }

/-- 'hostelrylaw14.DeedTells': WHATEVER THE INPUT: true; the input reads as it did. -/
def deedTellsSpec : ChangeSpec := { name := "deedTells", fn := fun _ => fun
  | [d1, d2, d3, d4, d5, d6] => { results := [.lit (.bool true)], args := [d1, d2, d3, d4, d5, d6] }
  | _ => none }
def deedTellsRow : OpenClaim := { program := "ytocnobgdlgndjaagreat", sum := "a8c01c768413e2a7738c2454548ba24f12fa7101f6ee5006a33db3f82444baba", func := "hostelry/hostelrylaw14.DeedTells", spec := "deedTells", unfollowed := true, recurses := true, apart := false }
def DeedTellsSaid : Prop := deedTellsRow.holds Tryz.pinned (OpenSpec.ofChange deedTellsSpec)

/-- ITS FALSE NEIGHBOUR: 'it returns false'. Refute it at one input. -/
def deedTellsWrong : ChangeSpec := { name := "deedTells", fn := fun _ => fun
  | [d1, d2, d3, d4, d5, d6] => { results := [.lit (.bool false)], args := [d1, d2, d3, d4, d5, d6] }
  | _ => none }
def DeedTellsWrongFalsely : Prop := deedTellsRow.holds Tryz.pinned (OpenSpec.ofChange deedTellsWrong)

/-- 'hostelrylaw14.DeedSpoils': WHATEVER THE INPUT: true; the input reads as it did. -/
def deedSpoilsSpec : ChangeSpec := { name := "deedSpoils", fn := fun _ => fun
  | [d1, d2] => { results := [.lit (.bool true)], args := [d1, d2] }
  | _ => none }
def deedSpoilsRow : OpenClaim := { program := "ytocnobgdlgndjaagreat", sum := "a8c01c768413e2a7738c2454548ba24f12fa7101f6ee5006a33db3f82444baba", func := "hostelry/hostelrylaw14.DeedSpoils", spec := "deedSpoils", unfollowed := true, recurses := true, apart := false }
def DeedSpoilsSaid : Prop := deedSpoilsRow.holds Tryz.pinned (OpenSpec.ofChange deedSpoilsSpec)

/-- ITS FALSE NEIGHBOUR: 'it returns false'. Refute it at one input. -/
def deedSpoilsWrong : ChangeSpec := { name := "deedSpoils", fn := fun _ => fun
  | [d1, d2] => { results := [.lit (.bool false)], args := [d1, d2] }
  | _ => none }
def DeedSpoilsWrongFalsely : Prop := deedSpoilsRow.holds Tryz.pinned (OpenSpec.ofChange deedSpoilsWrong)

/-- 'hostelrylaw14.DeedOrder': WHATEVER THE INPUT: true; the input reads as it did. -/
def deedOrderSpec : ChangeSpec := { name := "deedOrder", fn := fun _ => fun
  | [d1, d2, d3] => { results := [.lit (.bool true)], args := [d1, d2, d3] }
  | _ => none }
def deedOrderRow : OpenClaim := { program := "ytocnobgdlgndjaagreat", sum := "a8c01c768413e2a7738c2454548ba24f12fa7101f6ee5006a33db3f82444baba", func := "hostelry/hostelrylaw14.DeedOrder", spec := "deedOrder", unfollowed := true, recurses := true, apart := false }
def DeedOrderSaid : Prop := deedOrderRow.holds Tryz.pinned (OpenSpec.ofChange deedOrderSpec)

/-- ITS FALSE NEIGHBOUR: 'it returns false'. Refute it at one input. -/
def deedOrderWrong : ChangeSpec := { name := "deedOrder", fn := fun _ => fun
  | [d1, d2, d3] => { results := [.lit (.bool false)], args := [d1, d2, d3] }
  | _ => none }
def DeedOrderWrongFalsely : Prop := deedOrderRow.holds Tryz.pinned (OpenSpec.ofChange deedOrderWrong)

/-- 'hostelrylaw14.DeedClaims': WHATEVER THE INPUT: true; the input reads as it did. -/
def deedClaimsSpec : ChangeSpec := { name := "deedClaims", fn := fun _ => fun
  | [d1, d2] => { results := [.lit (.bool true)], args := [d1, d2] }
  | _ => none }
def deedClaimsRow : OpenClaim := { program := "ytocnobgdlgndjaagreat", sum := "a8c01c768413e2a7738c2454548ba24f12fa7101f6ee5006a33db3f82444baba", func := "hostelry/hostelrylaw14.DeedClaims", spec := "deedClaims", unfollowed := true, recurses := true, apart := false }
def DeedClaimsSaid : Prop := deedClaimsRow.holds Tryz.pinned (OpenSpec.ofChange deedClaimsSpec)

/-- ITS FALSE NEIGHBOUR: 'it returns false'. Refute it at one input. -/
def deedClaimsWrong : ChangeSpec := { name := "deedClaims", fn := fun _ => fun
  | [d1, d2] => { results := [.lit (.bool false)], args := [d1, d2] }
  | _ => none }
def DeedClaimsWrongFalsely : Prop := deedClaimsRow.holds Tryz.pinned (OpenSpec.ofChange deedClaimsWrong)

/- THE SECOND FORM. 'bulk': how many values and letters a reading holds, each counted each time it is reached (what is shared counts as often as it is met; a slice's spare places count too). A statement '..UptoSaid' is the law's where the arguments, and the package variables that the reading takes, are together of bulk at most 1048576: NARROWER than '..Said'. Prove '..Said' where nothing that the law and all that it calls make is longer than what came in: it says more and counts as full. Else prove '..UptoSaid'. A law counts once. -/
mutual
def uptoBulk {H : Type} : DataW H → Nat
  | .lit (.string bytes) => bytes.length + 1
  | .lit _ => 1
  | .nil => 1
  | .ptr d => uptoBulk d + 1
  | .slice elems spare => uptoBulkAll elems + uptoBulkAll spare + 1
  | .agg parts => uptoBulkAll parts + 1
  | .iface _ d => uptoBulk d + 1
  | .map entries => uptoBulkEntries entries + 1
  | .held _ => 1
def uptoBulkAll {H : Type} : List (DataW H) → Nat
  | [] => 0
  | d :: r => uptoBulk d + uptoBulkAll r
def uptoBulkEntries {H : Type} : List (Lit × DataW H) → Nat
  | [] => 0
  | x :: r => uptoBulkEntry x + uptoBulkEntries r
def uptoBulkEntry {H : Type} : Lit × DataW H → Nat
  | (.string bytes, d) => bytes.length + uptoBulk d + 1
  | (_, d) => uptoBulk d + 1
 end
def uptoSmall : (H : Type) → List (DataW H) → Bool := fun _ ds => decide (uptoBulkAll ds ≤ 1048576)
def OpenSpec.upto (s : _root_.Go.ChangeSpec) : _root_.Go.OpenSpec := { _root_.Go.OpenSpec.ofChange s with cond := some uptoSmall }

/-- 'hostelrylaw14.DeedTells', WHERE WHAT IT READS IS OF BULK AT MOST 1048576: true; the input reads as it did. -/
def deedTellsUptoRow : OpenClaim := { program := "ytocnobgdlgndjaagreat", sum := "a8c01c768413e2a7738c2454548ba24f12fa7101f6ee5006a33db3f82444baba", func := "hostelry/hostelrylaw14.DeedTells", spec := "deedTells", unfollowed := true, recurses := true, apart := false, narrowed := true }
def DeedTellsUptoSaid : Prop := deedTellsUptoRow.holds Tryz.pinned (OpenSpec.upto deedTellsSpec)

/-- 'hostelrylaw14.DeedSpoils', WHERE WHAT IT READS IS OF BULK AT MOST 1048576: true; the input reads as it did. -/
def deedSpoilsUptoRow : OpenClaim := { program := "ytocnobgdlgndjaagreat", sum := "a8c01c768413e2a7738c2454548ba24f12fa7101f6ee5006a33db3f82444baba", func := "hostelry/hostelrylaw14.DeedSpoils", spec := "deedSpoils", unfollowed := true, recurses := true, apart := false, narrowed := true }
def DeedSpoilsUptoSaid : Prop := deedSpoilsUptoRow.holds Tryz.pinned (OpenSpec.upto deedSpoilsSpec)

/-- 'hostelrylaw14.DeedOrder', WHERE WHAT IT READS IS OF BULK AT MOST 1048576: true; the input reads as it did. -/
def deedOrderUptoRow : OpenClaim := { program := "ytocnobgdlgndjaagreat", sum := "a8c01c768413e2a7738c2454548ba24f12fa7101f6ee5006a33db3f82444baba", func := "hostelry/hostelrylaw14.DeedOrder", spec := "deedOrder", unfollowed := true, recurses := true, apart := false, narrowed := true }
def DeedOrderUptoSaid : Prop := deedOrderUptoRow.holds Tryz.pinned (OpenSpec.upto deedOrderSpec)

/-- 'hostelrylaw14.DeedClaims', WHERE WHAT IT READS IS OF BULK AT MOST 1048576: true; the input reads as it did. -/
def deedClaimsUptoRow : OpenClaim := { program := "ytocnobgdlgndjaagreat", sum := "a8c01c768413e2a7738c2454548ba24f12fa7101f6ee5006a33db3f82444baba", func := "hostelry/hostelrylaw14.DeedClaims", spec := "deedClaims", unfollowed := true, recurses := true, apart := false, narrowed := true }
def DeedClaimsUptoSaid : Prop := deedClaimsUptoRow.holds Tryz.pinned (OpenSpec.upto deedClaimsSpec)

end Rows
end Go.Proofs.YtocnobgdlgndjaaGreat

/- TnH; TnJ of the recipes, what is needed of them. -/
import Derived.LoopTactic
import Derived.Maps.AppendAt
import Derived.Test.YtlmdceeeahnkcaaGreatDoorBS6
import Derived.Test.YtlmdceeeahnkcaaGreatDoorBS3
namespace Go.Proofs.YtlmdceeeahnkcaaGreatDoor.S2
open Go.RowKit Spn

/-- the own row v became v': all other blocks are as they were; v' lies where v lay, or in new memory. -/
structure Goes (v : Value) (w : World) (v' : Value) (w' : World) : Prop where
  grown : w.grownBy w' v.ownBlock
  own : v'.ownBlock = v.ownBlock ∨ ∃ k, v'.ownBlock = some k ∧ w.heap.size ≤ k
theorem Goes.refl (v : Value) (w : World) : Goes v w v w := ⟨World.grownBy.refl _ _, Or.inl rfl⟩
theorem Goes.trans {v1 v2 v3 : Value} {w1 w2 w3 : World} (h : Goes v1 w1 v2 w2) (k : Goes v2 w2 v3 w3) : Goes v1 w1 v3 w3 := by
  obtain ⟨hg, ho⟩ := h
  obtain ⟨kg, ko⟩ := k
  refine ⟨⟨kg.os.trans hg.os, kg.tape.trans hg.tape, kg.output.trans hg.output, Nat.le_trans hg.size kg.size, fun i hi hne => ?_⟩, ?_⟩
  · refine (kg.block i (Nat.lt_of_lt_of_le hi hg.size) ?_).trans (hg.block i hi hne)
    rcases ho with ho | ⟨k, ho, hk⟩
    · rw [ho]; exact hne
    · rw [ho]; intro he; injection he with he; omega
  · rcases ko with ko | ⟨k, ko, hk⟩
    · rw [ko]; exact ho
    · exact Or.inr ⟨k, ko, Nat.le_trans hg.size hk⟩
theorem Goes.below {v : Value} {w w' : World} (h : Below w.heap.size w w') : Goes v w v w' := ⟨⟨h.os, h.tape, h.output, h.size, fun i hi _ => h.block i hi⟩, Or.inl rfl⟩
theorem Goes.to {v v' : Value} {W w w' : World} {l : List Sp} (h : Goes v w v' w') (hown : Own w W.heap.size v l) (hb : Below W.heap.size W w) : Below W.heap.size W w' :=
  hb.grown h.grown hb.size fun j hj => (hown.lt j hj).1
/-- a block that isn't the own row's. -/
def Apart (v : Value) (b : Nat) : Prop := some b ≠ v.ownBlock
theorem Goes.apart {v v' : Value} {w w' : World} {b : Nat} (h : Goes v w v' w') (ha : Apart v b) (hb : b < w.heap.size) : Apart v' b := by
  unfold Apart at *
  rcases h.own with ho | ⟨k, ho, hk⟩
  · rw [ho]; exact ha
  · rw [ho]; intro he; injection he with he; omega
theorem Goes.cell {v v' : Value} {w w' : World} {a : Addr} {u : Value} (h : Goes v w v' w') (ha : Apart v a.block) (hc : w.cell? a = some u) : w'.cell? a = some u := h.grown.cell hc ha
end Go.Proofs.YtlmdceeeahnkcaaGreatDoor.S2
namespace Go.Proofs.YtlmdceeeahnkcaaGreatDoor.S2
open Go.RowKit Spn Go.Sort

theorem own_nil (w : World) (B : Nat) : Own w B (.slice none 0 0) [] := World.ownsRow_nil _ _ _ _
end Go.Proofs.YtlmdceeeahnkcaaGreatDoor.S2

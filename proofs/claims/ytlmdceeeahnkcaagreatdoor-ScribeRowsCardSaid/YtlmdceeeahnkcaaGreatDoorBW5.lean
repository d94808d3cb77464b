/- Walks of package rule: the place of a day. -/
import Derived.Test.YtlmdceeeahnkcaaGreatDoorBRuF
namespace Go.Proofs.YtlmdceeeahnkcaaGreatDoor
open Go.RowKit Rul Go.Sort

/-- six cells of a block, and what lies below. -/
abbrev Six (w : World) (p : Nat) (x0 x1 x2 x3 x4 x5 : Value) (W : World) : Prop :=
  W.cell? ⟨p, 0, none⟩ = some x0 ∧ W.cell? ⟨p, 1, none⟩ = some x1 ∧ W.cell? ⟨p, 2, none⟩ = some x2 ∧ W.cell? ⟨p, 3, none⟩ = some x3 ∧ W.cell? ⟨p, 4, none⟩ = some x4 ∧ W.cell? ⟨p, 5, none⟩ = some x5 ∧ Below w.heap.size w W
theorem Six.keep {w W W1 : World} {p : Nat} {x0 x1 x2 x3 x4 x5 : Value} (h : Six w p x0 x1 x2 x3 x4 x5 W) (hb : Below W.heap.size W W1) : Six w p x0 x1 x2 x3 x4 x5 W1 :=
  ⟨cell_keep hb h.1, cell_keep hb h.2.1, cell_keep hb h.2.2.1, cell_keep hb h.2.2.2.1, cell_keep hb h.2.2.2.2.1, cell_keep hb h.2.2.2.2.2.1, andthen h.2.2.2.2.2.2 hb⟩
/-- a new place, and a date beside it. -/
abbrev Fresh (p q : Nat) (m : Int) (W : World) : Prop := W.cell? ⟨q, 1, none⟩ = some (.int .i64 m) ∧ W.cell? ⟨p, 0, none⟩ = some (.int .i64 0) ∧ W.cell? ⟨p, 1, none⟩ = some (.int .i64 0) ∧ W.cell? ⟨p, 2, none⟩ = some (.int .i64 0) ∧ W.cell? ⟨p, 3, none⟩ = some (.int .i64 0) ∧ W.cell? ⟨p, 4, none⟩ = some (.int .i64 0) ∧ W.cell? ⟨p, 5, none⟩ = some (.int .i64 0) ∧ W.frozen? ⟨p, 0, none⟩ = false ∧ W.frozen? ⟨p, 1, none⟩ = false ∧ W.frozen? ⟨p, 2, none⟩ = false ∧ W.frozen? ⟨p, 3, none⟩ = false ∧ W.frozen? ⟨p, 4, none⟩ = false ∧ W.frozen? ⟨p, 5, none⟩ = false
theorem Fresh.keep {p q : Nat} {m : Int} {W W1 : World} (hb : Below W.heap.size W W1) (h : Fresh p q m W) : Fresh p q m W1 := by
  obtain ⟨c, z0, z1, z2, z3, z4, z5, f0, f1, f2, f3, f4, f5⟩ := h
  have hp := block_lt_of_cell z0
  exact ⟨cell_keep hb c, cell_keep hb z0, cell_keep hb z1, cell_keep hb z2, cell_keep hb z3, cell_keep hb z4, cell_keep hb z5, (hb.frozen (p := ⟨p, 0, none⟩) hp).trans f0, (hb.frozen (p := ⟨p, 1, none⟩) hp).trans f1, (hb.frozen (p := ⟨p, 2, none⟩) hp).trans f2, (hb.frozen (p := ⟨p, 3, none⟩) hp).trans f3, (hb.frozen (p := ⟨p, 4, none⟩) hp).trans f4, (hb.frozen (p := ⟨p, 5, none⟩) hp).trans f5⟩

end Go.Proofs.YtlmdceeeahnkcaaGreatDoor

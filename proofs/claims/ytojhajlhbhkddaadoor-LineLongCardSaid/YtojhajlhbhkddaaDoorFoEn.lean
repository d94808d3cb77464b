/- What the walks ask of the world: bytealg.MaxLen's cell holds a number. -/
import Derived.Test.YtojhajlhbhkddaaDoorRtC
namespace Go.Proofs.YtojhajlhbhkddaaDoor
open Go.RowKit Rul Rt Go.Sort

/-- a package-level variable's cell. -/
theorem cell_below {B : Nat} {w w' : World} {b : Nat} {v : Value} (h : w.cell? ⟨b, 0, none⟩ = some v) (hb : Below B w w') (hB : w.heap.size ≤ B) : w'.cell? ⟨b, 0, none⟩ = some v :=
  (hb.cell (p := ⟨b, 0, none⟩) (Nat.lt_of_lt_of_le (block_lt_of_cell h) hB)).trans h
structure Env (w : World) : Prop where
  len : ∃ m : Int, w.cell? ⟨0, 0, none⟩ = some (.int .i64 m)
theorem Env.below {B : Nat} {w w' : World} (h : Env w) (hb : Below B w w') (hB : w.heap.size ≤ B) : Env w' := by
  obtain ⟨⟨m, h2⟩⟩ := h
  exact ⟨⟨m, cell_below h2 hb hB⟩⟩
theorem Env.keep {w w' : World} (h : Env w) (hb : Below w.heap.size w w') : Env w' := h.below hb (Nat.le_refl _)

theorem data_str (x : ByteArray) : str x.data.toList = x := (str_of x).symm

end Go.Proofs.YtojhajlhbhkddaaDoor

/- Walks of package rule: the place of a day. -/
import Derived.Test.YtojhajlhbhkddaaDoorRuF
namespace Go.Proofs.YtojhajlhbhkddaaDoor
open Go.RowKit Rul Go.Sort

/-- the world of a walk's end under a name, with what is asked of it. -/
theorem ret_gen {P : Program} {f : Func} {Q : Ending → World → Prop} {a : Act} {W : World} (E : World → Prop) (he : E W) (k : ∀ WF, E WF → bodyPost P f Q .ret a WF) : bodyPost P f Q .ret a W := k W he
/-- six cells of a block, and what lies below. -/
abbrev Six (w : World) (p : Nat) (x0 x1 x2 x3 x4 x5 : Value) (W : World) : Prop :=
  W.cell? ⟨p, 0, none⟩ = some x0 ∧ W.cell? ⟨p, 1, none⟩ = some x1 ∧ W.cell? ⟨p, 2, none⟩ = some x2 ∧ W.cell? ⟨p, 3, none⟩ = some x3 ∧ W.cell? ⟨p, 4, none⟩ = some x4 ∧ W.cell? ⟨p, 5, none⟩ = some x5 ∧ Below w.heap.size w W
theorem six_set {w W : World} {x0 x1 x2 x3 x4 x5 y0 y1 y2 y3 y4 y5 : Value} (h : Six w w.heap.size x0 x1 x2 x3 x4 x5 W) :
    Six w w.heap.size y0 y1 y2 y3 y4 y5 ((((((W.setCell ⟨w.heap.size, 0, none⟩ y0).setCell ⟨w.heap.size, 1, none⟩ y1).setCell ⟨w.heap.size, 2, none⟩ y2).setCell ⟨w.heap.size, 3, none⟩ y3).setCell ⟨w.heap.size, 4, none⟩ y4).setCell ⟨w.heap.size, 5, none⟩ y5) := by
  obtain ⟨c0, c1, c2, c3, c4, c5, hb⟩ := h
  have st : ∀ {W : World} {i : Nat} {x y : Value}, W.cell? ⟨w.heap.size, i, none⟩ = some x → (W.setCell ⟨w.heap.size, i, none⟩ y).cell? ⟨w.heap.size, i, none⟩ = some y := fun h => World.cell?_setCell_same _ _ _ h
  have ot : ∀ {W : World} {i j : Nat} {x y : Value}, i ≠ j → W.cell? ⟨w.heap.size, i, none⟩ = some x → (W.setCell ⟨w.heap.size, j, none⟩ y).cell? ⟨w.heap.size, i, none⟩ = some x := fun hn h =>
    (World.cell?_setCell_other _ _ _ _ (by intro hc; injection hc with _ hc1; omega)).trans h
  have be : ∀ {W : World} {j : Nat} {y : Value}, Below w.heap.size w W → Below w.heap.size w (W.setCell ⟨w.heap.size, j, none⟩ y) := fun h => h.setCell (Nat.le_refl _) _
  refine ⟨?_, ?_, ?_, ?_, ?_, ?_, be (be (be (be (be (be hb)))))⟩
  · exact ot (by omega) (ot (by omega) (ot (by omega) (ot (by omega) (ot (by omega) (st c0)))))
  · exact ot (by omega) (ot (by omega) (ot (by omega) (ot (by omega) (st (ot (by omega) c1)))))
  · exact ot (by omega) (ot (by omega) (ot (by omega) (st (ot (by omega) (ot (by omega) c2)))))
  · exact ot (by omega) (ot (by omega) (st (ot (by omega) (ot (by omega) (ot (by omega) c3)))))
  · exact ot (by omega) (st (ot (by omega) (ot (by omega) (ot (by omega) (ot (by omega) c4)))))
  · exact st (ot (by omega) (ot (by omega) (ot (by omega) (ot (by omega) (ot (by omega) c5)))))
theorem Six.keep {w W W1 : World} {p : Nat} {x0 x1 x2 x3 x4 x5 : Value} (h : Six w p x0 x1 x2 x3 x4 x5 W) (hb : Below W.heap.size W W1) : Six w p x0 x1 x2 x3 x4 x5 W1 :=
  ⟨cell_keep hb h.1, cell_keep hb h.2.1, cell_keep hb h.2.2.1, cell_keep hb h.2.2.2.1, cell_keep hb h.2.2.2.2.1, cell_keep hb h.2.2.2.2.2.1, andthen h.2.2.2.2.2.2 hb⟩
theorem six_new (w : World) (x0 x1 x2 x3 x4 x5 : Value) (t : TypeId) : Six w w.heap.size x0 x1 x2 x3 x4 x5 (w.alloc (.cells #[x0, x1, x2, x3, x4, x5] t)) := by
  refine ⟨?_, ?_, ?_, ?_, ?_, ?_, more (start _) _⟩
  all_goals (rw [World.cell?_alloc_at _ _ _ _ rfl]; rfl)

/-- a new place, and a date beside it. -/
abbrev Fresh (p q : Nat) (m : Int) (W : World) : Prop := W.cell? ⟨q, 1, none⟩ = some (.int .i64 m) ∧ W.cell? ⟨p, 0, none⟩ = some (.int .i64 0) ∧ W.cell? ⟨p, 1, none⟩ = some (.int .i64 0) ∧ W.cell? ⟨p, 2, none⟩ = some (.int .i64 0) ∧ W.cell? ⟨p, 3, none⟩ = some (.int .i64 0) ∧ W.cell? ⟨p, 4, none⟩ = some (.int .i64 0) ∧ W.cell? ⟨p, 5, none⟩ = some (.int .i64 0) ∧ W.frozen? ⟨p, 0, none⟩ = false ∧ W.frozen? ⟨p, 1, none⟩ = false ∧ W.frozen? ⟨p, 2, none⟩ = false ∧ W.frozen? ⟨p, 3, none⟩ = false ∧ W.frozen? ⟨p, 4, none⟩ = false ∧ W.frozen? ⟨p, 5, none⟩ = false
theorem Fresh.keep {p q : Nat} {m : Int} {W W1 : World} (hb : Below W.heap.size W W1) (h : Fresh p q m W) : Fresh p q m W1 := by
  obtain ⟨c, z0, z1, z2, z3, z4, z5, f0, f1, f2, f3, f4, f5⟩ := h
  have hp := block_lt_of_cell z0
  exact ⟨cell_keep hb c, cell_keep hb z0, cell_keep hb z1, cell_keep hb z2, cell_keep hb z3, cell_keep hb z4, cell_keep hb z5, (hb.frozen (p := ⟨p, 0, none⟩) hp).trans f0, (hb.frozen (p := ⟨p, 1, none⟩) hp).trans f1, (hb.frozen (p := ⟨p, 2, none⟩) hp).trans f2, (hb.frozen (p := ⟨p, 3, none⟩) hp).trans f3, (hb.frozen (p := ⟨p, 4, none⟩) hp).trans f4, (hb.frozen (p := ⟨p, 5, none⟩) hp).trans f5⟩

theorem far6 {w : World} {p q : Nat} {u x0 x1 x2 x3 x4 x5 : Value} (h : p < q) (c : w.cell? ⟨q, 1, none⟩ = some u) :
    ((((((w.setCell ⟨p, 0, none⟩ x0).setCell ⟨p, 1, none⟩ x1).setCell ⟨p, 2, none⟩ x2).setCell ⟨p, 3, none⟩ x3).setCell ⟨p, 4, none⟩ x4).setCell ⟨p, 5, none⟩ x5).cell? ⟨q, 1, none⟩ = some u := by
  repeat rw [World.cell?_setCell_other _ _ _ _ (by intro hc; injection hc with hc1; omega)]
  exact c

end Go.Proofs.YtojhajlhbhkddaaDoor

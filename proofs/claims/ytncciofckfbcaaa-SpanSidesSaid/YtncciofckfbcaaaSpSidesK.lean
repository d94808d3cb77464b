/- SpanSides: what its cases share. -/
import Derived.Test.YtncciofckfbcaaaSpK
import Derived.Test.YtncciofckfbcaaaSpMathB
import Derived.Test.YtncciofckfbcaaaSpBox
namespace Go.Proofs.Ytncciofckfbcaaa
open Go.RowKit Spn Go.Sort

theorem meet_comm_is {f t g u x y : Int} (h : meet (f, t) (g, u) = (x, y)) : meet (g, u) (f, t) = (x, y) := by rw [meet_comm]; exact h
theorem meet_idem_is {f t g u x y : Int} (h : meet (f, t) (g, u) = (x, y)) : meet (x, y) (f, t) = (x, y) := by rw [← h]; exact meet_idem _ _

theorem sides_keep {w W W1 : World} {f t g u x y : Int} {M : Nat} (hb : Below W.heap.size W W1)
    (h : W.cell? ⟨w.heap.size, 0, none⟩ = some (.int .i64 f) ∧ W.cell? ⟨w.heap.size, 1, none⟩ = some (.int .i64 t) ∧ W.cell? ⟨w.heap.size + 1, 0, none⟩ = some (.int .i64 g) ∧ W.cell? ⟨w.heap.size + 1, 1, none⟩ = some (.int .i64 u) ∧ W.cell? ⟨M, 0, none⟩ = some (.int .i64 x) ∧ W.cell? ⟨M, 1, none⟩ = some (.int .i64 y) ∧ Boxes w f t g u W ∧ Box W M x y) :
    W1.cell? ⟨w.heap.size, 0, none⟩ = some (.int .i64 f) ∧ W1.cell? ⟨w.heap.size, 1, none⟩ = some (.int .i64 t) ∧ W1.cell? ⟨w.heap.size + 1, 0, none⟩ = some (.int .i64 g) ∧ W1.cell? ⟨w.heap.size + 1, 1, none⟩ = some (.int .i64 u) ∧ W1.cell? ⟨M, 0, none⟩ = some (.int .i64 x) ∧ W1.cell? ⟨M, 1, none⟩ = some (.int .i64 y) ∧ Boxes w f t g u W1 ∧ Box W1 M x y :=
  have HB := h.2.2.2.2.2.2.1.keep hb
  have HX := h.2.2.2.2.2.2.2.keep hb
  ⟨HB.a0, HB.a1, HB.b0, HB.b1, HX.c0, HX.c1, HB, HX⟩


end Go.Proofs.Ytncciofckfbcaaa

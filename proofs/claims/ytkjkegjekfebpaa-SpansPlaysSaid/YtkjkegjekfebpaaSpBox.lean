/- Boxed spans behind a call's first world. -/
import Derived.Test.YtkjkegjekfebpaaSpC
namespace Go.Proofs.Ytkjkegjekfebpaa
open Go.RowKit Spn

/-- two boxed spans, and one more, behind a call's first world. -/
structure Boxes (w : World) (f t g u : Int) (W : World) : Prop where
  a0 : W.cell? ⟨w.heap.size, 0, none⟩ = some (.int .i64 f)
  a1 : W.cell? ⟨w.heap.size, 1, none⟩ = some (.int .i64 t)
  b0 : W.cell? ⟨w.heap.size + 1, 0, none⟩ = some (.int .i64 g)
  b1 : W.cell? ⟨w.heap.size + 1, 1, none⟩ = some (.int .i64 u)
  lt : w.heap.size + 1 < W.heap.size
  below : Below w.heap.size w W
theorem Boxes.keep {w W W1 : World} {f t g u : Int} (h : Boxes w f t g u W) (hb : Below W.heap.size W W1) : Boxes w f t g u W1 :=
  have h0 : w.heap.size < W.heap.size := Nat.lt_of_succ_lt h.lt
  ⟨(hb.cell (p := ⟨w.heap.size, 0, none⟩) h0).trans h.a0, (hb.cell (p := ⟨w.heap.size, 1, none⟩) h0).trans h.a1, (hb.cell (p := ⟨w.heap.size + 1, 0, none⟩) h.lt).trans h.b0, (hb.cell (p := ⟨w.heap.size + 1, 1, none⟩) h.lt).trans h.b1, Nat.lt_of_lt_of_le h.lt hb.size, andthen h.below hb⟩
theorem boxes_new (w : World) (f t g u : Int) : Boxes w f t g u ((w.alloc (.cells #[.int .i64 f, .int .i64 t] 25)).alloc (.cells #[.int .i64 g, .int .i64 u] 25)) :=
  ⟨by rw [World.cell?_alloc_past _ _ _ (by simp), World.cell?_alloc_at _ _ _ _ rfl]; rfl, by rw [World.cell?_alloc_past _ _ _ (by simp), World.cell?_alloc_at _ _ _ _ rfl]; rfl,
    by rw [World.cell?_alloc_at _ _ _ _ (by simp)]; rfl, by rw [World.cell?_alloc_at _ _ _ _ (by simp)]; rfl, by simp, more (more (start _) _) _⟩
/-- a boxed span. -/
structure Box (W : World) (b : Nat) (x y : Int) : Prop where
  c0 : W.cell? ⟨b, 0, none⟩ = some (.int .i64 x)
  c1 : W.cell? ⟨b, 1, none⟩ = some (.int .i64 y)
  lt : b < W.heap.size
theorem Box.keep {W W1 : World} {b : Nat} {x y : Int} (h : Box W b x y) (hb : Below W.heap.size W W1) : Box W1 b x y :=
  ⟨(hb.cell (p := ⟨b, 0, none⟩) h.lt).trans h.c0, (hb.cell (p := ⟨b, 1, none⟩) h.lt).trans h.c1, Nat.lt_of_lt_of_le h.lt hb.size⟩
theorem box_new (w : World) (x y : Int) : Box (w.alloc (.cells #[.int .i64 x, .int .i64 y] 25)) w.heap.size x y :=
  ⟨by rw [World.cell?_alloc_at _ _ _ _ rfl]; rfl, by rw [World.cell?_alloc_at _ _ _ _ rfl]; rfl, by simp⟩

end Go.Proofs.Ytkjkegjekfebpaa

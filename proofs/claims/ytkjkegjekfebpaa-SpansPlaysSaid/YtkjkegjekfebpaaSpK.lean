/- What every law of layer 2 asks first (known): walked; the law's own small helpers: s, in, long. -/
import Derived.Test.YtkjkegjekfebpaaSpH
namespace Go.Proofs.Ytkjkegjekfebpaa
open Go.RowKit Spn Go.Sort

theorem row_block {w : World} {b : Nat} {cs : Array Value} {t : TypeId} {fr : Nat × Nat} {l : List Sp} (hb : w.heap[b]? = some (.cells cs t fr)) (hl : cs.toList = cellsL l) : Row w (some ⟨b, 0, none⟩) l := fun _ =>
  ⟨b, 0, rfl, (Array.getElem?_eq_some_iff.1 hb).1, fun i hi => by
    obtain ⟨c1, c2⟩ := cellsL_get l i hi
    rw [← hl, Array.getElem?_toList] at c1 c2
    rw [cell_of_row w b _ cs t fr hb, cell_of_row w b _ cs t fr hb, Nat.zero_add]
    exact ⟨c1, c2⟩⟩
theorem long_is (f t v : Int) (w : World) (h : long (f, t) = v) :
    Calls Try.prog 56 #[.agg #[.int .i64 f, .int .i64 t]] w fun e w' => e = .returned (.int .i64 v) ∧ Below w.heap.size w w' := by
  subst h; exact long_any f t w
theorem within_is (f t g u : Int) (b : Bool) (w : World) (h : withinB (f, t) (g, u) = b) :
    Calls Try.prog 45 #[.agg #[.int .i64 f, .int .i64 t], .agg #[.int .i64 g, .int .i64 u]] w fun e w' => e = .returned (.bool b) ∧ Below w.heap.size w w' := by
  subst h; exact within_any f t g u w
/-- a block that begins with two spans. -/
def Two (w : World) (g : Nat) (p q : Sp) : Prop := g < w.heap.size ∧ w.cell? ⟨g, 0, none⟩ = some (.int .i64 p.1) ∧ w.cell? ⟨g, 1, none⟩ = some (.int .i64 p.2) ∧ w.cell? ⟨g, 2, none⟩ = some (.int .i64 q.1) ∧ w.cell? ⟨g, 3, none⟩ = some (.int .i64 q.2)
theorem Two.keep {w w1 : World} {g : Nat} {p q : Sp} (h : Two w g p q) (hb : Below w.heap.size w w1) : Two w1 g p q :=
  ⟨Nat.lt_of_lt_of_le h.1 hb.size, (hb.cell (p := ⟨g, _, none⟩) h.1).trans h.2.1, (hb.cell (p := ⟨g, _, none⟩) h.1).trans h.2.2.1, (hb.cell (p := ⟨g, _, none⟩) h.1).trans h.2.2.2.1, (hb.cell (p := ⟨g, _, none⟩) h.1).trans h.2.2.2.2⟩
theorem Own.two {w : World} {B : Nat} {v : Value} {p q : Sp} (h : Own w B v [p, q]) : ∃ g cap, v = .slice (some ⟨g, 0, none⟩) 2 cap ∧ Two w g p q := by
  obtain ⟨A, cap, rfl, hr⟩ := Own.row h
  rcases h.2 with ⟨h1, h0⟩ | ⟨g, cap', cur, h1, hb, hg, _⟩
  · simp at h0
  · obtain ⟨b, off, rfl, hlt, hc⟩ := hr (by simp)
    injection h1 with h1 _ _
    injection h1 with h1
    injection h1 with h1 h2 _
    subst h1 h2
    have c0 := hc 0 (by simp)
    have c1 := hc 1 (by simp)
    exact ⟨b, cap, rfl, hlt, c0.1, c0.2, c1.1, c1.2⟩

end Go.Proofs.Ytkjkegjekfebpaa

/- CivilTells, lemmas ahead of its walk: of every date, number, time its day, minute, text, or what is wrong, as the document's own answers have it. -/
import Derived.Test.YtbohogaopfkmlaaDoorRefF
import Derived.Test.YtbohogaopfkmlaaDoorRefE
import Derived.Test.YtbohogaopfkmlaaDoorCivN
namespace Go.Proofs.YtbohogaopfkmlaaDoor
open Go.RowKit

/-- three cells of a date. -/
structure Cells3 (W : World) (b : Nat) (y m d : Int) : Prop where
  lt : b < W.heap.size
  c0 : W.cell? ⟨b, 0, none⟩ = some (.int .i64 y)
  c1 : W.cell? ⟨b, 1, none⟩ = some (.int .i64 m)
  c2 : W.cell? ⟨b, 2, none⟩ = some (.int .i64 d)
theorem Cells3.below {W W' : World} {b : Nat} {y m d : Int} (h : Cells3 W b y m d) (hb : Below W.heap.size W W') : Cells3 W' b y m d :=
  ⟨Nat.lt_of_lt_of_le h.lt hb.size, by rw [(bcell hb).1 _ _ h.lt, h.c0], by rw [(bcell hb).1 _ _ h.lt, h.c1], by rw [(bcell hb).1 _ _ h.lt, h.c2]⟩
theorem Cells3.alloc {W : World} {b : Nat} {y m d : Int} (h : Cells3 W b y m d) (o : Obj) : Cells3 (W.alloc o) b y m d :=
  h.below ((Below.refl _ _).alloc (Nat.le_refl _) o)
theorem Cells3.new (W : World) (y m d : Int) (t : TypeId) : Cells3 (W.alloc (.cells #[.int .i64 y, .int .i64 m, .int .i64 d] t)) W.heap.size y m d :=
  ⟨by simp, by simp, by simp, by simp⟩

theorem Cells3.set {W : World} {b : Nat} {y m d : Int} (h : Cells3 W b y m d) (g o : Nat) (v : Value) (hne : b ≠ g) : Cells3 (W.setCell ⟨g, o, none⟩ v) b y m d := by
  have ne : ∀ k : Nat, (⟨g, o, none⟩ : Addr) ≠ ⟨b, k, none⟩ := fun k e => hne (congrArg Addr.block e).symm
  refine ⟨?_, ?_, ?_, ?_⟩
  · have := h.lt; simpa [World.setCell] using this
  · rw [World.cell?_setCell_other (h := ne 0)]; exact h.c0
  · rw [World.cell?_setCell_other (h := ne 1)]; exact h.c1
  · rw [World.cell?_setCell_other (h := ne 2)]; exact h.c2
theorem Tab.set {W : World} (h : Tab W) (g o : Nat) (v : Value) (hg : 0 < g) : Tab (W.setCell ⟨g, o, none⟩ v) :=
  var?_below ((Below.refl g W).setCell (Nat.le_refl _) v) tab_global hg h

/-- what Date answers: the date, and which error. -/
def dateQ (n : Int) : Int × Int × Int × Int := if 0 ≤ n ∧ n < 36525 then (Cal.yOf n, Cal.mOf n, Cal.dOf n, 0) else (0, 0, 0, 10)
theorem Date_q (n y m d c : Int) (w : World) (h : dateQ n = (y, m, d, c)) :
    Calls Tryd.prog 14 #[.int .i64 n] w fun e w' => e = .returned (.tuple #[.agg #[.int .i64 y, .int .i64 m, .int .i64 d], .int .i64 c]) ∧ Below w.heap.size w w' := by
  unfold dateQ at h
  by_cases g : 0 ≤ n ∧ n < 36525
  · rw [if_pos g] at h
    simp only [Prod.mk.injEq] at h
    obtain ⟨rfl, rfl, rfl, rfl⟩ := h
    exact Date_yes n w g.1 g.2
  · rw [if_neg g] at h
    simp only [Prod.mk.injEq] at h
    obtain ⟨rfl, rfl, rfl, rfl⟩ := h
    exact Date_no n w (by omega)
theorem rDate_q (n y m d c : Int) (w : World) (h : dateQ n = (y, m, d, c)) :
    Calls Tryd.prog 15 #[.int .i64 n] w fun e w' => e = .returned (.tuple #[.agg #[.int .i64 y, .int .i64 m, .int .i64 d], .int .i64 c]) ∧ Below w.heap.size w w' := by
  unfold dateQ at h
  by_cases g : 0 ≤ n ∧ n < 36525
  · rw [if_pos g] at h
    simp only [Prod.mk.injEq] at h
    obtain ⟨rfl, rfl, rfl, rfl⟩ := h
    exact rDate_walk n w g.1 g.2
  · rw [if_neg g] at h
    simp only [Prod.mk.injEq] at h
    obtain ⟨rfl, rfl, rfl, rfl⟩ := h
    exact rDate_no n w (by omega)
theorem tMinute (y m d h i a c : Int) (w : World) (e : minE y m d h i = (a, c)) :
    Calls Tryd.prog 16 #[.agg #[.int .i64 y, .int .i64 m, .int .i64 d], .int .i64 h, .int .i64 i] w fun e w' => e = .returned (.tuple #[.int .i64 a, .int .i64 c]) ∧ Below w.heap.size w w' := by
  have := Minute_any y m d h i w
  rw [e] at this
  exact this
theorem trMinute (y m d h i a c : Int) (w : World) (e : minE y m d h i = (a, c)) :
    Calls Tryd.prog 17 #[.agg #[.int .i64 y, .int .i64 m, .int .i64 d], .int .i64 h, .int .i64 i] w fun e w' => e = .returned (.tuple #[.int .i64 a, .int .i64 c]) ∧ Below w.heap.size w w' := by
  have := rMinute_any y m d h i w
  rw [e] at this
  exact this
theorem tClock (x y m d h i : Int) (w : World) (h1 : 0 ≤ x) (h2 : x < 52596000) (e : Cal.yOf (x / 1440) = y ∧ Cal.mOf (x / 1440) = m ∧ Cal.dOf (x / 1440) = d ∧ x % 1440 / 60 = h ∧ x % 60 = i) :
    Calls Tryd.prog 18 #[.int .i64 x] w fun e w' => e = .returned (.tuple #[.agg #[.int .i64 y, .int .i64 m, .int .i64 d], .int .i64 h, .int .i64 i, .int .i64 0]) ∧ Below w.heap.size w w' := by
  obtain ⟨rfl, rfl, rfl, rfl, rfl⟩ := e
  exact Clock_yes x w h1 h2

theorem tells_keep {w W w2 : World} {b0 b1 b2 b3 b4 : Nat} {y0 m0 d0 y1 m1 d1 y2 m2 d2 y3 m3 d3 y4 m4 d4 : Int} (hb : Below W.heap.size W w2)
    (h : W.cell? ⟨b0, 0, none⟩ = some (.int .i64 y0) ∧ W.cell? ⟨b0, 1, none⟩ = some (.int .i64 m0) ∧ W.cell? ⟨b0, 2, none⟩ = some (.int .i64 d0) ∧ W.cell? ⟨b1, 0, none⟩ = some (.int .i64 y1) ∧ W.cell? ⟨b1, 1, none⟩ = some (.int .i64 m1) ∧ W.cell? ⟨b1, 2, none⟩ = some (.int .i64 d1) ∧ W.cell? ⟨b2, 0, none⟩ = some (.int .i64 y2) ∧ W.cell? ⟨b2, 1, none⟩ = some (.int .i64 m2) ∧ W.cell? ⟨b2, 2, none⟩ = some (.int .i64 d2) ∧ W.cell? ⟨b3, 0, none⟩ = some (.int .i64 y3) ∧ W.cell? ⟨b3, 1, none⟩ = some (.int .i64 m3) ∧ W.cell? ⟨b3, 2, none⟩ = some (.int .i64 d3) ∧ W.cell? ⟨b4, 0, none⟩ = some (.int .i64 y4) ∧ W.cell? ⟨b4, 1, none⟩ = some (.int .i64 m4) ∧ W.cell? ⟨b4, 2, none⟩ = some (.int .i64 d4) ∧ Tab W ∧ b0 < W.heap.size ∧ b1 < W.heap.size ∧ b2 < W.heap.size ∧ b3 < W.heap.size ∧ b4 < W.heap.size ∧ Below b0 w W) :
    w2.cell? ⟨b0, 0, none⟩ = some (.int .i64 y0) ∧ w2.cell? ⟨b0, 1, none⟩ = some (.int .i64 m0) ∧ w2.cell? ⟨b0, 2, none⟩ = some (.int .i64 d0) ∧ w2.cell? ⟨b1, 0, none⟩ = some (.int .i64 y1) ∧ w2.cell? ⟨b1, 1, none⟩ = some (.int .i64 m1) ∧ w2.cell? ⟨b1, 2, none⟩ = some (.int .i64 d1) ∧ w2.cell? ⟨b2, 0, none⟩ = some (.int .i64 y2) ∧ w2.cell? ⟨b2, 1, none⟩ = some (.int .i64 m2) ∧ w2.cell? ⟨b2, 2, none⟩ = some (.int .i64 d2) ∧ w2.cell? ⟨b3, 0, none⟩ = some (.int .i64 y3) ∧ w2.cell? ⟨b3, 1, none⟩ = some (.int .i64 m3) ∧ w2.cell? ⟨b3, 2, none⟩ = some (.int .i64 d3) ∧ w2.cell? ⟨b4, 0, none⟩ = some (.int .i64 y4) ∧ w2.cell? ⟨b4, 1, none⟩ = some (.int .i64 m4) ∧ w2.cell? ⟨b4, 2, none⟩ = some (.int .i64 d4) ∧ Tab w2 ∧ b0 < w2.heap.size ∧ b1 < w2.heap.size ∧ b2 < w2.heap.size ∧ b3 < w2.heap.size ∧ b4 < w2.heap.size ∧ Below b0 w w2 := by
  obtain ⟨c0, c1, c2, c3, c4, c5, c6, c7, c8, c9, c10, c11, c12, c13, c14, t, l0, l1, l2, l3, l4, k⟩ := h
  have hc := (bcell hb).1
  have hs := hb.size
  exact ⟨by rw [hc _ _ l0, c0], by rw [hc _ _ l0, c1], by rw [hc _ _ l0, c2], by rw [hc _ _ l1, c3], by rw [hc _ _ l1, c4], by rw [hc _ _ l1, c5], by rw [hc _ _ l2, c6], by rw [hc _ _ l2, c7], by rw [hc _ _ l2, c8],
    by rw [hc _ _ l3, c9], by rw [hc _ _ l3, c10], by rw [hc _ _ l3, c11], by rw [hc _ _ l4, c12], by rw [hc _ _ l4, c13], by rw [hc _ _ l4, c14], t.below hb (Nat.le_refl _), by omega, by omega, by omega, by omega, by omega, k.trans (hb.mono (by omega))⟩

theorem tells_tab {w W : World} {b0 b1 b2 b3 b4 : Nat} {y0 m0 d0 y1 m1 d1 y2 m2 d2 y3 m3 d3 y4 m4 d4 : Int}
    (h : W.cell? ⟨b0, 0, none⟩ = some (.int .i64 y0) ∧ W.cell? ⟨b0, 1, none⟩ = some (.int .i64 m0) ∧ W.cell? ⟨b0, 2, none⟩ = some (.int .i64 d0) ∧ W.cell? ⟨b1, 0, none⟩ = some (.int .i64 y1) ∧ W.cell? ⟨b1, 1, none⟩ = some (.int .i64 m1) ∧ W.cell? ⟨b1, 2, none⟩ = some (.int .i64 d1) ∧ W.cell? ⟨b2, 0, none⟩ = some (.int .i64 y2) ∧ W.cell? ⟨b2, 1, none⟩ = some (.int .i64 m2) ∧ W.cell? ⟨b2, 2, none⟩ = some (.int .i64 d2) ∧ W.cell? ⟨b3, 0, none⟩ = some (.int .i64 y3) ∧ W.cell? ⟨b3, 1, none⟩ = some (.int .i64 m3) ∧ W.cell? ⟨b3, 2, none⟩ = some (.int .i64 d3) ∧ W.cell? ⟨b4, 0, none⟩ = some (.int .i64 y4) ∧ W.cell? ⟨b4, 1, none⟩ = some (.int .i64 m4) ∧ W.cell? ⟨b4, 2, none⟩ = some (.int .i64 d4) ∧ Tab W ∧ b0 < W.heap.size ∧ b1 < W.heap.size ∧ b2 < W.heap.size ∧ b3 < W.heap.size ∧ b4 < W.heap.size ∧ Below b0 w W) : Tab W := h.2.2.2.2.2.2.2.2.2.2.2.2.2.2.2.1


end Go.Proofs.YtbohogaopfkmlaaDoor

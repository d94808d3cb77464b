/- A cell of a block written: what lies in the block then; a call's own row beside it; two claims of a row written. -/
import Derived.Test.YtocnobgdlgndjaaGreatDeK
import Derived.Laws.OwnMore
namespace Go.Proofs.YtocnobgdlgndjaaGreat
open Go.RowKit Rul De Cl

theorem range_set {w : World} {b f : Nat} {cs : List Value} (h : w.rangeAt b f cs) (i k : Nat) (v : Value) (hi : i < cs.length) (hk : f + i = k) : (w.setCell ⟨b, k, none⟩ v).rangeAt b f (cs.set i v) := fun j u hu => by
  subst hk
  by_cases e : i = j
  · subst e
    rw [List.getElem?_set_self hi] at hu
    have := h i _ (List.getElem?_eq_getElem hi)
    rw [World.cell?_setCell_same _ _ _ this]
    exact hu
  · rw [List.getElem?_set_ne e] at hu
    rw [World.cell?_setCell_other _ _ _ _ (by intro q; injection q with _ q; omega)]
    exact h j u hu
theorem own_set {w : World} {B : Nat} {v : Value} {l : List C} (h : S2.OwnC w B v l) (g r : Nat) (u : Value) (hg : g < B) : S2.OwnC (w.setCell ⟨g, r, none⟩ u) B v l :=
  have hb := Below.setCell (Below.refl g w) (p := ⟨g, r, none⟩) (Nat.le_refl g) u
  World.ownsRow.kept (row := some g) h ⟨hb.os, hb.tape, hb.output, hb.size, fun i _ hne => Below.heap_setCell w _ u i (fun e => hne (by rw [e]))⟩ (by
    cases hv : v.ownBlock with
    | none => exact .inl rfl
    | some k => right; intro e; injection e with e; have := (World.ownsRow.lt h k hv).1; omega)
theorem own_row {w : World} {B n c : Nat} {A : Option Addr} {l : List C} (h : S2.OwnC w B (.slice A n c) l) : S2.RowC w A l := by
  obtain ⟨A2, c2, e, hr⟩ := S2.OwnC.row h
  injection e with e1 e2 e3
  subst e1
  exact hr
theorem own_some {w : World} {B : Nat} {v : Value} {l : List C} (h : S2.OwnC w B v l) (hl : 0 < l.length) : ∃ g cap, v = .slice (some ⟨g, 0, none⟩) l.length cap ∧ B ≤ g ∧ g < w.heap.size := by
  rcases h.2 with ⟨rfl, hn⟩ | ⟨g, cap, cur, rfl, hb, hg, hnc, hcm, hcs, htake⟩
  · omega
  · exact ⟨g, cap, rfl, hb, (World.ownsRow.lt h g rfl).2⟩
theorem own_cells {w : World} {B g cap : Nat} {l : List C} (h : S2.OwnC w B (.slice (some ⟨g, 0, none⟩) l.length cap) l) (i : Nat) (hi : i < l.length) :
    w.cell? ⟨g, i * 3, none⟩ = some (.int .i64 l[i].1) ∧ w.cell? ⟨g, i * 3 + 1, none⟩ = some (.int .i64 l[i].2.1) ∧ w.cell? ⟨g, i * 3 + 2, none⟩ = some (.int .i64 l[i].2.2) := by
  obtain ⟨c1, c2, c3⟩ := S2.cellsC_get l i hi
  exact ⟨(World.ownsRow.cellAt h _ (by omega)).trans c1, (World.ownsRow.cellAt h _ (by omega)).trans c2, (World.ownsRow.cellAt h _ (by omega)).trans c3⟩
theorem cellsC_set : ∀ (l : List C) (i : Nat) (p : C), i < l.length → S2.cellsC (l.set i p) = (((S2.cellsC l).set (i * 3) (.int .i64 p.1)).set (i * 3 + 1) (.int .i64 p.2.1)).set (i * 3 + 2) (.int .i64 p.2.2)
  | [], _, _, h => absurd h (Nat.not_lt_zero _)
  | a :: l, 0, p, _ => rfl
  | a :: l, i + 1, p, h => by
    have := cellsC_set l i p (by simpa using h)
    rw [List.set_cons_succ, S2.cellsC_cons, S2.cellsC_cons, this]
    rw [show (i + 1) * 3 = i * 3 + 1 + 1 + 1 by omega, show i * 3 + 1 + 1 + 1 + 1 = i * 3 + 1 + 1 + 1 + 1 from rfl]
    simp only [List.set_cons_succ]
theorem own_put {w : World} {B g cap n : Nat} {l : List C} (h : S2.OwnC w B (.slice (some ⟨g, 0, none⟩) n cap) l) (hn : n = l.length) (i : Nat) (p : C) (hi : i < l.length) :
    S2.OwnC (((w.setCell ⟨g, i * 3, none⟩ (.int .i64 p.1)).setCell ⟨g, i * 3 + 1, none⟩ (.int .i64 p.2.1)).setCell ⟨g, i * 3 + 2, none⟩ (.int .i64 p.2.2)) B (.slice (some ⟨g, 0, none⟩) n cap) (l.set i p) := by
  subst hn
  have h1 := (World.ownsRow.stored h (i * 3) (.int .i64 p.1)).1
  have h2 := (World.ownsRow.stored h1 (i * 3 + 1) (.int .i64 p.2.1)).1
  have h3 := (World.ownsRow.stored h2 (i * 3 + 2) (.int .i64 p.2.2)).1
  show World.ownsRow _ _ _ _ _ (l.set i p).length (S2.cellsC (l.set i p))
  rw [List.length_set, cellsC_set l i p hi]
  exact h3
end Go.Proofs.YtocnobgdlgndjaaGreat

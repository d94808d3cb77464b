/- RuX; RtC of the recipes, what is needed of them. -/
import Derived.Laws.AppendOwn
import Derived.OwnWalk
import Derived.LoopTactic
import Derived.Test.YtocnobgdlgndjaaGreatBW5
import Derived.Test.YtocnobgdlgndjaaGreatBM1
namespace Go.Proofs.YtocnobgdlgndjaaGreat
open Go.RowKit Rul Go.Sort

theorem plus (g j : Nat) : (⟨g, 0, none⟩ : Addr).add j = ⟨g, j, none⟩ := by unfold Addr.add; split <;> simp_all
def cellsI (l : List Int) : List Value := l.map (Value.int .i64)
abbrev OwnI (w : World) (B : Nat) (v : Value) (l : List Int) : Prop := w.ownsRow B 3 1 v l.length (cellsI l)
theorem OwnI.row {w : World} {B : Nat} {v : Value} {l : List Int} (h : OwnI w B v l) : ∃ A cap, v = .slice A l.length cap ∧ RowI w A l := by
  have h2 := h.2
  rcases h2 with ⟨rfl, hn⟩ | ⟨g, cap, cur, rfl, hb, hg, hnc, hcm, hcs, htake⟩
  · refine ⟨none, 0, by rw [hn], fun hl => absurd (List.eq_nil_of_length_eq_zero hn) hl⟩
  · refine ⟨some ⟨g, 0, none⟩, cap, rfl, fun _ => ⟨g, 0, rfl, (h.lt g rfl).2, fun i hi => ?_⟩⟩
    have hc := World.ownsRow.cells h (g := g) rfl
    have g1 := hc i (.int .i64 l[i]) (by simp [cellsI, hi])
    rw [plus] at g1
    rw [Nat.zero_add]
    exact g1
theorem OwnI.keep {w w1 : World} {B : Nat} {v : Value} {l : List Int} (h : OwnI w B v l) (hb : Below w.heap.size w w1) : OwnI w1 B v l :=
  World.ownsRow.kept (row := none) h ⟨hb.os, hb.tape, hb.output, hb.size, fun i hi _ => hb.block i hi⟩ (by cases v.ownBlock <;> simp)
def cellsD (l : List Wd) : List Value := l.flatMap fun a => [.int .i64 a.1, .int .i64 a.2]
theorem cellsD_cons (a : Wd) (l : List Wd) : cellsD (a :: l) = .int .i64 a.1 :: .int .i64 a.2 :: cellsD l := rfl
theorem cellsD_get : ∀ (l : List Wd) (i : Nat) (h : i < l.length), (cellsD l)[i * 2]? = some (.int .i64 l[i].1) ∧ (cellsD l)[i * 2 + 1]? = some (.int .i64 l[i].2)
  | [], i, h => absurd h (Nat.not_lt_zero i)
  | a :: l, 0, _ => by simp [cellsD_cons]
  | a :: l, i + 1, h => by
    have hi : i < l.length := by simpa using h
    have := cellsD_get l i hi
    rw [cellsD_cons, show (i + 1) * 2 = i * 2 + 1 + 1 by omega]
    simpa using this
abbrev OwnD (w : World) (B : Nat) (v : Value) (l : List Wd) : Prop := w.ownsRow B 83 2 v l.length (cellsD l)
theorem OwnD.row {w : World} {B : Nat} {v : Value} {l : List Wd} (h : OwnD w B v l) : ∃ A cap, v = .slice A l.length cap ∧ RowD w A l := by
  have h2 := h.2
  rcases h2 with ⟨rfl, hn⟩ | ⟨g, cap, cur, rfl, hb, hg, hnc, hcm, hcs, htake⟩
  · refine ⟨none, 0, by rw [hn], fun hl => absurd (List.eq_nil_of_length_eq_zero hn) hl⟩
  · refine ⟨some ⟨g, 0, none⟩, cap, rfl, fun _ => ⟨g, 0, rfl, (h.lt g rfl).2, fun i hi => ?_⟩⟩
    have hc := World.ownsRow.cells h (g := g) rfl
    obtain ⟨c1, c2⟩ := cellsD_get l i hi
    have g1 := hc _ _ c1
    have g2 := hc _ _ c2
    rw [plus] at g1 g2
    rw [Nat.zero_add]
    exact ⟨g1, g2⟩
theorem OwnD.keep {w w1 : World} {B : Nat} {v : Value} {l : List Wd} (h : OwnD w B v l) (hb : Below w.heap.size w w1) : OwnD w1 B v l :=
  World.ownsRow.kept (row := none) h ⟨hb.os, hb.tape, hb.output, hb.size, fun i hi _ => hb.block i hi⟩ (by cases v.ownBlock <;> simp)
end Go.Proofs.YtocnobgdlgndjaaGreat
namespace Go.Proofs.YtocnobgdlgndjaaGreat
open Go.RowKit Rul Rt Go.Sort

theorem len_of (s : ByteArray) : s.data.toList.length = s.size := by simp
end Go.Proofs.YtocnobgdlgndjaaGreat

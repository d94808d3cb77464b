/- Put together: RuW RuX. -/
import Derived.Test.YtojhajlhbhkddaaDoorRuH
import Derived.Laws.AppendOwn
import Derived.OwnWalk
import Derived.LoopTactic

/- Walks of the statements of layer 4: fewRule, known. -/
namespace Go.Proofs.YtojhajlhbhkddaaDoor
open Go.RowKit Rul Go.Sort

def fewB (dn mn yn : Nat) : Bool := decide (dn ≤ 20) && (decide (mn ≤ 20) && decide (yn ≤ 20))
theorem fewB_iff (dn mn yn : Nat) : fewB dn mn yn = true ↔ dn ≤ 20 ∧ mn ≤ 20 ∧ yn ≤ 20 := by simp [fewB]
theorem le20 (n : Nat) : decide ((n : Int) ≤ 20) = decide (n ≤ 20) := by
  by_cases h : n ≤ 20
  · rw [decide_eq_true h, decide_eq_true (by omega)]
  · rw [decide_eq_false h, decide_eq_false (by omega)]
theorem k_once : isB ⟨0, 0, 0, -1, [], [], []⟩ = true := by decide +kernel
theorem k_last : isB ⟨3, 1, 0, -1, [(-1, 4)], [], []⟩ = true := by decide +kernel
theorem k_zero : isB ⟨0, 0, 0, 0, [], [], []⟩ = false := by decide +kernel
theorem k_same : sameB ⟨3, 1, 0, -1, [(-1, 4)], [], []⟩ ⟨3, 1, 0, -1, [(-1, 4)], [], []⟩ = true := by decide +kernel
theorem k_27 : fitsB ⟨3, 1, 0, -1, [(-1, 4)], [], []⟩ 27 = true := by decide +kernel
theorem k_20 : fitsB ⟨3, 1, 0, -1, [(-1, 4)], [], []⟩ 20 = false := by decide +kernel
theorem k_0 : fitsB ⟨0, 0, 0, -1, [], [], []⟩ 0 = false := by decide +kernel
theorem rowD_one (w : World) (x y : Int) (t : TypeId) : RowD (w.alloc (.cells #[.int .i64 x, .int .i64 y] t)) (some ⟨w.heap.size, 0, none⟩) [(x, y)] := fun _ =>
  ⟨w.heap.size, 0, rfl, by simp, fun i hi => by
    obtain rfl : i = 0 := by simpa using hi
    exact ⟨by rw [World.cell?_alloc_at _ _ _ _ rfl]; rfl, by rw [World.cell?_alloc_at _ _ _ _ rfl]; rfl⟩⟩
theorem lies_none (w : World) : Lies w none 0 none 0 none 0 [] [] [] := lies_once w
theorem lies_day {w : World} {A : Option Addr} {x : Wd} (h : RowD w A [x]) : Lies w A 1 none 0 none 0 [x] [] [] :=
  ⟨h, rfl, by simp, RowI.nil _ _, rfl, by simp, RowI.nil _ _, rfl, by simp⟩

end Go.Proofs.YtojhajlhbhkddaaDoor

/- A call's own rows of numbers, of weekdays, and one element more behind them. -/
namespace Go.Proofs.YtojhajlhbhkddaaDoor
open Go.RowKit Rul Go.Sort

theorem plus (g j : Nat) : (⟨g, 0, none⟩ : Addr).add j = ⟨g, j, none⟩ := by unfold Addr.add; split <;> simp_all
def cellsI (l : List Int) : List Value := l.map (Value.int .i64)
theorem cellsI_len (l : List Int) : (cellsI l).length = l.length := List.length_map _
theorem cellsI_append (l k : List Int) : cellsI (l ++ k) = cellsI l ++ cellsI k := List.map_append
abbrev OwnI (w : World) (B : Nat) (v : Value) (l : List Int) : Prop := w.ownsRow B 3 1 v l.length (cellsI l)
theorem OwnI.row {w : World} {B : Nat} {v : Value} {l : List Int} (h : OwnI w B v l) : ∃ A cap, v = .slice A l.length cap ∧ RowI w A l := by
  have h2 := h.2
  rcases h2 with ⟨rfl, hn⟩ | ⟨g, cap, cur, rfl, hb, hg, hnc, hcm, hcs, htake⟩
  · refine ⟨none, 0, by rw [hn], fun hl => absurd (List.eq_nil_of_length_eq_zero hn) hl⟩
  · refine ⟨some ⟨g, 0, none⟩, cap, rfl, fun _ => ⟨g, 0, rfl, (h.lt g rfl).2, fun i hi => ?_⟩⟩
    have hc := World.ownsRow.cells h (g := g) rfl
    have g1 := hc i (.int .i64 l[i]) (by simp [cellsI, hi])
    rw [plus] at g1
    rw [Nat.zero_add]
    exact g1
theorem OwnI.keep {w w1 : World} {B : Nat} {v : Value} {l : List Int} (h : OwnI w B v l) (hb : Below w.heap.size w w1) : OwnI w1 B v l :=
  World.ownsRow.kept (row := none) h ⟨hb.os, hb.tape, hb.output, hb.size, fun i hi _ => hb.block i hi⟩ (by cases v.ownBlock <;> simp)
theorem ownI_nil (w : World) (B : Nat) : OwnI w B (.slice none 0 0) [] := World.ownsRow_nil _ _ _ _
theorem int_info : (Tryd.prog.info? 3).map (fun i => (i.zero, i.size, i.bytes)) = some (some (.int .i64 0), 1, 8) := by kernel_rfl
def cellsD (l : List Wd) : List Value := l.flatMap fun a => [.int .i64 a.1, .int .i64 a.2]
theorem cellsD_cons (a : Wd) (l : List Wd) : cellsD (a :: l) = .int .i64 a.1 :: .int .i64 a.2 :: cellsD l := rfl
theorem cellsD_append (l k : List Wd) : cellsD (l ++ k) = cellsD l ++ cellsD k := by simp [cellsD]
theorem cellsD_len : ∀ l : List Wd, (cellsD l).length = l.length * 2
  | [] => rfl
  | a :: l => by rw [cellsD_cons, List.length_cons, List.length_cons, cellsD_len l, List.length_cons]; omega
theorem cellsD_get : ∀ (l : List Wd) (i : Nat) (h : i < l.length), (cellsD l)[i * 2]? = some (.int .i64 l[i].1) ∧ (cellsD l)[i * 2 + 1]? = some (.int .i64 l[i].2)
  | [], i, h => absurd h (Nat.not_lt_zero i)
  | a :: l, 0, _ => by simp [cellsD_cons]
  | a :: l, i + 1, h => by
    have hi : i < l.length := by simpa using h
    have := cellsD_get l i hi
    rw [cellsD_cons, show (i + 1) * 2 = i * 2 + 1 + 1 by omega]
    simpa using this
end Go.Proofs.YtojhajlhbhkddaaDoor

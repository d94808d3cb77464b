/- Walks of the statements of layer 4: fewRule, known. -/
import Derived.Test.YtdmplojfidkipaaRuH
namespace Go.Proofs.Ytdmplojfidkipaa
open Go.RowKit Rul Go.Sort

def fewB (dn mn yn : Nat) : Bool := decide (dn ≤ 20) && (decide (mn ≤ 20) && decide (yn ≤ 20))
theorem fewB_iff (dn mn yn : Nat) : fewB dn mn yn = true ↔ dn ≤ 20 ∧ mn ≤ 20 ∧ yn ≤ 20 := by simp [fewB]
theorem le20 (n : Nat) : decide ((n : Int) ≤ 20) = decide (n ≤ 20) := by
  by_cases h : n ≤ 20
  · rw [decide_eq_true h, decide_eq_true (by omega)]
  · rw [decide_eq_false h, decide_eq_false (by omega)]
theorem k_once : isB ⟨0, 0, 0, -1, [], [], []⟩ = true := by decide +kernel
theorem k_last : isB ⟨3, 1, 0, -1, [(-1, 4)], [], []⟩ = true := by decide +kernel
theorem k_zero : isB ⟨0, 0, 0, 0, [], [], []⟩ = false := by decide +kernel
theorem k_same : sameB ⟨3, 1, 0, -1, [(-1, 4)], [], []⟩ ⟨3, 1, 0, -1, [(-1, 4)], [], []⟩ = true := by decide +kernel
theorem k_27 : fitsB ⟨3, 1, 0, -1, [(-1, 4)], [], []⟩ 27 = true := by decide +kernel
theorem k_20 : fitsB ⟨3, 1, 0, -1, [(-1, 4)], [], []⟩ 20 = false := by decide +kernel
theorem k_0 : fitsB ⟨0, 0, 0, -1, [], [], []⟩ 0 = false := by decide +kernel
theorem rowD_one (w : World) (x y : Int) (t : TypeId) : RowD (w.alloc (.cells #[.int .i64 x, .int .i64 y] t)) (some ⟨w.heap.size, 0, none⟩) [(x, y)] := fun _ =>
  ⟨w.heap.size, 0, rfl, by simp, fun i hi => by
    obtain rfl : i = 0 := by simpa using hi
    exact ⟨by rw [World.cell?_alloc_at _ _ _ _ rfl]; rfl, by rw [World.cell?_alloc_at _ _ _ _ rfl]; rfl⟩⟩
theorem lies_none (w : World) : Lies w none 0 none 0 none 0 [] [] [] := lies_once w
theorem lies_day {w : World} {A : Option Addr} {x : Wd} (h : RowD w A [x]) : Lies w A 1 none 0 none 0 [x] [] [] :=
  ⟨h, rfl, by simp, RowI.nil _ _, rfl, by simp, RowI.nil _ _, rfl, by simp⟩

end Go.Proofs.Ytdmplojfidkipaa

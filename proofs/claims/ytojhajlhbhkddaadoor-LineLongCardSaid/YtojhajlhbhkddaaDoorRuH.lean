/- Walks of package rule: which days fit. -/
import Derived.Test.YtojhajlhbhkddaaDoorRuG
namespace Go.Proofs.YtojhajlhbhkddaaDoor
open Go.RowKit Rul Go.Sort

def admB (p : P) (ds : List Wd) (ms ys : List Int) : Bool := emptyOr (moFit p) ys && (emptyOr (mdFit p) ms && emptyOr (wdFit p) ds)
theorem admitB_is (fr ev ct un : Int) (ds : List Wd) (ms ys : List Int) (p : P) : admitB ⟨fr, ev, ct, un, ds, ms, ys⟩ p = admB p ds ms ys := rfl
theorem dayB_no (n : Int) (h : dayB n = false) : n < 0 ∨ 36525 ≤ n := by unfold dayB at h; rw [decide_eq_false_iff_not] at h; omega
theorem dayB_yes (n : Int) (h : dayB n = true) : 0 ≤ n ∧ n < 36525 := by unfold dayB at h; rwa [decide_eq_true_eq] at h
end Go.Proofs.YtojhajlhbhkddaaDoor

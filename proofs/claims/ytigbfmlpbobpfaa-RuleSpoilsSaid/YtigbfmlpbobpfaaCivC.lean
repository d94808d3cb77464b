/- Walks of package civil: the number of a date, its errors; the date of a number. -/
import Derived.Test.YtigbfmlpbobpfaaCivB
namespace Go.Proofs.Ytigbfmlpbobpfaa
open Go.RowKit

theorem num_one (y d : Int) : Cal.yst y + d - 1 = Cal.yst y + d - 1 + Cal.cum y 1 := by rw [Cal.cum_one]; omega
theorem num_step (y d k : Int) (h1 : 1 ≤ k) (h2 : k ≤ 12) : Cal.yst y + d - 1 + Cal.cum y k + Cal.dim y k = Cal.yst y + d - 1 + Cal.cum y (k + 1) := by
  rw [Cal.cum_succ y k h1 h2]; omega
theorem num_end (y m d : Int) : Cal.yst y + d - 1 + Cal.cum y m = Cal.num y m d := by unfold Cal.num; omega

/-- what Number answers: the number, or which error. -/
def numE (y m d : Int) : Int × Int := if Cal.isB y m d then (if 2000 ≤ y ∧ y ≤ 2099 then (Cal.num y m d, 0) else (0, 10)) else (0, 11)
theorem numE_11 (y m d : Int) (h : Cal.isB y m d = false) : numE y m d = (0, 11) := by simp [numE, h]
theorem numE_10 (y m d : Int) (h : Cal.isB y m d = true) (hy : y < 2000 ∨ 2099 < y) : numE y m d = (0, 10) := by
  unfold numE; rw [if_pos h, if_neg (by omega)]
theorem numE_0 (y m d : Int) (h : Cal.isB y m d = true) (h1 : 2000 ≤ y) (h2 : y ≤ 2099) : numE y m d = (Cal.num y m d, 0) := by
  unfold numE; rw [if_pos h, if_pos ⟨h1, h2⟩]

end Go.Proofs.Ytigbfmlpbobpfaa

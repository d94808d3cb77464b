/- Put together: RefA RefB RefC. -/
import Derived.Test.YtojhajlhbhkddaaDoorCivH

/- Walks of the document's own answers, layer 1: leap years, lengths, dates that there are, numbers of days. -/
namespace Go.Proofs.YtojhajlhbhkddaaDoor
open Go.RowKit

theorem risB_yes (y m d : Int) (h : 1 ≤ d) : decide (d ≤ Cal.dim y m) = Cal.isB y m d := by simp [Cal.isB, h]
theorem risB_no (y m d : Int) (h : m < 1 ∨ 12 < m ∨ d < 1) : Cal.isB y m d = false := by
  rw [Bool.eq_false_iff]
  intro hb
  have := Cal.isB_month hb
  rw [Cal.isB_iff] at hb
  omega

end Go.Proofs.YtojhajlhbhkddaaDoor

/- Walks of the document's own answers, layer 1: the number of a date, the minute of a time. -/
namespace Go.Proofs.YtojhajlhbhkddaaDoor
open Go.RowKit

theorem yst_2000 : Cal.yst 2000 = 0 := by decide +kernel
theorem yst_leap (k : Int) (h1 : 2000 ≤ k) (h2 : k ≤ 2099) (h : Cal.lpB k = true) : Cal.yst k + 365 + 1 = Cal.yst (k + 1) := by
  rw [Cal.lp_in k h1 h2, decide_eq_true_eq] at h
  unfold Cal.yst; omega
theorem yst_plain (k : Int) (h1 : 2000 ≤ k) (h2 : k ≤ 2099) (h : Cal.lpB k = false) : Cal.yst k + 365 = Cal.yst (k + 1) := by
  rw [Cal.lp_in k h1 h2, decide_eq_false_iff_not] at h
  unfold Cal.yst; omega
theorem rnum_one (y : Int) : Cal.yst y = Cal.yst y + Cal.cum y 1 := by rw [Cal.cum_one]; omega
theorem rnum_step (y k : Int) (h1 : 1 ≤ k) (h2 : k ≤ 12) : Cal.yst y + Cal.cum y k + Cal.dim y k = Cal.yst y + Cal.cum y (k + 1) := by
  rw [Cal.cum_succ y k h1 h2]; omega
theorem rnum_end (y m d : Int) : Cal.yst y + Cal.cum y m + d - 1 = Cal.num y m d := by unfold Cal.num; omega

end Go.Proofs.YtojhajlhbhkddaaDoor

/- Walks of the document's own answers, layer 1: the minute of a time, weekdays, the date of a day. -/
namespace Go.Proofs.YtojhajlhbhkddaaDoor
open Go.RowKit

theorem tmod7_aux (t u : Int) (hb : 0 ≤ u ∧ u ≤ 6) (h : (t < 0 ∧ t + 7 = u) ∨ (¬ t < 0 ∧ t = u)) : -7 ≤ t ∧ t ≤ 6 ∧ (t = u ∨ t + 7 = u) := by omega
theorem tmod7 (n : Int) : -7 ≤ n.tmod 7 ∧ n.tmod 7 ≤ 6 ∧ (n.tmod 7 = n % 7 ∨ n.tmod 7 + 7 = n % 7) := by
  have hb : 0 ≤ n % 7 ∧ n % 7 ≤ 6 := by omega
  by_cases h : n.tmod 7 < 0
  · exact tmod7_aux _ _ hb (.inl ⟨h, (split_neg n 7 (by omega) h).1⟩)
  · exact tmod7_aux _ _ hb (.inr ⟨h, (split_pos n 7 (by omega) h).1⟩)
theorem rwday_go (n : Int) : (n.tmod 7 + 7 + 5).tmod 7 = Cal.wday n := by
  have := tmod7 n
  rw [Int.tmod_eq_emod_of_nonneg (by omega)]
  unfold Cal.wday
  omega

theorem ydays (k : Int) (h1 : 2000 ≤ k) (h2 : k ≤ 2099) : Cal.yst (k + 1) = Cal.yst k + (if Cal.lpB k then 366 else 365) := by
  cases h : Cal.lpB k
  · rw [← yst_plain k h1 h2 h]; rfl
  · rw [← yst_leap k h1 h2 h]; simp; omega
theorem year_at (n k : Int) (h0 : 0 ≤ n) (h : n < 36525) (_k1 : 2000 ≤ k) (_k2 : k ≤ 2099) (a : Cal.yst k ≤ n) (b : n < Cal.yst (k + 1)) : Cal.yOf n = k := by
  have hy := Cal.yOf_yst n h0 h
  have hb := Cal.yOf_bd n h0 h
  rcases Int.lt_trichotomy (Cal.yOf n) k with g | g | g
  · have := Cal.yst_le (Cal.yOf n + 1) k (by omega); omega
  · exact g
  · have := Cal.yst_le (k + 1) (Cal.yOf n) (by omega); omega

end Go.Proofs.YtojhajlhbhkddaaDoor

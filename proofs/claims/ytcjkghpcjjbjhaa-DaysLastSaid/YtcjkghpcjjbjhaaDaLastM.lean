/- Plain facts of the last weekdays of months. -/
import Derived.Test.YtcjkghpcjjbjhaaDaSameM
namespace Go.Proofs.Ytcjkghpcjjbjhaa
open Go.RowKit Rul

/-- the rule of the last weekdays w of each month. -/
abbrev lastR (w : Int) : Rul.T := ⟨3, 1, 0, -1, [(-1, w)], [], []⟩
theorem last_rec (w : Int) (h0 : 0 ≤ w) (h1 : w ≤ 6) : recB (lastR w) = true := by
  have h : w = 0 ∨ w = 1 ∨ w = 2 ∨ w = 3 ∨ w = 4 ∨ w = 5 ∨ w = 6 := by omega
  rcases h with h | h | h | h | h | h | h <;> subst h <;> decide +kernel
/-- a day that is asked for: that weekday, in a month's last seven days. -/
theorem last_of (w s d : Int) (h0 : 0 ≤ w) (h1 : w ≤ 6) (d0 : 0 ≤ d) (d1 : d < 36525) :
    ofB (lastR w) s d = (decide (w = Cal.wday d) && decide (Cal.dim (Cal.yOf d) (Cal.mOf d) < Cal.dOf d + 7)) := by
  have hr := last_rec w h0 h1
  have hd := (Cal.isB_iff _ _ _).1 (Cal.of_is d d0 d1)
  have e1 : wkA (lastR w) s = -1 := by simp [wkA]
  have e2 : dyA (lastR w) s = -1 := by simp [dyA]
  have e3 : moA (lastR w) s = -1 := by simp [moA]
  have e4 : hasB (-1) (-1) (-1) d = true := by simp [hasB]
  unfold ofB
  rw [e1, e2, e3, e4, Bool.true_and]
  unfold fitsB dayB
  rw [hr, decide_eq_true (show 0 ≤ d ∧ d < 36525 from ⟨d0, d1⟩)]
  unfold admitB placeOf wdFit
  simp only [emptyOr_nil, Bool.true_and]
  unfold emptyOr
  simp only [List.length_cons, List.length_nil, List.any_cons, List.any_nil, Bool.or_false]
  have p1 : decide ((0 : Nat) + 1 = 0) = false := rfl
  have p2 : decide ((-1 : Int) = 0) = false := rfl
  have p3 : decide ((-1 : Int) = (Cal.dOf d - 1) / 7 + 1) = false := decide_eq_false (by omega)
  rw [p1, p2, p3, Bool.false_or, Bool.false_or, Bool.false_or]
  congr 1
  by_cases g : Cal.dim (Cal.yOf d) (Cal.mOf d) < Cal.dOf d + 7
  · rw [decide_eq_true g, decide_eq_true (by omega)]
  · rw [decide_eq_false g, decide_eq_false (by omega)]
/-- a month's last weekday w. -/
def lastD (f n w : Int) : Int := f + n - 1 - (Cal.wday (f + n - 1) - w) % 7
theorem lastD_is (f n w : Int) (h0 : 0 ≤ w) (h1 : w ≤ 6) : Cal.wday (lastD f n w) = w ∧ f + n - 7 ≤ lastD f n w ∧ lastD f n w < f + n := by
  unfold lastD Cal.wday; omega
theorem lastD_only (f n w x : Int) (_h0 : 0 ≤ w) (_h1 : w ≤ 6) (hw : Cal.wday x = w) (h2 : f + n - 7 ≤ x) (h3 : x < f + n) : x = lastD f n w := by
  unfold lastD Cal.wday at *; omega
theorem filter_one (p : Int → Bool) (a b x : Int) (h1 : a ≤ x) (h2 : x < b) (h : ∀ d, a ≤ d → d < b → (p d = true ↔ d = x)) : (upto a b).filter p = [x] := by
  have e0 : (upto a x).filter p = [] := by
    rw [List.filter_eq_nil_iff]; intro d hd
    rw [upto_mem] at hd
    intro hp
    have := (h d (by omega) (by omega)).1 hp
    omega
  have e1 : (upto (x + 1) b).filter p = [] := by
    rw [List.filter_eq_nil_iff]; intro d hd
    rw [upto_mem] at hd
    intro hp
    have := (h d (by omega) (by omega)).1 hp
    omega
  rw [upto_split a (x + 1) b (by omega) (by omega), upto_succ a x h1, List.filter_append, List.filter_append, e0, e1]
  simp [(h x h1 h2).2 rfl]
/-- the days of the k-th month of a year. -/
theorem last_days (y w s k : Int) (y0 : 2000 ≤ y) (y1 : y ≤ 2099) (h0 : 0 ≤ w) (h1 : w ≤ 6) (k0 : 0 ≤ k) (k1 : k ≤ 11) (hs : Cal.num y 1 1 = s) :
    ∃ x, daysL (lastR w) s k = [x] ∧ 0 ≤ x ∧ x < 36525 ∧ Cal.yOf x = y ∧ Cal.mOf x = k + 1 ∧ Cal.wday x = w ∧ Cal.dim y (k + 1) < Cal.dOf x + 7 := by
  have hs0 := Cal.num_bd y 1 1 y0 y1 (isB_first y 1 (by omega) (by omega))
  rw [hs] at hs0
  have hof := Cal.of_unique s y 1 1 y0 y1 (isB_first y 1 (by omega) (by omega)) hs
  have m0 : 12 * (Cal.yOf s - 2000) + (Cal.mOf s - 1) + 1 * k = 12 * (y - 2000) + k := by rw [hof.1, hof.2.1]; omega
  have q1 : 2000 + (12 * (y - 2000) + k) / 12 = y := by omega
  have q2 : (12 * (y - 2000) + k) % 12 + 1 = k + 1 := by omega
  have b := fst_lt (12 * (y - 2000) + k) (by omega) (by omega)
  have hn := fst_next (12 * (y - 2000) + k) (by omega) (by omega)
  rw [q1, q2] at hn
  have b2 := fst_bd (12 * (y - 2000) + k + 1) (by omega)
  have dp := Cal.dim_pos y (k + 1) (by omega) (by omega)
  have hA : pA 3 s (1 * k) = fst (12 * (y - 2000) + k) := by rw [pA_3, m0]
  have hB : pB 3 s (1 * k) = fst (12 * (y - 2000) + k) + Cal.dim y (k + 1) := by rw [pB_3, m0, hn]
  have hK : perK (lastR w) s k = true := (perK_iff _ _ _).2 ⟨hs0, last_rec w h0 h1, ⟨k0, by omega⟩, by show pA 3 s (1 * k) < 36525; rw [hA]; omega⟩
  obtain ⟨ea, eb, _⟩ := per_at (lastR w) s k _ _ hK hA hB b.1 (by omega)
  have ld := lastD_is (fst (12 * (y - 2000) + k)) (Cal.dim y (k + 1)) w h0 h1
  have im : ∀ d, fst (12 * (y - 2000) + k) ≤ d → d < fst (12 * (y - 2000) + k) + Cal.dim y (k + 1) → Cal.yOf d = y ∧ Cal.mOf d = k + 1 ∧ Cal.dOf d = d - fst (12 * (y - 2000) + k) + 1 := fun d h2 h3 => by
    have := in_month (12 * (y - 2000) + k) d (by omega) (by omega) h2 (by rw [hn]; exact h3)
    rw [q1, q2] at this
    exact this
  refine ⟨lastD (fst (12 * (y - 2000) + k)) (Cal.dim y (k + 1)) w, ?_, by omega, by omega, (im _ (by omega) ld.2.2).1, (im _ (by omega) ld.2.2).2.1, ld.1, by rw [(im _ (by omega) ld.2.2).2.2]; omega⟩
  rw [daysL_yes _ _ _ hK, ea, eb]
  refine filter_one _ _ _ _ (by omega) ld.2.2 fun d h2 h3 => ?_
  have e := im d h2 h3
  rw [last_of w s d h0 h1 (by omega) (by omega), e.1, e.2.1, e.2.2, Bool.and_eq_true, decide_eq_true_eq, decide_eq_true_eq]
  constructor
  · rintro ⟨g1, g2⟩; exact lastD_only _ _ _ _ h0 h1 g1.symm (by omega) h3
  · rintro rfl; exact ⟨ld.1.symm, by omega⟩

end Go.Proofs.Ytcjkghpcjjbjhaa

/- Walks of package span, single spans, two: is a minute in a span, what two have in common. -/
import Derived.Test.YtkjkegjekfebpaaSpA
namespace Go.Proofs.Ytkjkegjekfebpaa
open Go.RowKit Spn

theorem inB_no (f t m : Int) (h : okB (f, t) = false) : inB (f, t) m = false := by
  unfold inB; rw [decide_eq_false]; intro hc; rw [okB_not] at h; exact h hc.1
theorem inB_lo (f t m : Int) (h : ¬ f ≤ m) : inB (f, t) m = false := by
  unfold inB; rw [decide_eq_false]; intro hc; exact h hc.2.1
theorem inB_hi (f t m : Int) (h : okB (f, t) = true) (h1 : f ≤ m) : inB (f, t) m = decide (m < t) := by
  unfold inB; rw [okB_iff] at h; simp [h, h1]

theorem meet_no1 (a b : Sp) (h : okB a = false) : meet a b = (0, 0) := by
  unfold meet; rw [if_neg]; intro hc; rw [okB_not] at h; exact h hc.1
theorem meet_no2 (a b : Sp) (h : okB b = false) : meet a b = (0, 0) := by
  unfold meet; rw [if_neg]; intro hc; rw [okB_not] at h; exact h hc.2.1
theorem meet_no3 (a b : Sp) (h : okB (max a.1 b.1, min a.2 b.2) = false) : meet a b = (0, 0) := by
  unfold meet; rw [if_neg]; intro hc; rw [okB_not] at h; exact h hc.2.2
theorem meet_yes (a b : Sp) (h1 : okB a = true) (h2 : okB b = true) (h : okB (max a.1 b.1, min a.2 b.2) = true) : meet a b = (max a.1 b.1, min a.2 b.2) := by
  unfold meet; rw [if_pos]; · rfl
  · rw [okB_iff] at h h1 h2; exact ⟨h1, h2, h⟩


theorem up2 (n : Nat) : n ≤ n + 1 + 1 := by omega

theorem sizes4 {n k : Nat} (h : n + 1 + 1 + 1 + 1 ≤ k) : n < k ∧ n + 1 < k ∧ n + 1 + 1 < k ∧ n + 1 + 1 + 1 < k := by omega
set_option maxHeartbeats 800000 in
theorem meet_w (f t g u x y : Int) (v1 v2 : Int) (w : World) (c1 : (g ≤ f ∧ x = f) ∨ (f < g ∧ x = g)) (c2 : (t ≤ u ∧ y = t) ∨ (u < t ∧ y = u))
    (h1 : okB (f, t) = true) (h2 : okB (g, u) = true) (h : (okB (x, y) = true ∧ v1 = x ∧ v2 = y) ∨ (okB (x, y) = false ∧ v1 = 0 ∧ v2 = 0)) :
    Calls Try.prog 44 #[.agg #[.int .i64 f, .int .i64 t], .agg #[.int .i64 g, .int .i64 u]] w fun e w' => e = .returned (.agg #[.int .i64 v1, .int .i64 v2]) ∧ Below w.heap.size w w' := by
  rcases h with ⟨h3, rfl, rfl⟩ | ⟨h3, rfl, rfl⟩ <;> rcases c1 with ⟨c1, rfl⟩ | ⟨c1, rfl⟩ <;> rcases c2 with ⟨c2, rfl⟩ | ⟨c2, rfl⟩
  all_goals
    have H1 := hide h1
    have H2 := hide h2
    have H3 := hide h3
    clear h1 h2 h3
    go_enter Try.func44, Try.ntmps44
    go_wp2_with fail
    refine (is_at _ _ true _ H1.out).mono ?_
    rintro e w1 ⟨rfl, hb1⟩
    obtain ⟨hc, hf⟩ := old hb1
    obtain ⟨z0, z1, z2, z3⟩ := sizes4 (by simpa using hb1.size)
    go_wp2_with fail
    refine (is_at _ _ true _ H2.out).mono ?_
    rintro e w2 ⟨rfl, hb2⟩
    obtain ⟨hc2, hf2⟩ := old hb2
    obtain ⟨y0, y1, y2, y3⟩ := sizes4 (Nat.le_trans (by simpa using hb1.size) hb2.size)
    go_wp2_with fail
    refine (is_at _ _ _ _ H3.out).mono ?_
    rintro e w3 ⟨rfl, hb3⟩
    obtain ⟨hc3, hf3⟩ := old hb3
    obtain ⟨x0, x1, x2, x3⟩ := sizes4 (Nat.le_trans (Nat.le_trans (by simpa using hb1.size) hb2.size) hb3.size)
    go_wp2_with fail
    have hb : Below w.heap.size w w3 := andthen (andthen (andthen (more (more (more (more (start _) _) _) _) _) hb1) hb2) hb3
    first
      | exact bodyPost_ret (v := .agg #[.int .i64 v1, .int .i64 v2]) (by simp [results, Try.results44, go_sem, hc, hc2, hc3, z2, y2]) rfl ⟨rfl, (hb.setCell (up2 _) _).setCell (up2 _) _⟩
      | exact bodyPost_ret (v := .agg #[.int .i64 0, .int .i64 0]) (by simp [results, Try.results44, go_sem, hc, hc2, hc3, z2, y2]) rfl ⟨rfl, (hb.setCell (up2 _) _).setCell (up2 _) _⟩

end Go.Proofs.Ytkjkegjekfebpaa

/- Walks of package span, single spans, three: what two have in common (whole), do they touch, is one within the other. -/
import Derived.Test.YtkjkegjekfebpaaSpB
namespace Go.Proofs.Ytkjkegjekfebpaa
open Go.RowKit Spn

set_option maxHeartbeats 800000 in
theorem meet_n1 (f t g u : Int) (w : World) (h1 : okB (f, t) = false) :
    Calls Try.prog 44 #[.agg #[.int .i64 f, .int .i64 t], .agg #[.int .i64 g, .int .i64 u]] w fun e w' => e = .returned (.agg #[.int .i64 0, .int .i64 0]) ∧ Below w.heap.size w w' := by
  have H1 := hide h1
  clear h1
  by_cases c1 : g ≤ f <;> by_cases c2 : t ≤ u
  all_goals
    go_enter Try.func44, Try.ntmps44
    go_wp2_with fail
    refine (is_at _ _ false _ H1.out).mono ?_
    rintro e w1 ⟨rfl, hb1⟩
    obtain ⟨hc, hf⟩ := old hb1
    obtain ⟨z0, z1, z2, z3⟩ := sizes4 (by simpa using hb1.size)
    go_wp2_with fail
    have hb : Below w.heap.size w w1 := andthen (more (more (more (more (start _) _) _) _) _) hb1
    exact bodyPost_ret (v := .agg #[.int .i64 0, .int .i64 0]) (by simp [results, Try.results44, go_sem, hc]) rfl ⟨rfl, (hb.setCell (up2 _) _).setCell (up2 _) _⟩
set_option maxHeartbeats 800000 in
theorem meet_n2 (f t g u : Int) (w : World) (h1 : okB (f, t) = true) (h2 : okB (g, u) = false) :
    Calls Try.prog 44 #[.agg #[.int .i64 f, .int .i64 t], .agg #[.int .i64 g, .int .i64 u]] w fun e w' => e = .returned (.agg #[.int .i64 0, .int .i64 0]) ∧ Below w.heap.size w w' := by
  have H1 := hide h1
  have H2 := hide h2
  clear h1 h2
  by_cases c1 : g ≤ f <;> by_cases c2 : t ≤ u
  all_goals
    go_enter Try.func44, Try.ntmps44
    go_wp2_with fail
    refine (is_at _ _ true _ H1.out).mono ?_
    rintro e w1 ⟨rfl, hb1⟩
    obtain ⟨hc, hf⟩ := old hb1
    obtain ⟨z0, z1, z2, z3⟩ := sizes4 (by simpa using hb1.size)
    go_wp2_with fail
    refine (is_at _ _ false _ H2.out).mono ?_
    rintro e w2 ⟨rfl, hb2⟩
    obtain ⟨hc2, hf2⟩ := old hb2
    obtain ⟨y0, y1, y2, y3⟩ := sizes4 (Nat.le_trans (by simpa using hb1.size) hb2.size)
    go_wp2_with fail
    have hb : Below w.heap.size w w2 := andthen (andthen (more (more (more (more (start _) _) _) _) _) hb1) hb2
    exact bodyPost_ret (v := .agg #[.int .i64 0, .int .i64 0]) (by simp [results, Try.results44, go_sem, hc, hc2, z2]) rfl ⟨rfl, (hb.setCell (up2 _) _).setCell (up2 _) _⟩
theorem ret_sp {a b c d : Int} (h : ((a, b) : Sp) = (c, d)) : Ending.returned (.agg #[.int .i64 a, .int .i64 b]) = .returned (.agg #[.int .i64 c, .int .i64 d]) := by
  injection h with h1 h2; rw [h1, h2]
theorem meet_any (f t g u : Int) (w : World) :
    Calls Try.prog 44 #[.agg #[.int .i64 f, .int .i64 t], .agg #[.int .i64 g, .int .i64 u]] w fun e w' => e = .returned (.agg #[.int .i64 (meet (f, t) (g, u)).1, .int .i64 (meet (f, t) (g, u)).2]) ∧ Below w.heap.size w w' := by
  cases h1 : okB (f, t)
  · rw [meet_no1 _ _ h1]; exact meet_n1 f t g u w h1
  · cases h2 : okB (g, u)
    · rw [meet_no2 _ _ h2]; exact meet_n2 f t g u w h1 h2
    · have c1 : (g ≤ f ∧ max f g = f) ∨ (f < g ∧ max f g = g) := by omega
      have c2 : (t ≤ u ∧ min t u = t) ∨ (u < t ∧ min t u = u) := by omega
      cases h3 : okB (max f g, min t u)
      · rw [meet_no3 (f, t) (g, u) h3]; exact meet_w f t g u _ _ 0 0 w c1 c2 h1 h2 (Or.inr ⟨h3, rfl, rfl⟩)
      · rw [meet_yes (f, t) (g, u) h1 h2 h3]; exact meet_w f t g u _ _ _ _ w c1 c2 h1 h2 (Or.inl ⟨h3, rfl, rfl⟩)
theorem meet_is (f t g u x y : Int) (w : World) (h : meet (f, t) (g, u) = (x, y)) :
    Calls Try.prog 44 #[.agg #[.int .i64 f, .int .i64 t], .agg #[.int .i64 g, .int .i64 u]] w fun e w' => e = .returned (.agg #[.int .i64 x, .int .i64 y]) ∧ Below w.heap.size w w' := by
  have := meet_any f t g u w
  rwa [h] at this

theorem tch_no1 (f t g u : Int) (h : okB (f, t) = false) : touchB (f, t) (g, u) = false := by
  unfold touchB; rw [decide_eq_false]; intro hc; rw [okB_not] at h; exact h hc.1
theorem tch_no2 (f t g u : Int) (h : okB (g, u) = false) : touchB (f, t) (g, u) = false := by
  unfold touchB; rw [decide_eq_false]; intro hc; rw [okB_not] at h; exact h hc.2.1
theorem tch_no3 (f t g u : Int) (h : ¬ f ≤ u) : touchB (f, t) (g, u) = false := by
  unfold touchB; rw [decide_eq_false]; intro hc; exact h hc.2.2.1
theorem tch_yes (f t g u : Int) (h1 : okB (f, t) = true) (h2 : okB (g, u) = true) (h : f ≤ u) : touchB (f, t) (g, u) = decide (g ≤ t) := by
  unfold touchB Tch; rw [okB_iff] at h1 h2; simp [h1, h2, h]

set_option maxHeartbeats 800000 in
theorem touch_any (f t g u : Int) (w : World) :
    Calls Try.prog 60 #[.agg #[.int .i64 f, .int .i64 t], .agg #[.int .i64 g, .int .i64 u]] w fun e w' => e = .returned (.bool (touchB (f, t) (g, u))) ∧ Below w.heap.size w w' := by
  cases h1 : okB (f, t)
  · have H := hide (tch_no1 f t g u h1)
    have H1 := hide h1
    clear h1
    go_enter Try.func60, Try.ntmps60
    go_wp2_with fail
    refine (is_at _ _ false _ H1.out).mono ?_
    rintro e w1 ⟨rfl, hb1⟩
    go_wp2_with fail
    go_ret
    exact ⟨ret_bool (by rw [H.out]), andthen (more (more (start _) _) _) hb1⟩
  · cases h2 : okB (g, u)
    · have H := hide (tch_no2 f t g u h2)
      have H1 := hide h1
      have H2 := hide h2
      clear h1 h2
      go_enter Try.func60, Try.ntmps60
      go_wp2_with fail
      refine (is_at _ _ true _ H1.out).mono ?_
      rintro e w1 ⟨rfl, hb1⟩
      obtain ⟨hc, hf⟩ := old hb1
      have z0 : w.heap.size < w1.heap.size := by have := hb1.size; simp only [World.size_alloc] at this; omega
      have z1 : w.heap.size + 1 < w1.heap.size := by have := hb1.size; simp only [World.size_alloc] at this; omega
      go_wp2_with fail
      refine (is_at _ _ false _ H2.out).mono ?_
      rintro e w2 ⟨rfl, hb2⟩
      go_wp2_with fail
      go_ret
      exact ⟨ret_bool (by rw [H.out]), andthen (andthen (more (more (start _) _) _) hb1) hb2⟩
    · by_cases h3 : f ≤ u
      · have H := hide (tch_yes f t g u h1 h2 h3)
        have H1 := hide h1
        have H2 := hide h2
        clear h1 h2
        go_enter Try.func60, Try.ntmps60
        go_wp2_with fail
        refine (is_at _ _ true _ H1.out).mono ?_
        rintro e w1 ⟨rfl, hb1⟩
        obtain ⟨hc, hf⟩ := old hb1
        have z0 : w.heap.size < w1.heap.size := by have := hb1.size; simp only [World.size_alloc] at this; omega
        have z1 : w.heap.size + 1 < w1.heap.size := by have := hb1.size; simp only [World.size_alloc] at this; omega
        go_wp2_with fail
        refine (is_at _ _ true _ H2.out).mono ?_
        rintro e w2 ⟨rfl, hb2⟩
        obtain ⟨hc2, hf2⟩ := old hb2
        have y0 : w.heap.size < w2.heap.size := by have := hb2.size; omega
        have y1 : w.heap.size + 1 < w2.heap.size := by have := hb2.size; omega
        go_wp2_with fail
        all_goals
          go_ret
          exact ⟨ret_bool (by rw [H.out]), andthen (andthen (more (more (start _) _) _) hb1) hb2⟩
      · have H := hide (tch_no3 f t g u h3)
        have H1 := hide h1
        have H2 := hide h2
        clear h1 h2
        go_enter Try.func60, Try.ntmps60
        go_wp2_with fail
        refine (is_at _ _ true _ H1.out).mono ?_
        rintro e w1 ⟨rfl, hb1⟩
        obtain ⟨hc, hf⟩ := old hb1
        have z0 : w.heap.size < w1.heap.size := by have := hb1.size; simp only [World.size_alloc] at this; omega
        have z1 : w.heap.size + 1 < w1.heap.size := by have := hb1.size; simp only [World.size_alloc] at this; omega
        go_wp2_with fail
        refine (is_at _ _ true _ H2.out).mono ?_
        rintro e w2 ⟨rfl, hb2⟩
        obtain ⟨hc2, hf2⟩ := old hb2
        have y0 : w.heap.size < w2.heap.size := by have := hb2.size; omega
        have y1 : w.heap.size + 1 < w2.heap.size := by have := hb2.size; omega
        go_wp2_with fail
        go_ret
        exact ⟨ret_bool (by rw [H.out]), andthen (andthen (more (more (start _) _) _) hb1) hb2⟩
theorem touch_at (f t g u : Int) (b : Bool) (w : World) (h : touchB (f, t) (g, u) = b) :
    Calls Try.prog 60 #[.agg #[.int .i64 f, .int .i64 t], .agg #[.int .i64 g, .int .i64 u]] w fun e w' => e = .returned (.bool b) ∧ Below w.heap.size w w' := by
  subst h; exact touch_any f t g u w

end Go.Proofs.Ytkjkegjekfebpaa

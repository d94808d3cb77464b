/- Walks of the reference of layer 2, single spans: the same answers as package span's. Written by a program out of the walks of package span. -/
import Derived.Test.YtkjkegjekfebpaaSpC
namespace Go.Proofs.Ytkjkegjekfebpaa.R
open Go.RowKit Spn

theorem is_any (f t : Int) (w : World) :
    Calls Try.prog 37 #[.agg #[.int .i64 f, .int .i64 t]] w fun e w' => e = .returned (.bool (okB (f, t))) ∧ Below w.heap.size w w' := by
  by_cases h1 : 0 ≤ f
  · by_cases h2 : f < t
    · by_cases h3 : t ≤ 52596000
      · have e := hide (okB_all f t h1 h2 h3)
        go_enter Try.func37, Try.ntmps37
        go_wp2
        go_ret
        exact ⟨ret_bool (by rw [e.out]), (Below.refl _ _).alloc (Nat.le_refl _) _⟩
      · have e := hide (okB_no f t (fun h => h3 h.2.2))
        go_enter Try.func37, Try.ntmps37
        go_wp2
        go_ret
        exact ⟨ret_bool (by rw [e.out]), (Below.refl _ _).alloc (Nat.le_refl _) _⟩
    · have e := hide (okB_no f t (fun h => h2 h.2.1))
      go_enter Try.func37, Try.ntmps37
      go_wp2
      go_ret
      exact ⟨ret_bool (by rw [e.out]), (Below.refl _ _).alloc (Nat.le_refl _) _⟩
  · have e := hide (okB_no f t (fun h => h1 h.1))
    go_enter Try.func37, Try.ntmps37
    go_wp2
    go_ret
    exact ⟨ret_bool (by rw [e.out]), (Below.refl _ _).alloc (Nat.le_refl _) _⟩

theorem is_at (f t : Int) (b : Bool) (w : World) (h : okB (f, t) = b) :
    Calls Try.prog 37 #[.agg #[.int .i64 f, .int .i64 t]] w fun e w' => e = .returned (.bool b) ∧ Below w.heap.size w w' := by
  subst h; exact is_any f t w

theorem long_any (f t : Int) (w : World) :
    Calls Try.prog 30 #[.agg #[.int .i64 f, .int .i64 t]] w fun e w' => e = .returned (.int .i64 (long (f, t))) ∧ Below w.heap.size w w' := by
  cases hb : okB (f, t)
  · have hl := hide (long_no (f, t) ((okB_not _).1 hb))
    have HB := hide hb
    clear hb
    go_enter Try.func30, Try.ntmps30
    go_wp2_with fail
    refine (is_at f t false _ HB.out).mono ?_
    rintro e w1 ⟨rfl, hb1⟩
    go_wp2_with fail
    go_ret
    exact ⟨ret_int (by rw [hl.out]), andthen (more (start _) _) hb1⟩
  · have hk := (okB_iff _).1 hb
    have hl := hide (long_pos (f, t) hk).1
    have HB := hide hb
    have g1 : 0 ≤ f := hk.1
    have g2 : f < t := hk.2.1
    have g3 : t ≤ 52596000 := hk.2.2
    clear hb hk
    go_enter Try.func30, Try.ntmps30
    go_wp2_with fail
    refine (is_at f t true _ HB.out).mono ?_
    rintro e w1 ⟨rfl, hb1⟩
    obtain ⟨hc, hf⟩ := old hb1
    go_wp2_with fail
    go_ret
    exact ⟨ret_int (by rw [hl.out]), andthen (more (start _) _) hb1⟩

theorem in_any (f t m : Int) (w : World) :
    Calls Try.prog 31 #[.agg #[.int .i64 f, .int .i64 t], .int .i64 m] w fun e w' => e = .returned (.bool (inB (f, t) m)) ∧ Below w.heap.size w w' := by
  cases hb : okB (f, t)
  · have hl := hide (inB_no f t m hb)
    have HB := hide hb
    clear hb
    go_enter Try.func31, Try.ntmps31
    go_wp2_with fail
    refine (is_at f t false _ HB.out).mono ?_
    rintro e w1 ⟨rfl, hb1⟩
    go_wp2_with fail
    go_ret
    exact ⟨ret_bool (by rw [hl.out]), andthen (more (start _) _) hb1⟩
  · by_cases h1 : f ≤ m
    · have hl := hide (inB_hi f t m hb h1)
      have HB := hide hb
      clear hb
      go_enter Try.func31, Try.ntmps31
      go_wp2_with fail
      refine (is_at f t true _ HB.out).mono ?_
      rintro e w1 ⟨rfl, hb1⟩
      obtain ⟨hc, hf⟩ := old hb1
      go_wp2_with fail
      all_goals
        go_ret
        exact ⟨ret_bool (by rw [hl.out]), andthen (more (start _) _) hb1⟩
    · have hl := hide (inB_lo f t m h1)
      have HB := hide hb
      clear hb
      go_enter Try.func31, Try.ntmps31
      go_wp2_with fail
      refine (is_at f t true _ HB.out).mono ?_
      rintro e w1 ⟨rfl, hb1⟩
      obtain ⟨hc, hf⟩ := old hb1
      go_wp2_with fail
      go_ret
      exact ⟨ret_bool (by rw [hl.out]), andthen (more (start _) _) hb1⟩

set_option maxHeartbeats 800000 in
theorem meet_w (f t g u x y : Int) (v1 v2 : Int) (w : World) (c1 : (g ≤ f ∧ x = f) ∨ (f < g ∧ x = g)) (c2 : (t ≤ u ∧ y = t) ∨ (u < t ∧ y = u))
    (h1 : okB (f, t) = true) (h2 : okB (g, u) = true) (h : (okB (x, y) = true ∧ v1 = x ∧ v2 = y) ∨ (okB (x, y) = false ∧ v1 = 0 ∧ v2 = 0)) :
    Calls Try.prog 41 #[.agg #[.int .i64 f, .int .i64 t], .agg #[.int .i64 g, .int .i64 u]] w fun e w' => e = .returned (.agg #[.int .i64 v1, .int .i64 v2]) ∧ Below w.heap.size w w' := by
  rcases h with ⟨h3, rfl, rfl⟩ | ⟨h3, rfl, rfl⟩ <;> rcases c1 with ⟨c1, rfl⟩ | ⟨c1, rfl⟩ <;> rcases c2 with ⟨c2, rfl⟩ | ⟨c2, rfl⟩
  all_goals
    have H1 := hide h1
    have H2 := hide h2
    have H3 := hide h3
    clear h1 h2 h3
    go_enter Try.func41, Try.ntmps41
    go_wp2_with fail
    refine (is_at _ _ true _ H1.out).mono ?_
    rintro e w1 ⟨rfl, hb1⟩
    obtain ⟨hc, hf⟩ := old hb1
    obtain ⟨z0, z1, z2, z3⟩ := sizes4 (by simpa using hb1.size)
    go_wp2_with fail
    refine (is_at _ _ true _ H2.out).mono ?_
    rintro e w2 ⟨rfl, hb2⟩
    obtain ⟨hc2, hf2⟩ := old hb2
    obtain ⟨y0, y1, y2, y3⟩ := sizes4 (Nat.le_trans (by simpa using hb1.size) hb2.size)
    go_wp2_with fail
    refine (is_at _ _ _ _ H3.out).mono ?_
    rintro e w3 ⟨rfl, hb3⟩
    obtain ⟨hc3, hf3⟩ := old hb3
    obtain ⟨x0, x1, x2, x3⟩ := sizes4 (Nat.le_trans (Nat.le_trans (by simpa using hb1.size) hb2.size) hb3.size)
    go_wp2_with fail
    have hb : Below w.heap.size w w3 := andthen (andthen (andthen (more (more (more (more (start _) _) _) _) _) hb1) hb2) hb3
    first
      | exact bodyPost_ret (v := .agg #[.int .i64 v1, .int .i64 v2]) (by simp [results, Try.results41, go_sem, hc, hc2, hc3, z2, y2]) rfl ⟨rfl, (hb.setCell (up2 _) _).setCell (up2 _) _⟩
      | exact bodyPost_ret (v := .agg #[.int .i64 0, .int .i64 0]) (by simp [results, Try.results41, go_sem, hc, hc2, hc3, z2, y2]) rfl ⟨rfl, (hb.setCell (up2 _) _).setCell (up2 _) _⟩

theorem meet_n1 (f t g u : Int) (w : World) (h1 : okB (f, t) = false) :
    Calls Try.prog 41 #[.agg #[.int .i64 f, .int .i64 t], .agg #[.int .i64 g, .int .i64 u]] w fun e w' => e = .returned (.agg #[.int .i64 0, .int .i64 0]) ∧ Below w.heap.size w w' := by
  have H1 := hide h1
  clear h1
  by_cases c1 : g ≤ f <;> by_cases c2 : t ≤ u
  all_goals
    go_enter Try.func41, Try.ntmps41
    go_wp2_with fail
    refine (is_at _ _ false _ H1.out).mono ?_
    rintro e w1 ⟨rfl, hb1⟩
    obtain ⟨hc, hf⟩ := old hb1
    obtain ⟨z0, z1, z2, z3⟩ := sizes4 (by simpa using hb1.size)
    go_wp2_with fail
    have hb : Below w.heap.size w w1 := andthen (more (more (more (more (start _) _) _) _) _) hb1
    exact bodyPost_ret (v := .agg #[.int .i64 0, .int .i64 0]) (by simp [results, Try.results41, go_sem, hc]) rfl ⟨rfl, (hb.setCell (up2 _) _).setCell (up2 _) _⟩

theorem meet_n2 (f t g u : Int) (w : World) (h1 : okB (f, t) = true) (h2 : okB (g, u) = false) :
    Calls Try.prog 41 #[.agg #[.int .i64 f, .int .i64 t], .agg #[.int .i64 g, .int .i64 u]] w fun e w' => e = .returned (.agg #[.int .i64 0, .int .i64 0]) ∧ Below w.heap.size w w' := by
  have H1 := hide h1
  have H2 := hide h2
  clear h1 h2
  by_cases c1 : g ≤ f <;> by_cases c2 : t ≤ u
  all_goals
    go_enter Try.func41, Try.ntmps41
    go_wp2_with fail
    refine (is_at _ _ true _ H1.out).mono ?_
    rintro e w1 ⟨rfl, hb1⟩
    obtain ⟨hc, hf⟩ := old hb1
    obtain ⟨z0, z1, z2, z3⟩ := sizes4 (by simpa using hb1.size)
    go_wp2_with fail
    refine (is_at _ _ false _ H2.out).mono ?_
    rintro e w2 ⟨rfl, hb2⟩
    obtain ⟨hc2, hf2⟩ := old hb2
    obtain ⟨y0, y1, y2, y3⟩ := sizes4 (Nat.le_trans (by simpa using hb1.size) hb2.size)
    go_wp2_with fail
    have hb : Below w.heap.size w w2 := andthen (andthen (more (more (more (more (start _) _) _) _) _) hb1) hb2
    exact bodyPost_ret (v := .agg #[.int .i64 0, .int .i64 0]) (by simp [results, Try.results41, go_sem, hc, hc2, z2]) rfl ⟨rfl, (hb.setCell (up2 _) _).setCell (up2 _) _⟩

theorem meet_any (f t g u : Int) (w : World) :
    Calls Try.prog 41 #[.agg #[.int .i64 f, .int .i64 t], .agg #[.int .i64 g, .int .i64 u]] w fun e w' => e = .returned (.agg #[.int .i64 (meet (f, t) (g, u)).1, .int .i64 (meet (f, t) (g, u)).2]) ∧ Below w.heap.size w w' := by
  cases h1 : okB (f, t)
  · rw [meet_no1 _ _ h1]; exact meet_n1 f t g u w h1
  · cases h2 : okB (g, u)
    · rw [meet_no2 _ _ h2]; exact meet_n2 f t g u w h1 h2
    · have c1 : (g ≤ f ∧ max f g = f) ∨ (f < g ∧ max f g = g) := by omega
      have c2 : (t ≤ u ∧ min t u = t) ∨ (u < t ∧ min t u = u) := by omega
      cases h3 : okB (max f g, min t u)
      · rw [meet_no3 (f, t) (g, u) h3]; exact meet_w f t g u _ _ 0 0 w c1 c2 h1 h2 (Or.inr ⟨h3, rfl, rfl⟩)
      · rw [meet_yes (f, t) (g, u) h1 h2 h3]; exact meet_w f t g u _ _ _ _ w c1 c2 h1 h2 (Or.inl ⟨h3, rfl, rfl⟩)

theorem meet_is (f t g u x y : Int) (w : World) (h : meet (f, t) (g, u) = (x, y)) :
    Calls Try.prog 41 #[.agg #[.int .i64 f, .int .i64 t], .agg #[.int .i64 g, .int .i64 u]] w fun e w' => e = .returned (.agg #[.int .i64 x, .int .i64 y]) ∧ Below w.heap.size w w' := by
  have := meet_any f t g u w
  rwa [h] at this

end Go.Proofs.Ytkjkegjekfebpaa.R

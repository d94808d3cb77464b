/- TpRA; TpRB; TpRD of the recipes, what is needed of them. -/
import Derived.RegionTactic
import Derived.Test.YtphojcnehgdbmaaBS1
import Derived.Test.YtphojcnehgdbmaaBS2
namespace Go.Proofs.Ytphojcnehgdbmaa.S2.R
open Go.RowKit Spn

theorem is_any (f t : Int) (w : World) :
    Calls Try.prog 54 #[.agg #[.int .i64 f, .int .i64 t]] w fun e w' => e = .returned (.bool (okB (f, t))) ∧ Below w.heap.size w w' := by
  by_cases h1 : 0 ≤ f
  · by_cases h2 : f < t
    · by_cases h3 : t ≤ 52596000
      · have e := hide (okB_all f t h1 h2 h3)
        go_enter Try.func54, Try.ntmps54
        go_wp2
        go_ret
        exact ⟨ret_bool (by rw [e.out]), (Below.refl _ _).alloc (Nat.le_refl _) _⟩
      · have e := hide (okB_no f t (fun h => h3 h.2.2))
        go_enter Try.func54, Try.ntmps54
        go_wp2
        go_ret
        exact ⟨ret_bool (by rw [e.out]), (Below.refl _ _).alloc (Nat.le_refl _) _⟩
    · have e := hide (okB_no f t (fun h => h2 h.2.1))
      go_enter Try.func54, Try.ntmps54
      go_wp2
      go_ret
      exact ⟨ret_bool (by rw [e.out]), (Below.refl _ _).alloc (Nat.le_refl _) _⟩
  · have e := hide (okB_no f t (fun h => h1 h.1))
    go_enter Try.func54, Try.ntmps54
    go_wp2
    go_ret
    exact ⟨ret_bool (by rw [e.out]), (Below.refl _ _).alloc (Nat.le_refl _) _⟩

theorem is_at (f t : Int) (b : Bool) (w : World) (h : okB (f, t) = b) :
    Calls Try.prog 54 #[.agg #[.int .i64 f, .int .i64 t]] w fun e w' => e = .returned (.bool b) ∧ Below w.heap.size w w' := by
  subst h; exact is_any f t w

theorem long_any (f t : Int) (w : World) :
    Calls Try.prog 39 #[.agg #[.int .i64 f, .int .i64 t]] w fun e w' => e = .returned (.int .i64 (long (f, t))) ∧ Below w.heap.size w w' := by
  cases hb : okB (f, t)
  · have hl := hide (long_no (f, t) ((okB_not _).1 hb))
    have HB := hide hb
    clear hb
    go_enter Try.func39, Try.ntmps39
    go_wp2_with fail
    refine (is_at f t false _ HB.out).mono ?_
    rintro e w1 ⟨rfl, hb1⟩
    go_wp2_with fail
    go_ret
    exact ⟨ret_int (by rw [hl.out]), andthen (more (start _) _) hb1⟩
  · have hk := (okB_iff _).1 hb
    have hl := hide (long_pos (f, t) hk).1
    have HB := hide hb
    have g1 : 0 ≤ f := hk.1
    have g2 : f < t := hk.2.1
    have g3 : t ≤ 52596000 := hk.2.2
    clear hb hk
    go_enter Try.func39, Try.ntmps39
    go_wp2_with fail
    refine (is_at f t true _ HB.out).mono ?_
    rintro e w1 ⟨rfl, hb1⟩
    obtain ⟨hc, hf⟩ := old hb1
    go_wp2_with fail
    go_ret
    exact ⟨ret_int (by rw [hl.out]), andthen (more (start _) _) hb1⟩

set_option maxHeartbeats 800000 in
theorem meet_w (f t g u x y : Int) (v1 v2 : Int) (w : World) (c1 : (g ≤ f ∧ x = f) ∨ (f < g ∧ x = g)) (c2 : (t ≤ u ∧ y = t) ∨ (u < t ∧ y = u))
    (h1 : okB (f, t) = true) (h2 : okB (g, u) = true) (h : (okB (x, y) = true ∧ v1 = x ∧ v2 = y) ∨ (okB (x, y) = false ∧ v1 = 0 ∧ v2 = 0)) :
    Calls Try.prog 53 #[.agg #[.int .i64 f, .int .i64 t], .agg #[.int .i64 g, .int .i64 u]] w fun e w' => e = .returned (.agg #[.int .i64 v1, .int .i64 v2]) ∧ Below w.heap.size w w' := by
  rcases h with ⟨h3, rfl, rfl⟩ | ⟨h3, rfl, rfl⟩ <;> rcases c1 with ⟨c1, rfl⟩ | ⟨c1, rfl⟩ <;> rcases c2 with ⟨c2, rfl⟩ | ⟨c2, rfl⟩
  all_goals
    have H1 := hide h1
    have H2 := hide h2
    have H3 := hide h3
    clear h1 h2 h3
    go_enter Try.func53, Try.ntmps53
    go_wp2_with fail
    refine (is_at _ _ true _ H1.out).mono ?_
    rintro e w1 ⟨rfl, hb1⟩
    obtain ⟨hc, hf⟩ := old hb1
    obtain ⟨z0, z1, z2, z3⟩ := sizes4 (by simpa using hb1.size)
    go_wp2_with fail
    refine (is_at _ _ true _ H2.out).mono ?_
    rintro e w2 ⟨rfl, hb2⟩
    obtain ⟨hc2, hf2⟩ := old hb2
    obtain ⟨y0, y1, y2, y3⟩ := sizes4 (Nat.le_trans (by simpa using hb1.size) hb2.size)
    go_wp2_with fail
    refine (is_at _ _ _ _ H3.out).mono ?_
    rintro e w3 ⟨rfl, hb3⟩
    obtain ⟨hc3, hf3⟩ := old hb3
    obtain ⟨x0, x1, x2, x3⟩ := sizes4 (Nat.le_trans (Nat.le_trans (by simpa using hb1.size) hb2.size) hb3.size)
    go_wp2_with fail
    have hb : Below w.heap.size w w3 := andthen (andthen (andthen (more (more (more (more (start _) _) _) _) _) hb1) hb2) hb3
    first
      | exact bodyPost_ret (v := .agg #[.int .i64 v1, .int .i64 v2]) (by simp [results, Try.results53, go_sem, hc, hc2, hc3, z2, y2]) rfl ⟨rfl, (hb.setCell (up2 _) _).setCell (up2 _) _⟩
      | exact bodyPost_ret (v := .agg #[.int .i64 0, .int .i64 0]) (by simp [results, Try.results53, go_sem, hc, hc2, hc3, z2, y2]) rfl ⟨rfl, (hb.setCell (up2 _) _).setCell (up2 _) _⟩

theorem meet_n1 (f t g u : Int) (w : World) (h1 : okB (f, t) = false) :
    Calls Try.prog 53 #[.agg #[.int .i64 f, .int .i64 t], .agg #[.int .i64 g, .int .i64 u]] w fun e w' => e = .returned (.agg #[.int .i64 0, .int .i64 0]) ∧ Below w.heap.size w w' := by
  have H1 := hide h1
  clear h1
  by_cases c1 : g ≤ f <;> by_cases c2 : t ≤ u
  all_goals
    go_enter Try.func53, Try.ntmps53
    go_wp2_with fail
    refine (is_at _ _ false _ H1.out).mono ?_
    rintro e w1 ⟨rfl, hb1⟩
    obtain ⟨hc, hf⟩ := old hb1
    obtain ⟨z0, z1, z2, z3⟩ := sizes4 (by simpa using hb1.size)
    go_wp2_with fail
    have hb : Below w.heap.size w w1 := andthen (more (more (more (more (start _) _) _) _) _) hb1
    exact bodyPost_ret (v := .agg #[.int .i64 0, .int .i64 0]) (by simp [results, Try.results53, go_sem, hc]) rfl ⟨rfl, (hb.setCell (up2 _) _).setCell (up2 _) _⟩

theorem meet_n2 (f t g u : Int) (w : World) (h1 : okB (f, t) = true) (h2 : okB (g, u) = false) :
    Calls Try.prog 53 #[.agg #[.int .i64 f, .int .i64 t], .agg #[.int .i64 g, .int .i64 u]] w fun e w' => e = .returned (.agg #[.int .i64 0, .int .i64 0]) ∧ Below w.heap.size w w' := by
  have H1 := hide h1
  have H2 := hide h2
  clear h1 h2
  by_cases c1 : g ≤ f <;> by_cases c2 : t ≤ u
  all_goals
    go_enter Try.func53, Try.ntmps53
    go_wp2_with fail
    refine (is_at _ _ true _ H1.out).mono ?_
    rintro e w1 ⟨rfl, hb1⟩
    obtain ⟨hc, hf⟩ := old hb1
    obtain ⟨z0, z1, z2, z3⟩ := sizes4 (by simpa using hb1.size)
    go_wp2_with fail
    refine (is_at _ _ false _ H2.out).mono ?_
    rintro e w2 ⟨rfl, hb2⟩
    obtain ⟨hc2, hf2⟩ := old hb2
    obtain ⟨y0, y1, y2, y3⟩ := sizes4 (Nat.le_trans (by simpa using hb1.size) hb2.size)
    go_wp2_with fail
    have hb : Below w.heap.size w w2 := andthen (andthen (more (more (more (more (start _) _) _) _) _) hb1) hb2
    exact bodyPost_ret (v := .agg #[.int .i64 0, .int .i64 0]) (by simp [results, Try.results53, go_sem, hc, hc2, z2]) rfl ⟨rfl, (hb.setCell (up2 _) _).setCell (up2 _) _⟩

theorem meet_any (f t g u : Int) (w : World) :
    Calls Try.prog 53 #[.agg #[.int .i64 f, .int .i64 t], .agg #[.int .i64 g, .int .i64 u]] w fun e w' => e = .returned (.agg #[.int .i64 (meet (f, t) (g, u)).1, .int .i64 (meet (f, t) (g, u)).2]) ∧ Below w.heap.size w w' := by
  cases h1 : okB (f, t)
  · rw [meet_no1 _ _ h1]; exact meet_n1 f t g u w h1
  · cases h2 : okB (g, u)
    · rw [meet_no2 _ _ h2]; exact meet_n2 f t g u w h1 h2
    · have c1 : (g ≤ f ∧ max f g = f) ∨ (f < g ∧ max f g = g) := by omega
      have c2 : (t ≤ u ∧ min t u = t) ∨ (u < t ∧ min t u = u) := by omega
      cases h3 : okB (max f g, min t u)
      · rw [meet_no3 (f, t) (g, u) h3]; exact meet_w f t g u _ _ 0 0 w c1 c2 h1 h2 (Or.inr ⟨h3, rfl, rfl⟩)
      · rw [meet_yes (f, t) (g, u) h1 h2 h3]; exact meet_w f t g u _ _ _ _ w c1 c2 h1 h2 (Or.inl ⟨h3, rfl, rfl⟩)

theorem meet_is (f t g u x y : Int) (w : World) (h : meet (f, t) (g, u) = (x, y)) :
    Calls Try.prog 53 #[.agg #[.int .i64 f, .int .i64 t], .agg #[.int .i64 g, .int .i64 u]] w fun e w' => e = .returned (.agg #[.int .i64 x, .int .i64 y]) ∧ Below w.heap.size w w' := by
  have := meet_any f t g u w
  rwa [h] at this

end Go.Proofs.Ytphojcnehgdbmaa.S2.R
namespace Go.Proofs.Ytphojcnehgdbmaa.S2.R
open Go.RowKit Spn

theorem tch_no1 (f t g u : Int) (h : okB (f, t) = false) : touchB (f, t) (g, u) = false := by
  unfold touchB; rw [decide_eq_false]; intro hc; rw [okB_not] at h; exact h hc.1
theorem tch_no2 (f t g u : Int) (h : okB (g, u) = false) : touchB (f, t) (g, u) = false := by
  unfold touchB; rw [decide_eq_false]; intro hc; rw [okB_not] at h; exact h hc.2.1
theorem tch_no3 (f t g u : Int) (h : ¬ g ≤ t) : touchB (f, t) (g, u) = false := by
  unfold touchB; rw [decide_eq_false]; intro hc; exact h hc.2.2.2
theorem tch_yes (f t g u : Int) (h1 : okB (f, t) = true) (h2 : okB (g, u) = true) (h : g ≤ t) : touchB (f, t) (g, u) = decide (f ≤ u) := by
  unfold touchB Tch; rw [okB_iff] at h1 h2; simp [h1, h2, h]

set_option maxHeartbeats 800000 in
theorem touch_any (f t g u : Int) (w : World) :
    Calls Try.prog 66 #[.agg #[.int .i64 f, .int .i64 t], .agg #[.int .i64 g, .int .i64 u]] w fun e w' => e = .returned (.bool (touchB (f, t) (g, u))) ∧ Below w.heap.size w w' := by
  cases h1 : okB (f, t)
  · have H := hide (tch_no1 f t g u h1)
    have H1 := hide h1
    clear h1
    go_enter Try.func66, Try.ntmps66
    go_wp2_with fail
    refine (is_at _ _ false _ H1.out).mono ?_
    rintro e w1 ⟨rfl, hb1⟩
    go_wp2_with fail
    go_ret
    exact ⟨ret_bool (by rw [H.out]), andthen (more (more (start _) _) _) hb1⟩
  · cases h2 : okB (g, u)
    · have H := hide (tch_no2 f t g u h2)
      have H1 := hide h1
      have H2 := hide h2
      clear h1 h2
      go_enter Try.func66, Try.ntmps66
      go_wp2_with fail
      refine (is_at _ _ true _ H1.out).mono ?_
      rintro e w1 ⟨rfl, hb1⟩
      obtain ⟨hc, hf⟩ := old hb1
      have z0 : w.heap.size < w1.heap.size := by have := hb1.size; simp only [World.size_alloc] at this; omega
      have z1 : w.heap.size + 1 < w1.heap.size := by have := hb1.size; simp only [World.size_alloc] at this; omega
      go_wp2_with fail
      refine (is_at _ _ false _ H2.out).mono ?_
      rintro e w2 ⟨rfl, hb2⟩
      go_wp2_with fail
      go_ret
      exact ⟨ret_bool (by rw [H.out]), andthen (andthen (more (more (start _) _) _) hb1) hb2⟩
    · by_cases h3 : g ≤ t
      · have H := hide (tch_yes f t g u h1 h2 h3)
        have H1 := hide h1
        have H2 := hide h2
        clear h1 h2
        go_enter Try.func66, Try.ntmps66
        go_wp2_with fail
        refine (is_at _ _ true _ H1.out).mono ?_
        rintro e w1 ⟨rfl, hb1⟩
        obtain ⟨hc, hf⟩ := old hb1
        have z0 : w.heap.size < w1.heap.size := by have := hb1.size; simp only [World.size_alloc] at this; omega
        have z1 : w.heap.size + 1 < w1.heap.size := by have := hb1.size; simp only [World.size_alloc] at this; omega
        go_wp2_with fail
        refine (is_at _ _ true _ H2.out).mono ?_
        rintro e w2 ⟨rfl, hb2⟩
        obtain ⟨hc2, hf2⟩ := old hb2
        have y0 : w.heap.size < w2.heap.size := by have := hb2.size; omega
        have y1 : w.heap.size + 1 < w2.heap.size := by have := hb2.size; omega
        go_wp2_with fail
        all_goals
          go_ret
          exact ⟨ret_bool (by rw [H.out]), andthen (andthen (more (more (start _) _) _) hb1) hb2⟩
      · have H := hide (tch_no3 f t g u h3)
        have H1 := hide h1
        have H2 := hide h2
        clear h1 h2
        go_enter Try.func66, Try.ntmps66
        go_wp2_with fail
        refine (is_at _ _ true _ H1.out).mono ?_
        rintro e w1 ⟨rfl, hb1⟩
        obtain ⟨hc, hf⟩ := old hb1
        have z0 : w.heap.size < w1.heap.size := by have := hb1.size; simp only [World.size_alloc] at this; omega
        have z1 : w.heap.size + 1 < w1.heap.size := by have := hb1.size; simp only [World.size_alloc] at this; omega
        go_wp2_with fail
        refine (is_at _ _ true _ H2.out).mono ?_
        rintro e w2 ⟨rfl, hb2⟩
        obtain ⟨hc2, hf2⟩ := old hb2
        have y0 : w.heap.size < w2.heap.size := by have := hb2.size; omega
        have y1 : w.heap.size + 1 < w2.heap.size := by have := hb2.size; omega
        go_wp2_with fail
        go_ret
        exact ⟨ret_bool (by rw [H.out]), andthen (andthen (more (more (start _) _) _) hb1) hb2⟩
theorem touch_at (f t g u : Int) (b : Bool) (w : World) (h : touchB (f, t) (g, u) = b) :
    Calls Try.prog 66 #[.agg #[.int .i64 f, .int .i64 t], .agg #[.int .i64 g, .int .i64 u]] w fun e w' => e = .returned (.bool b) ∧ Below w.heap.size w w' := by
  subst h; exact touch_any f t g u w

theorem wi_yes (f t g u : Int) (h : okB (f, t) = false) : withinR (f, t) (g, u) = true := by
  unfold withinR; rw [decide_eq_true]; rw [okB_not] at h; exact Or.inl h
theorem wi_no1 (f t g u : Int) (h1 : okB (f, t) = true) (h : okB (g, u) = false) : withinR (f, t) (g, u) = false := by
  unfold withinR; rw [decide_eq_false]; rw [okB_iff] at h1; rw [okB_not] at h
  rintro (hc | hc)
  · exact hc h1
  · exact h hc.1
theorem wi_no2 (f t g u : Int) (h1 : okB (f, t) = true) (h : ¬ g ≤ f) : withinR (f, t) (g, u) = false := by
  unfold withinR; rw [decide_eq_false]; rw [okB_iff] at h1
  rintro (hc | hc)
  · exact hc h1
  · exact h hc.2.1
theorem wi_is (f t g u : Int) (h1 : okB (f, t) = true) (h2 : okB (g, u) = true) (h : g ≤ f) : withinR (f, t) (g, u) = decide (t ≤ u) := by
  unfold withinR; rw [okB_iff] at h1 h2; simp [h1, h2, h]
end Go.Proofs.Ytphojcnehgdbmaa.S2.R
namespace Go.Proofs.Ytphojcnehgdbmaa.S2.R
open Go.RowKit Spn

theorem own_new1 (W : World) (p : Sp) {N : Nat} (hN : W.heap.size = N) : Own (W.alloc (.cells #[.int .i64 p.1, .int .i64 p.2] 52)) N (.slice (some ⟨N, 0, none⟩) 1 1) [p] := by
  subst hN
  exact ⟨rfl, Or.inr ⟨W.heap.size, 1, _, rfl, Nat.le_refl _, heap_alloc_new W _, Nat.le_refl _, by unfold maxLen; omega, rfl, rfl⟩⟩

theorem mi_no (a b : Sp) (h : okB a = false) : minusR a b = [] := by
  unfold minusR; rw [if_neg]; rw [okB_not] at h; exact h
theorem mi_all (a b : Sp) (x y : Int) (h : okB a = true) (hm : meet a b = (x, y)) (h2 : okB (x, y) = false) : minusR a b = [a] := by
  unfold minusR; rw [hm, if_pos, if_neg]
  · rw [okB_not] at h2; exact h2
  · rw [okB_iff] at h; exact h
theorem mi_cut (a b : Sp) (x y : Int) (h : okB a = true) (hm : meet a b = (x, y)) (h2 : okB (x, y) = true) : minusR a b = (if a.1 < x then [(a.1, x)] else []) ++ (if y < a.2 then [(y, a.2)] else []) := by
  unfold minusR; rw [hm, if_pos, if_pos]
  · rw [okB_iff] at h2; exact h2
  · rw [okB_iff] at h; exact h

set_option maxRecDepth 100000 in
set_option maxHeartbeats 1000000 in
theorem minus_yy (f t g u x y : Int) (w : World) (h1 : okB (f, t) = true) (hm : meet (f, t) (g, u) = (x, y)) (h2 : okB (x, y) = true) (c1 : f < x) (c2 : y < t) :
    Calls Try.prog 48 #[.agg #[.int .i64 f, .int .i64 t], .agg #[.int .i64 g, .int .i64 u]] w (Gives w [(f, x), (y, t)]) := by
    have H1 := hide h1
    have H2 := hide h2
    have HM := hide hm
    clear h1 h2 hm
    go_enter Try.func48, Try.ntmps48
    go_wp2_with fail
    refine (is_at _ _ true _ H1.out).mono ?_
    rintro e w1 ⟨rfl, hb1⟩
    obtain ⟨hc, hf⟩ := old hb1
    have z0 : w.heap.size < w1.heap.size := by have := hb1.size; simp only [World.size_alloc] at this; omega
    have z1 : w.heap.size + 1 < w1.heap.size := by have := hb1.size; simp only [World.size_alloc] at this; omega
    go_wp2_with fail
    refine (meet_is _ _ _ _ x y _ HM.out).mono ?_
    rintro e w2 ⟨rfl, hb2⟩
    obtain ⟨hc2, hf2⟩ := old hb2
    have y0 : w.heap.size < w2.heap.size := by have := hb2.size; omega
    have y1 : w.heap.size + 1 < w2.heap.size := by have := hb2.size; omega
    go_wp2_with fail
    refine (is_at _ _ true _ H2.out).mono ?_
    rintro e w3 ⟨rfl, hb3⟩
    obtain ⟨hc3, hf3⟩ := old hb3
    have x0 : w.heap.size < w3.heap.size := by have := hb3.size; simp only [World.size_alloc] at this; omega
    have x1 : w.heap.size + 1 < w3.heap.size := by have := hb3.size; simp only [World.size_alloc] at this; omega
    have x2 : w2.heap.size < w3.heap.size := by have := hb3.size; simp only [World.size_alloc] at this; omega
    have hbb : Below w.heap.size w w3 := andthen (more (andthen (andthen (more (more (start _) _) _) hb1) hb2) _) hb3
    go_wp2_with (first | (at_builtin; refine wp_one (l := []) (p := (f, x)) rfl _ _ rfl rfl rfl rfl (World.ownsRow_nil w3 w3.heap.size 52 2) (Nat.le_refl _) (by simp) ?_; intro v4 w4 hown4 hb4; obtain ⟨hc4, hf4⟩ := old hb4; have v0 := Nat.lt_of_lt_of_le x0 hb4.size; have v1 := Nat.lt_of_lt_of_le x2 hb4.size) | (at_builtin; refine wp_one (l := [(f, x)]) (p := (y, t)) rfl _ _ rfl rfl rfl rfl hown4 hb4.size (by simp) ?_; intro v5 w5 hown5 hb5))
    go_ret
    exact Gives.of hown5 (Nat.le_of_lt x0) (andthen hbb (hb4.trans hb5))

set_option maxRecDepth 100000 in
set_option maxHeartbeats 1000000 in
theorem minus_yn (f t g u x y : Int) (w : World) (h1 : okB (f, t) = true) (hm : meet (f, t) (g, u) = (x, y)) (h2 : okB (x, y) = true) (c1 : f < x) (c2 : ¬ y < t) :
    Calls Try.prog 48 #[.agg #[.int .i64 f, .int .i64 t], .agg #[.int .i64 g, .int .i64 u]] w (Gives w [(f, x)]) := by
    have H1 := hide h1
    have H2 := hide h2
    have HM := hide hm
    clear h1 h2 hm
    go_enter Try.func48, Try.ntmps48
    go_wp2_with fail
    refine (is_at _ _ true _ H1.out).mono ?_
    rintro e w1 ⟨rfl, hb1⟩
    obtain ⟨hc, hf⟩ := old hb1
    have z0 : w.heap.size < w1.heap.size := by have := hb1.size; simp only [World.size_alloc] at this; omega
    have z1 : w.heap.size + 1 < w1.heap.size := by have := hb1.size; simp only [World.size_alloc] at this; omega
    go_wp2_with fail
    refine (meet_is _ _ _ _ x y _ HM.out).mono ?_
    rintro e w2 ⟨rfl, hb2⟩
    obtain ⟨hc2, hf2⟩ := old hb2
    have y0 : w.heap.size < w2.heap.size := by have := hb2.size; omega
    have y1 : w.heap.size + 1 < w2.heap.size := by have := hb2.size; omega
    go_wp2_with fail
    refine (is_at _ _ true _ H2.out).mono ?_
    rintro e w3 ⟨rfl, hb3⟩
    obtain ⟨hc3, hf3⟩ := old hb3
    have x0 : w.heap.size < w3.heap.size := by have := hb3.size; simp only [World.size_alloc] at this; omega
    have x1 : w.heap.size + 1 < w3.heap.size := by have := hb3.size; simp only [World.size_alloc] at this; omega
    have x2 : w2.heap.size < w3.heap.size := by have := hb3.size; simp only [World.size_alloc] at this; omega
    have hbb : Below w.heap.size w w3 := andthen (more (andthen (andthen (more (more (start _) _) _) hb1) hb2) _) hb3
    go_wp2_with (at_builtin; refine wp_one (l := []) (p := (f, x)) rfl _ _ rfl rfl rfl rfl (World.ownsRow_nil w3 w3.heap.size 52 2) (Nat.le_refl _) (by simp) ?_; intro v4 w4 hown4 hb4; obtain ⟨hc4, hf4⟩ := old hb4; have v0 := Nat.lt_of_lt_of_le x0 hb4.size; have v1 := Nat.lt_of_lt_of_le x2 hb4.size)
    go_ret
    exact Gives.of hown4 (Nat.le_of_lt x0) (andthen hbb hb4)

set_option maxRecDepth 100000 in
set_option maxHeartbeats 1000000 in
theorem minus_ny (f t g u x y : Int) (w : World) (h1 : okB (f, t) = true) (hm : meet (f, t) (g, u) = (x, y)) (h2 : okB (x, y) = true) (c1 : ¬ f < x) (c2 : y < t) :
    Calls Try.prog 48 #[.agg #[.int .i64 f, .int .i64 t], .agg #[.int .i64 g, .int .i64 u]] w (Gives w [(y, t)]) := by
    have H1 := hide h1
    have H2 := hide h2
    have HM := hide hm
    clear h1 h2 hm
    go_enter Try.func48, Try.ntmps48
    go_wp2_with fail
    refine (is_at _ _ true _ H1.out).mono ?_
    rintro e w1 ⟨rfl, hb1⟩
    obtain ⟨hc, hf⟩ := old hb1
    have z0 : w.heap.size < w1.heap.size := by have := hb1.size; simp only [World.size_alloc] at this; omega
    have z1 : w.heap.size + 1 < w1.heap.size := by have := hb1.size; simp only [World.size_alloc] at this; omega
    go_wp2_with fail
    refine (meet_is _ _ _ _ x y _ HM.out).mono ?_
    rintro e w2 ⟨rfl, hb2⟩
    obtain ⟨hc2, hf2⟩ := old hb2
    have y0 : w.heap.size < w2.heap.size := by have := hb2.size; omega
    have y1 : w.heap.size + 1 < w2.heap.size := by have := hb2.size; omega
    go_wp2_with fail
    refine (is_at _ _ true _ H2.out).mono ?_
    rintro e w3 ⟨rfl, hb3⟩
    obtain ⟨hc3, hf3⟩ := old hb3
    have x0 : w.heap.size < w3.heap.size := by have := hb3.size; simp only [World.size_alloc] at this; omega
    have x1 : w.heap.size + 1 < w3.heap.size := by have := hb3.size; simp only [World.size_alloc] at this; omega
    have x2 : w2.heap.size < w3.heap.size := by have := hb3.size; simp only [World.size_alloc] at this; omega
    have hbb : Below w.heap.size w w3 := andthen (more (andthen (andthen (more (more (start _) _) _) hb1) hb2) _) hb3
    go_wp2_with (at_builtin; refine wp_one (l := []) (p := (y, t)) rfl _ _ rfl rfl rfl rfl (World.ownsRow_nil w3 w3.heap.size 52 2) (Nat.le_refl _) (by simp) ?_; intro v5 w5 hown5 hb5)
    go_ret
    exact Gives.of hown5 (Nat.le_of_lt x0) (andthen hbb hb5)

set_option maxRecDepth 100000 in
set_option maxHeartbeats 1000000 in
theorem minus_nn (f t g u x y : Int) (w : World) (h1 : okB (f, t) = true) (hm : meet (f, t) (g, u) = (x, y)) (h2 : okB (x, y) = true) (c1 : ¬ f < x) (c2 : ¬ y < t) :
    Calls Try.prog 48 #[.agg #[.int .i64 f, .int .i64 t], .agg #[.int .i64 g, .int .i64 u]] w (Gives w []) := by
    have H1 := hide h1
    have H2 := hide h2
    have HM := hide hm
    clear h1 h2 hm
    go_enter Try.func48, Try.ntmps48
    go_wp2_with fail
    refine (is_at _ _ true _ H1.out).mono ?_
    rintro e w1 ⟨rfl, hb1⟩
    obtain ⟨hc, hf⟩ := old hb1
    have z0 : w.heap.size < w1.heap.size := by have := hb1.size; simp only [World.size_alloc] at this; omega
    have z1 : w.heap.size + 1 < w1.heap.size := by have := hb1.size; simp only [World.size_alloc] at this; omega
    go_wp2_with fail
    refine (meet_is _ _ _ _ x y _ HM.out).mono ?_
    rintro e w2 ⟨rfl, hb2⟩
    obtain ⟨hc2, hf2⟩ := old hb2
    have y0 : w.heap.size < w2.heap.size := by have := hb2.size; omega
    have y1 : w.heap.size + 1 < w2.heap.size := by have := hb2.size; omega
    go_wp2_with fail
    refine (is_at _ _ true _ H2.out).mono ?_
    rintro e w3 ⟨rfl, hb3⟩
    obtain ⟨hc3, hf3⟩ := old hb3
    have x0 : w.heap.size < w3.heap.size := by have := hb3.size; simp only [World.size_alloc] at this; omega
    have x1 : w.heap.size + 1 < w3.heap.size := by have := hb3.size; simp only [World.size_alloc] at this; omega
    have x2 : w2.heap.size < w3.heap.size := by have := hb3.size; simp only [World.size_alloc] at this; omega
    have hbb : Below w.heap.size w w3 := andthen (more (andthen (andthen (more (more (start _) _) _) hb1) hb2) _) hb3
    go_wp2_with fail
    go_ret
    exact Gives.of (World.ownsRow_nil w3 w.heap.size 52 2) (Nat.le_refl _) hbb

set_option maxRecDepth 100000 in
set_option maxHeartbeats 1000000 in
theorem minus_all (f t g u x y : Int) (w : World) (h1 : okB (f, t) = true) (hm : meet (f, t) (g, u) = (x, y)) (h2 : okB (x, y) = false) :
    Calls Try.prog 48 #[.agg #[.int .i64 f, .int .i64 t], .agg #[.int .i64 g, .int .i64 u]] w (Gives w [(f, t)]) := by
    have H1 := hide h1
    have H2 := hide h2
    have HM := hide hm
    clear h1 h2 hm
    go_enter Try.func48, Try.ntmps48
    go_wp2_with fail
    refine (is_at _ _ true _ H1.out).mono ?_
    rintro e w1 ⟨rfl, hb1⟩
    obtain ⟨hc, hf⟩ := old hb1
    have z0 : w.heap.size < w1.heap.size := by have := hb1.size; simp only [World.size_alloc] at this; omega
    have z1 : w.heap.size + 1 < w1.heap.size := by have := hb1.size; simp only [World.size_alloc] at this; omega
    go_wp2_with fail
    refine (meet_is _ _ _ _ x y _ HM.out).mono ?_
    rintro e w2 ⟨rfl, hb2⟩
    obtain ⟨hc2, hf2⟩ := old hb2
    have y0 : w.heap.size < w2.heap.size := by have := hb2.size; omega
    have y1 : w.heap.size + 1 < w2.heap.size := by have := hb2.size; omega
    go_wp2_with fail
    refine (is_at _ _ false _ H2.out).mono ?_
    rintro e w3 ⟨rfl, hb3⟩
    obtain ⟨hc3, hf3⟩ := old hb3
    have x0 : w.heap.size < w3.heap.size := by have := hb3.size; simp only [World.size_alloc] at this; omega
    have x1 : w.heap.size + 1 < w3.heap.size := by have := hb3.size; simp only [World.size_alloc] at this; omega
    have x2 : w2.heap.size < w3.heap.size := by have := hb3.size; simp only [World.size_alloc] at this; omega
    have hbb : Below w.heap.size w w3 := andthen (more (andthen (andthen (more (more (start _) _) _) hb1) hb2) _) hb3
    go_wp2_with fail
    go_ret
    exact Gives.of (own_new1 w3 (f, t) rfl) (Nat.le_of_lt x0) (more hbb _)
set_option maxHeartbeats 400000 in
theorem minus_none (f t g u : Int) (w : World) (h1 : okB (f, t) = false) :
    Calls Try.prog 48 #[.agg #[.int .i64 f, .int .i64 t], .agg #[.int .i64 g, .int .i64 u]] w (Gives w []) := by
  have H1 := hide h1
  clear h1
  go_enter Try.func48, Try.ntmps48
  go_wp2_with fail
  refine (is_at _ _ false _ H1.out).mono ?_
  rintro e w1 ⟨rfl, hb1⟩
  go_wp2_with fail
  go_ret
  exact Gives.of (World.ownsRow_nil w1 w.heap.size 52 2) (Nat.le_refl _) (andthen (more (more (start _) _) _) hb1)
theorem minus_any (f t g u : Int) (w : World) :
    Calls Try.prog 48 #[.agg #[.int .i64 f, .int .i64 t], .agg #[.int .i64 g, .int .i64 u]] w (Gives w (minusR (f, t) (g, u))) := by
  cases h1 : okB (f, t)
  · rw [mi_no (f, t) (g, u) h1]; exact minus_none f t g u w h1
  · obtain ⟨x, y, hm⟩ : ∃ x y, meet (f, t) (g, u) = (x, y) := ⟨_, _, rfl⟩
    cases h2 : okB (x, y)
    · rw [mi_all (f, t) (g, u) x y h1 hm h2]; exact minus_all f t g u x y w h1 hm h2
    · rw [mi_cut (f, t) (g, u) x y h1 hm h2]
      by_cases c1 : f < x <;> by_cases c2 : y < t
      · rw [if_pos c1, if_pos c2]; exact minus_yy f t g u x y w h1 hm h2 c1 c2
      · rw [if_pos c1, if_neg c2]; exact minus_yn f t g u x y w h1 hm h2 c1 c2
      · rw [if_neg c1, if_pos c2]; exact minus_ny f t g u x y w h1 hm h2 c1 c2
      · rw [if_neg c1, if_neg c2]; exact minus_nn f t g u x y w h1 hm h2 c1 c2

end Go.Proofs.Ytphojcnehgdbmaa.S2.R

/- Walks of the reference of layer 2: Minus. -/
import Derived.Test.YtkjkegjekfebpaaSpRC
namespace Go.Proofs.Ytkjkegjekfebpaa.R
open Go.RowKit Spn

theorem own_new1 (W : World) (p : Sp) {N : Nat} (hN : W.heap.size = N) : Own (W.alloc (.cells #[.int .i64 p.1, .int .i64 p.2] 25)) N (.slice (some ⟨N, 0, none⟩) 1 1) [p] := by
  subst hN
  exact ⟨rfl, Or.inr ⟨W.heap.size, 1, _, rfl, Nat.le_refl _, heap_alloc_new W _, Nat.le_refl _, by unfold maxLen; omega, rfl, rfl⟩⟩

theorem mi_no (a b : Sp) (h : okB a = false) : minusR a b = [] := by
  unfold minusR; rw [if_neg]; rw [okB_not] at h; exact h
theorem mi_all (a b : Sp) (x y : Int) (h : okB a = true) (hm : meet a b = (x, y)) (h2 : okB (x, y) = false) : minusR a b = [a] := by
  unfold minusR; rw [hm, if_pos, if_neg]
  · rw [okB_not] at h2; exact h2
  · rw [okB_iff] at h; exact h
theorem mi_cut (a b : Sp) (x y : Int) (h : okB a = true) (hm : meet a b = (x, y)) (h2 : okB (x, y) = true) : minusR a b = (if a.1 < x then [(a.1, x)] else []) ++ (if y < a.2 then [(y, a.2)] else []) := by
  unfold minusR; rw [hm, if_pos, if_pos]
  · rw [okB_iff] at h2; exact h2
  · rw [okB_iff] at h; exact h

set_option maxRecDepth 100000 in
set_option maxHeartbeats 1000000 in
theorem minus_yy (f t g u x y : Int) (w : World) (h1 : okB (f, t) = true) (hm : meet (f, t) (g, u) = (x, y)) (h2 : okB (x, y) = true) (c1 : f < x) (c2 : y < t) :
    Calls Try.prog 40 #[.agg #[.int .i64 f, .int .i64 t], .agg #[.int .i64 g, .int .i64 u]] w (Gives w [(f, x), (y, t)]) := by
    have H1 := hide h1
    have H2 := hide h2
    have HM := hide hm
    clear h1 h2 hm
    go_enter Try.func40, Try.ntmps40
    go_wp2_with fail
    refine (is_at _ _ true _ H1.out).mono ?_
    rintro e w1 ⟨rfl, hb1⟩
    obtain ⟨hc, hf⟩ := old hb1
    have z0 : w.heap.size < w1.heap.size := by have := hb1.size; simp only [World.size_alloc] at this; omega
    have z1 : w.heap.size + 1 < w1.heap.size := by have := hb1.size; simp only [World.size_alloc] at this; omega
    go_wp2_with fail
    refine (meet_is _ _ _ _ x y _ HM.out).mono ?_
    rintro e w2 ⟨rfl, hb2⟩
    obtain ⟨hc2, hf2⟩ := old hb2
    have y0 : w.heap.size < w2.heap.size := by have := hb2.size; omega
    have y1 : w.heap.size + 1 < w2.heap.size := by have := hb2.size; omega
    go_wp2_with fail
    refine (is_at _ _ true _ H2.out).mono ?_
    rintro e w3 ⟨rfl, hb3⟩
    obtain ⟨hc3, hf3⟩ := old hb3
    have x0 : w.heap.size < w3.heap.size := by have := hb3.size; simp only [World.size_alloc] at this; omega
    have x1 : w.heap.size + 1 < w3.heap.size := by have := hb3.size; simp only [World.size_alloc] at this; omega
    have x2 : w2.heap.size < w3.heap.size := by have := hb3.size; simp only [World.size_alloc] at this; omega
    have hbb : Below w.heap.size w w3 := andthen (more (andthen (andthen (more (more (start _) _) _) hb1) hb2) _) hb3
    go_wp2_with (first | (at_builtin; refine wp_one (l := []) (p := (f, x)) rfl _ _ rfl rfl rfl rfl (World.ownsRow_nil w3 w3.heap.size 25 2) (Nat.le_refl _) (by simp) ?_; intro v4 w4 hown4 hb4; obtain ⟨hc4, hf4⟩ := old hb4; have v0 := Nat.lt_of_lt_of_le x0 hb4.size; have v1 := Nat.lt_of_lt_of_le x2 hb4.size) | (at_builtin; refine wp_one (l := [(f, x)]) (p := (y, t)) rfl _ _ rfl rfl rfl rfl hown4 hb4.size (by simp) ?_; intro v5 w5 hown5 hb5))
    go_ret
    exact Gives.of hown5 (Nat.le_of_lt x0) (andthen hbb (hb4.trans hb5))

set_option maxRecDepth 100000 in
set_option maxHeartbeats 1000000 in
theorem minus_yn (f t g u x y : Int) (w : World) (h1 : okB (f, t) = true) (hm : meet (f, t) (g, u) = (x, y)) (h2 : okB (x, y) = true) (c1 : f < x) (c2 : ¬ y < t) :
    Calls Try.prog 40 #[.agg #[.int .i64 f, .int .i64 t], .agg #[.int .i64 g, .int .i64 u]] w (Gives w [(f, x)]) := by
    have H1 := hide h1
    have H2 := hide h2
    have HM := hide hm
    clear h1 h2 hm
    go_enter Try.func40, Try.ntmps40
    go_wp2_with fail
    refine (is_at _ _ true _ H1.out).mono ?_
    rintro e w1 ⟨rfl, hb1⟩
    obtain ⟨hc, hf⟩ := old hb1
    have z0 : w.heap.size < w1.heap.size := by have := hb1.size; simp only [World.size_alloc] at this; omega
    have z1 : w.heap.size + 1 < w1.heap.size := by have := hb1.size; simp only [World.size_alloc] at this; omega
    go_wp2_with fail
    refine (meet_is _ _ _ _ x y _ HM.out).mono ?_
    rintro e w2 ⟨rfl, hb2⟩
    obtain ⟨hc2, hf2⟩ := old hb2
    have y0 : w.heap.size < w2.heap.size := by have := hb2.size; omega
    have y1 : w.heap.size + 1 < w2.heap.size := by have := hb2.size; omega
    go_wp2_with fail
    refine (is_at _ _ true _ H2.out).mono ?_
    rintro e w3 ⟨rfl, hb3⟩
    obtain ⟨hc3, hf3⟩ := old hb3
    have x0 : w.heap.size < w3.heap.size := by have := hb3.size; simp only [World.size_alloc] at this; omega
    have x1 : w.heap.size + 1 < w3.heap.size := by have := hb3.size; simp only [World.size_alloc] at this; omega
    have x2 : w2.heap.size < w3.heap.size := by have := hb3.size; simp only [World.size_alloc] at this; omega
    have hbb : Below w.heap.size w w3 := andthen (more (andthen (andthen (more (more (start _) _) _) hb1) hb2) _) hb3
    go_wp2_with (at_builtin; refine wp_one (l := []) (p := (f, x)) rfl _ _ rfl rfl rfl rfl (World.ownsRow_nil w3 w3.heap.size 25 2) (Nat.le_refl _) (by simp) ?_; intro v4 w4 hown4 hb4; obtain ⟨hc4, hf4⟩ := old hb4; have v0 := Nat.lt_of_lt_of_le x0 hb4.size; have v1 := Nat.lt_of_lt_of_le x2 hb4.size)
    go_ret
    exact Gives.of hown4 (Nat.le_of_lt x0) (andthen hbb hb4)

set_option maxRecDepth 100000 in
set_option maxHeartbeats 1000000 in
theorem minus_ny (f t g u x y : Int) (w : World) (h1 : okB (f, t) = true) (hm : meet (f, t) (g, u) = (x, y)) (h2 : okB (x, y) = true) (c1 : ¬ f < x) (c2 : y < t) :
    Calls Try.prog 40 #[.agg #[.int .i64 f, .int .i64 t], .agg #[.int .i64 g, .int .i64 u]] w (Gives w [(y, t)]) := by
    have H1 := hide h1
    have H2 := hide h2
    have HM := hide hm
    clear h1 h2 hm
    go_enter Try.func40, Try.ntmps40
    go_wp2_with fail
    refine (is_at _ _ true _ H1.out).mono ?_
    rintro e w1 ⟨rfl, hb1⟩
    obtain ⟨hc, hf⟩ := old hb1
    have z0 : w.heap.size < w1.heap.size := by have := hb1.size; simp only [World.size_alloc] at this; omega
    have z1 : w.heap.size + 1 < w1.heap.size := by have := hb1.size; simp only [World.size_alloc] at this; omega
    go_wp2_with fail
    refine (meet_is _ _ _ _ x y _ HM.out).mono ?_
    rintro e w2 ⟨rfl, hb2⟩
    obtain ⟨hc2, hf2⟩ := old hb2
    have y0 : w.heap.size < w2.heap.size := by have := hb2.size; omega
    have y1 : w.heap.size + 1 < w2.heap.size := by have := hb2.size; omega
    go_wp2_with fail
    refine (is_at _ _ true _ H2.out).mono ?_
    rintro e w3 ⟨rfl, hb3⟩
    obtain ⟨hc3, hf3⟩ := old hb3
    have x0 : w.heap.size < w3.heap.size := by have := hb3.size; simp only [World.size_alloc] at this; omega
    have x1 : w.heap.size + 1 < w3.heap.size := by have := hb3.size; simp only [World.size_alloc] at this; omega
    have x2 : w2.heap.size < w3.heap.size := by have := hb3.size; simp only [World.size_alloc] at this; omega
    have hbb : Below w.heap.size w w3 := andthen (more (andthen (andthen (more (more (start _) _) _) hb1) hb2) _) hb3
    go_wp2_with (at_builtin; refine wp_one (l := []) (p := (y, t)) rfl _ _ rfl rfl rfl rfl (World.ownsRow_nil w3 w3.heap.size 25 2) (Nat.le_refl _) (by simp) ?_; intro v5 w5 hown5 hb5)
    go_ret
    exact Gives.of hown5 (Nat.le_of_lt x0) (andthen hbb hb5)

set_option maxRecDepth 100000 in
set_option maxHeartbeats 1000000 in
theorem minus_nn (f t g u x y : Int) (w : World) (h1 : okB (f, t) = true) (hm : meet (f, t) (g, u) = (x, y)) (h2 : okB (x, y) = true) (c1 : ¬ f < x) (c2 : ¬ y < t) :
    Calls Try.prog 40 #[.agg #[.int .i64 f, .int .i64 t], .agg #[.int .i64 g, .int .i64 u]] w (Gives w []) := by
    have H1 := hide h1
    have H2 := hide h2
    have HM := hide hm
    clear h1 h2 hm
    go_enter Try.func40, Try.ntmps40
    go_wp2_with fail
    refine (is_at _ _ true _ H1.out).mono ?_
    rintro e w1 ⟨rfl, hb1⟩
    obtain ⟨hc, hf⟩ := old hb1
    have z0 : w.heap.size < w1.heap.size := by have := hb1.size; simp only [World.size_alloc] at this; omega
    have z1 : w.heap.size + 1 < w1.heap.size := by have := hb1.size; simp only [World.size_alloc] at this; omega
    go_wp2_with fail
    refine (meet_is _ _ _ _ x y _ HM.out).mono ?_
    rintro e w2 ⟨rfl, hb2⟩
    obtain ⟨hc2, hf2⟩ := old hb2
    have y0 : w.heap.size < w2.heap.size := by have := hb2.size; omega
    have y1 : w.heap.size + 1 < w2.heap.size := by have := hb2.size; omega
    go_wp2_with fail
    refine (is_at _ _ true _ H2.out).mono ?_
    rintro e w3 ⟨rfl, hb3⟩
    obtain ⟨hc3, hf3⟩ := old hb3
    have x0 : w.heap.size < w3.heap.size := by have := hb3.size; simp only [World.size_alloc] at this; omega
    have x1 : w.heap.size + 1 < w3.heap.size := by have := hb3.size; simp only [World.size_alloc] at this; omega
    have x2 : w2.heap.size < w3.heap.size := by have := hb3.size; simp only [World.size_alloc] at this; omega
    have hbb : Below w.heap.size w w3 := andthen (more (andthen (andthen (more (more (start _) _) _) hb1) hb2) _) hb3
    go_wp2_with fail
    go_ret
    exact Gives.of (World.ownsRow_nil w3 w.heap.size 25 2) (Nat.le_refl _) hbb

set_option maxRecDepth 100000 in
set_option maxHeartbeats 1000000 in
theorem minus_all (f t g u x y : Int) (w : World) (h1 : okB (f, t) = true) (hm : meet (f, t) (g, u) = (x, y)) (h2 : okB (x, y) = false) :
    Calls Try.prog 40 #[.agg #[.int .i64 f, .int .i64 t], .agg #[.int .i64 g, .int .i64 u]] w (Gives w [(f, t)]) := by
    have H1 := hide h1
    have H2 := hide h2
    have HM := hide hm
    clear h1 h2 hm
    go_enter Try.func40, Try.ntmps40
    go_wp2_with fail
    refine (is_at _ _ true _ H1.out).mono ?_
    rintro e w1 ⟨rfl, hb1⟩
    obtain ⟨hc, hf⟩ := old hb1
    have z0 : w.heap.size < w1.heap.size := by have := hb1.size; simp only [World.size_alloc] at this; omega
    have z1 : w.heap.size + 1 < w1.heap.size := by have := hb1.size; simp only [World.size_alloc] at this; omega
    go_wp2_with fail
    refine (meet_is _ _ _ _ x y _ HM.out).mono ?_
    rintro e w2 ⟨rfl, hb2⟩
    obtain ⟨hc2, hf2⟩ := old hb2
    have y0 : w.heap.size < w2.heap.size := by have := hb2.size; omega
    have y1 : w.heap.size + 1 < w2.heap.size := by have := hb2.size; omega
    go_wp2_with fail
    refine (is_at _ _ false _ H2.out).mono ?_
    rintro e w3 ⟨rfl, hb3⟩
    obtain ⟨hc3, hf3⟩ := old hb3
    have x0 : w.heap.size < w3.heap.size := by have := hb3.size; simp only [World.size_alloc] at this; omega
    have x1 : w.heap.size + 1 < w3.heap.size := by have := hb3.size; simp only [World.size_alloc] at this; omega
    have x2 : w2.heap.size < w3.heap.size := by have := hb3.size; simp only [World.size_alloc] at this; omega
    have hbb : Below w.heap.size w w3 := andthen (more (andthen (andthen (more (more (start _) _) _) hb1) hb2) _) hb3
    go_wp2_with fail
    go_ret
    exact Gives.of (own_new1 w3 (f, t) rfl) (Nat.le_of_lt x0) (more hbb _)
set_option maxHeartbeats 400000 in
theorem minus_none (f t g u : Int) (w : World) (h1 : okB (f, t) = false) :
    Calls Try.prog 40 #[.agg #[.int .i64 f, .int .i64 t], .agg #[.int .i64 g, .int .i64 u]] w (Gives w []) := by
  have H1 := hide h1
  clear h1
  go_enter Try.func40, Try.ntmps40
  go_wp2_with fail
  refine (is_at _ _ false _ H1.out).mono ?_
  rintro e w1 ⟨rfl, hb1⟩
  go_wp2_with fail
  go_ret
  exact Gives.of (World.ownsRow_nil w1 w.heap.size 25 2) (Nat.le_refl _) (andthen (more (more (start _) _) _) hb1)
theorem minus_any (f t g u : Int) (w : World) :
    Calls Try.prog 40 #[.agg #[.int .i64 f, .int .i64 t], .agg #[.int .i64 g, .int .i64 u]] w (Gives w (minusR (f, t) (g, u))) := by
  cases h1 : okB (f, t)
  · rw [mi_no (f, t) (g, u) h1]; exact minus_none f t g u w h1
  · obtain ⟨x, y, hm⟩ : ∃ x y, meet (f, t) (g, u) = (x, y) := ⟨_, _, rfl⟩
    cases h2 : okB (x, y)
    · rw [mi_all (f, t) (g, u) x y h1 hm h2]; exact minus_all f t g u x y w h1 hm h2
    · rw [mi_cut (f, t) (g, u) x y h1 hm h2]
      by_cases c1 : f < x <;> by_cases c2 : y < t
      · rw [if_pos c1, if_pos c2]; exact minus_yy f t g u x y w h1 hm h2 c1 c2
      · rw [if_pos c1, if_neg c2]; exact minus_yn f t g u x y w h1 hm h2 c1 c2
      · rw [if_neg c1, if_pos c2]; exact minus_ny f t g u x y w h1 hm h2 c1 c2
      · rw [if_neg c1, if_neg c2]; exact minus_nn f t g u x y w h1 hm h2 c1 c2

end Go.Proofs.Ytkjkegjekfebpaa.R

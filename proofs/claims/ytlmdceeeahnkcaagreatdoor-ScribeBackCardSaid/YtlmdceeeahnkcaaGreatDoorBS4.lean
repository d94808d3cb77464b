/- TpRA; TpRB; TpRC of the recipes, what is needed of them. -/
import Derived.RegionTactic
import Derived.Test.YtlmdceeeahnkcaaGreatDoorBS1
import Derived.Test.YtlmdceeeahnkcaaGreatDoorBS2
namespace Go.Proofs.YtlmdceeeahnkcaaGreatDoor.S2.R
open Go.RowKit Spn

theorem is_any (f t : Int) (w : World) :
    Calls Tryz.prog 124 #[.agg #[.int .i64 f, .int .i64 t]] w fun e w' => e = .returned (.bool (okB (f, t))) ∧ Below w.heap.size w w' := by
  by_cases h1 : 0 ≤ f
  · by_cases h2 : f < t
    · by_cases h3 : t ≤ 52596000
      · have e := hide (okB_all f t h1 h2 h3)
        go_enter Tryz.func124, Tryz.ntmps124
        go_wp2
        go_ret
        exact ⟨ret_bool (by rw [e.out]), (Below.refl _ _).alloc (Nat.le_refl _) _⟩
      · have e := hide (okB_no f t (fun h => h3 h.2.2))
        go_enter Tryz.func124, Tryz.ntmps124
        go_wp2
        go_ret
        exact ⟨ret_bool (by rw [e.out]), (Below.refl _ _).alloc (Nat.le_refl _) _⟩
    · have e := hide (okB_no f t (fun h => h2 h.2.1))
      go_enter Tryz.func124, Tryz.ntmps124
      go_wp2
      go_ret
      exact ⟨ret_bool (by rw [e.out]), (Below.refl _ _).alloc (Nat.le_refl _) _⟩
  · have e := hide (okB_no f t (fun h => h1 h.1))
    go_enter Tryz.func124, Tryz.ntmps124
    go_wp2
    go_ret
    exact ⟨ret_bool (by rw [e.out]), (Below.refl _ _).alloc (Nat.le_refl _) _⟩

theorem is_at (f t : Int) (b : Bool) (w : World) (h : okB (f, t) = b) :
    Calls Tryz.prog 124 #[.agg #[.int .i64 f, .int .i64 t]] w fun e w' => e = .returned (.bool b) ∧ Below w.heap.size w w' := by
  subst h; exact is_any f t w

end Go.Proofs.YtlmdceeeahnkcaaGreatDoor.S2.R
namespace Go.Proofs.YtlmdceeeahnkcaaGreatDoor.S2.R
open Go.RowKit Spn

theorem tch_no1 (f t g u : Int) (h : okB (f, t) = false) : touchB (f, t) (g, u) = false := by
  unfold touchB; rw [decide_eq_false]; intro hc; rw [okB_not] at h; exact h hc.1
theorem tch_no2 (f t g u : Int) (h : okB (g, u) = false) : touchB (f, t) (g, u) = false := by
  unfold touchB; rw [decide_eq_false]; intro hc; rw [okB_not] at h; exact h hc.2.1
theorem tch_no3 (f t g u : Int) (h : ¬ g ≤ t) : touchB (f, t) (g, u) = false := by
  unfold touchB; rw [decide_eq_false]; intro hc; exact h hc.2.2.2
theorem tch_yes (f t g u : Int) (h1 : okB (f, t) = true) (h2 : okB (g, u) = true) (h : g ≤ t) : touchB (f, t) (g, u) = decide (f ≤ u) := by
  unfold touchB Tch; rw [okB_iff] at h1 h2; simp [h1, h2, h]

set_option maxHeartbeats 800000 in
theorem touch_any (f t g u : Int) (w : World) :
    Calls Tryz.prog 125 #[.agg #[.int .i64 f, .int .i64 t], .agg #[.int .i64 g, .int .i64 u]] w fun e w' => e = .returned (.bool (touchB (f, t) (g, u))) ∧ Below w.heap.size w w' := by
  cases h1 : okB (f, t)
  · have H := hide (tch_no1 f t g u h1)
    have H1 := hide h1
    clear h1
    go_enter Tryz.func125, Tryz.ntmps125
    go_wp2_with fail
    refine (is_at _ _ false _ H1.out).mono ?_
    rintro e w1 ⟨rfl, hb1⟩
    go_wp2_with fail
    go_ret
    exact ⟨ret_bool (by rw [H.out]), andthen (more (more (start _) _) _) hb1⟩
  · cases h2 : okB (g, u)
    · have H := hide (tch_no2 f t g u h2)
      have H1 := hide h1
      have H2 := hide h2
      clear h1 h2
      go_enter Tryz.func125, Tryz.ntmps125
      go_wp2_with fail
      refine (is_at _ _ true _ H1.out).mono ?_
      rintro e w1 ⟨rfl, hb1⟩
      obtain ⟨hc, hf⟩ := old hb1
      have z0 : w.heap.size < w1.heap.size := by have := hb1.size; simp only [World.size_alloc] at this; omega
      have z1 : w.heap.size + 1 < w1.heap.size := by have := hb1.size; simp only [World.size_alloc] at this; omega
      go_wp2_with fail
      refine (is_at _ _ false _ H2.out).mono ?_
      rintro e w2 ⟨rfl, hb2⟩
      go_wp2_with fail
      go_ret
      exact ⟨ret_bool (by rw [H.out]), andthen (andthen (more (more (start _) _) _) hb1) hb2⟩
    · by_cases h3 : g ≤ t
      · have H := hide (tch_yes f t g u h1 h2 h3)
        have H1 := hide h1
        have H2 := hide h2
        clear h1 h2
        go_enter Tryz.func125, Tryz.ntmps125
        go_wp2_with fail
        refine (is_at _ _ true _ H1.out).mono ?_
        rintro e w1 ⟨rfl, hb1⟩
        obtain ⟨hc, hf⟩ := old hb1
        have z0 : w.heap.size < w1.heap.size := by have := hb1.size; simp only [World.size_alloc] at this; omega
        have z1 : w.heap.size + 1 < w1.heap.size := by have := hb1.size; simp only [World.size_alloc] at this; omega
        go_wp2_with fail
        refine (is_at _ _ true _ H2.out).mono ?_
        rintro e w2 ⟨rfl, hb2⟩
        obtain ⟨hc2, hf2⟩ := old hb2
        have y0 : w.heap.size < w2.heap.size := by have := hb2.size; omega
        have y1 : w.heap.size + 1 < w2.heap.size := by have := hb2.size; omega
        go_wp2_with fail
        all_goals
          go_ret
          exact ⟨ret_bool (by rw [H.out]), andthen (andthen (more (more (start _) _) _) hb1) hb2⟩
      · have H := hide (tch_no3 f t g u h3)
        have H1 := hide h1
        have H2 := hide h2
        clear h1 h2
        go_enter Tryz.func125, Tryz.ntmps125
        go_wp2_with fail
        refine (is_at _ _ true _ H1.out).mono ?_
        rintro e w1 ⟨rfl, hb1⟩
        obtain ⟨hc, hf⟩ := old hb1
        have z0 : w.heap.size < w1.heap.size := by have := hb1.size; simp only [World.size_alloc] at this; omega
        have z1 : w.heap.size + 1 < w1.heap.size := by have := hb1.size; simp only [World.size_alloc] at this; omega
        go_wp2_with fail
        refine (is_at _ _ true _ H2.out).mono ?_
        rintro e w2 ⟨rfl, hb2⟩
        obtain ⟨hc2, hf2⟩ := old hb2
        have y0 : w.heap.size < w2.heap.size := by have := hb2.size; omega
        have y1 : w.heap.size + 1 < w2.heap.size := by have := hb2.size; omega
        go_wp2_with fail
        go_ret
        exact ⟨ret_bool (by rw [H.out]), andthen (andthen (more (more (start _) _) _) hb1) hb2⟩
end Go.Proofs.YtlmdceeeahnkcaaGreatDoor.S2.R
namespace Go.Proofs.YtlmdceeeahnkcaaGreatDoor.S2.R
open Go.RowKit Spn

theorem take_ne {l k : List Sp} {i : Nat} (hi : i < l.length) (hk : i < k.length) (h : l[i] ≠ k[i]) : l ≠ k := by
  rintro rfl; exact h rfl
theorem same_all {l k : List Sp} (hl : l.length = k.length) (h : l.take l.length = k.take l.length) : l = k := by
  rw [List.take_length, hl, List.take_length] at h; exact h

end Go.Proofs.YtlmdceeeahnkcaaGreatDoor.S2.R

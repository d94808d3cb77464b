/- TpA; TpC of the recipes, what is needed of them. -/
import Derived.Test.YtlmdceeeahnkcaaGreatDoorProg
import Derived.WalkKit
import Derived.WalkSpells
import Derived.WalkLawsBesides
import Derived.Deep.QuietTactic
import Derived.BigQuiet
import Derived.Deep.RegionHeld3
import Derived.Deep.DrawnRows
import Derived.Test.YtlmdceeeahnkcaaGreatDoorBM2
namespace Go.Proofs.YtlmdceeeahnkcaaGreatDoor.S2
open Go.RowKit Spn

theorem hide {p : Prop} (h : p) : Hid p := h
theorem ret_bool {a b : Bool} (h : a = b) : Ending.returned (.bool a) = .returned (.bool b) := by rw [h]
theorem ret_int {k : IntKind} {a b : Int} (h : a = b) : Ending.returned (.int k a) = .returned (.int k b) := by rw [h]
theorem below_drawn {B : Nat} {a w : World} (h : Below B a w) (n : Nat) : Below B a (w.drewN n) := ⟨h.os, h.tape, h.output, h.size, h.block⟩
theorem more {a w : World} (h : Below a.heap.size a w) (o : Obj) : Below a.heap.size a (w.alloc o) := h.alloc h.size o
theorem andthen {a b c : World} (h : Below a.heap.size a b) (k : Below b.heap.size b c) : Below a.heap.size a c := h.trans (k.mono h.size)
theorem start (a : World) : Below a.heap.size a a := Below.refl _ _
/-- what lay before reads as it read. -/
theorem old {W w1 : World} {B : Nat} (hb : Below B W w1) : (∀ b o, b < B → w1.cell? ⟨b, o, none⟩ = W.cell? ⟨b, o, none⟩) ∧ (∀ b o, b < B → w1.frozen? ⟨b, o, none⟩ = W.frozen? ⟨b, o, none⟩) :=
  ⟨fun b o h => hb.cell (p := ⟨b, o, none⟩) h, fun b o h => hb.frozen (p := ⟨b, o, none⟩) h⟩
theorem okB_all (f t : Int) (h1 : 0 ≤ f) (h2 : f < t) (h3 : t ≤ 52596000) : okB (f, t) = true := by
  rw [okB_iff]; exact ⟨h1, h2, h3⟩
theorem okB_no (f t : Int) (h : ¬ (0 ≤ f ∧ f < t ∧ t ≤ 52596000)) : okB (f, t) = false := by
  rw [okB_not]; exact h

set_option maxHeartbeats 400000 in
theorem is_any (f t : Int) (w : World) :
    Calls Tryz.prog 146 #[.agg #[.int .i64 f, .int .i64 t]] w fun e w' => e = .returned (.bool (okB (f, t))) ∧ Below w.heap.size w w' := by
  by_cases h1 : 0 ≤ f
  · by_cases h2 : f < t
    · by_cases h3 : t ≤ 52596000
      · have e := hide (okB_all f t h1 h2 h3)
        go_enter Tryz.func146, Tryz.ntmps146
        go_wp2
        go_ret
        exact ⟨ret_bool (by rw [e.out]), (Below.refl _ _).alloc (Nat.le_refl _) _⟩
      · have e := hide (okB_no f t (fun h => h3 h.2.2))
        go_enter Tryz.func146, Tryz.ntmps146
        go_wp2
        go_ret
        exact ⟨ret_bool (by rw [e.out]), (Below.refl _ _).alloc (Nat.le_refl _) _⟩
    · have e := hide (okB_no f t (fun h => h2 h.2.1))
      go_enter Tryz.func146, Tryz.ntmps146
      go_wp2
      go_ret
      exact ⟨ret_bool (by rw [e.out]), (Below.refl _ _).alloc (Nat.le_refl _) _⟩
  · have e := hide (okB_no f t (fun h => h1 h.1))
    go_enter Tryz.func146, Tryz.ntmps146
    go_wp2
    go_ret
    exact ⟨ret_bool (by rw [e.out]), (Below.refl _ _).alloc (Nat.le_refl _) _⟩
theorem is_at (f t : Int) (b : Bool) (w : World) (h : okB (f, t) = b) :
    Calls Tryz.prog 146 #[.agg #[.int .i64 f, .int .i64 t]] w fun e w' => e = .returned (.bool b) ∧ Below w.heap.size w w' := by
  subst h; exact is_any f t w

end Go.Proofs.YtlmdceeeahnkcaaGreatDoor.S2
namespace Go.Proofs.YtlmdceeeahnkcaaGreatDoor.S2
open Go.RowKit Spn

theorem tch_no1 (f t g u : Int) (h : okB (f, t) = false) : touchB (f, t) (g, u) = false := by
  unfold touchB; rw [decide_eq_false]; intro hc; rw [okB_not] at h; exact h hc.1
theorem tch_no2 (f t g u : Int) (h : okB (g, u) = false) : touchB (f, t) (g, u) = false := by
  unfold touchB; rw [decide_eq_false]; intro hc; rw [okB_not] at h; exact h hc.2.1
theorem tch_no3 (f t g u : Int) (h : ¬ f ≤ u) : touchB (f, t) (g, u) = false := by
  unfold touchB; rw [decide_eq_false]; intro hc; exact h hc.2.2.1
theorem tch_yes (f t g u : Int) (h1 : okB (f, t) = true) (h2 : okB (g, u) = true) (h : f ≤ u) : touchB (f, t) (g, u) = decide (g ≤ t) := by
  unfold touchB Tch; rw [okB_iff] at h1 h2; simp [h1, h2, h]

set_option maxHeartbeats 800000 in
theorem touch_any (f t g u : Int) (w : World) :
    Calls Tryz.prog 171 #[.agg #[.int .i64 f, .int .i64 t], .agg #[.int .i64 g, .int .i64 u]] w fun e w' => e = .returned (.bool (touchB (f, t) (g, u))) ∧ Below w.heap.size w w' := by
  cases h1 : okB (f, t)
  · have H := hide (tch_no1 f t g u h1)
    have H1 := hide h1
    clear h1
    go_enter Tryz.func171, Tryz.ntmps171
    go_wp2_with fail
    refine (is_at _ _ false _ H1.out).mono ?_
    rintro e w1 ⟨rfl, hb1⟩
    go_wp2_with fail
    go_ret
    exact ⟨ret_bool (by rw [H.out]), andthen (more (more (start _) _) _) hb1⟩
  · cases h2 : okB (g, u)
    · have H := hide (tch_no2 f t g u h2)
      have H1 := hide h1
      have H2 := hide h2
      clear h1 h2
      go_enter Tryz.func171, Tryz.ntmps171
      go_wp2_with fail
      refine (is_at _ _ true _ H1.out).mono ?_
      rintro e w1 ⟨rfl, hb1⟩
      obtain ⟨hc, hf⟩ := old hb1
      have z0 : w.heap.size < w1.heap.size := by have := hb1.size; simp only [World.size_alloc] at this; omega
      have z1 : w.heap.size + 1 < w1.heap.size := by have := hb1.size; simp only [World.size_alloc] at this; omega
      go_wp2_with fail
      refine (is_at _ _ false _ H2.out).mono ?_
      rintro e w2 ⟨rfl, hb2⟩
      go_wp2_with fail
      go_ret
      exact ⟨ret_bool (by rw [H.out]), andthen (andthen (more (more (start _) _) _) hb1) hb2⟩
    · by_cases h3 : f ≤ u
      · have H := hide (tch_yes f t g u h1 h2 h3)
        have H1 := hide h1
        have H2 := hide h2
        clear h1 h2
        go_enter Tryz.func171, Tryz.ntmps171
        go_wp2_with fail
        refine (is_at _ _ true _ H1.out).mono ?_
        rintro e w1 ⟨rfl, hb1⟩
        obtain ⟨hc, hf⟩ := old hb1
        have z0 : w.heap.size < w1.heap.size := by have := hb1.size; simp only [World.size_alloc] at this; omega
        have z1 : w.heap.size + 1 < w1.heap.size := by have := hb1.size; simp only [World.size_alloc] at this; omega
        go_wp2_with fail
        refine (is_at _ _ true _ H2.out).mono ?_
        rintro e w2 ⟨rfl, hb2⟩
        obtain ⟨hc2, hf2⟩ := old hb2
        have y0 : w.heap.size < w2.heap.size := by have := hb2.size; omega
        have y1 : w.heap.size + 1 < w2.heap.size := by have := hb2.size; omega
        go_wp2_with fail
        all_goals
          go_ret
          exact ⟨ret_bool (by rw [H.out]), andthen (andthen (more (more (start _) _) _) hb1) hb2⟩
      · have H := hide (tch_no3 f t g u h3)
        have H1 := hide h1
        have H2 := hide h2
        clear h1 h2
        go_enter Tryz.func171, Tryz.ntmps171
        go_wp2_with fail
        refine (is_at _ _ true _ H1.out).mono ?_
        rintro e w1 ⟨rfl, hb1⟩
        obtain ⟨hc, hf⟩ := old hb1
        have z0 : w.heap.size < w1.heap.size := by have := hb1.size; simp only [World.size_alloc] at this; omega
        have z1 : w.heap.size + 1 < w1.heap.size := by have := hb1.size; simp only [World.size_alloc] at this; omega
        go_wp2_with fail
        refine (is_at _ _ true _ H2.out).mono ?_
        rintro e w2 ⟨rfl, hb2⟩
        obtain ⟨hc2, hf2⟩ := old hb2
        have y0 : w.heap.size < w2.heap.size := by have := hb2.size; omega
        have y1 : w.heap.size + 1 < w2.heap.size := by have := hb2.size; omega
        go_wp2_with fail
        go_ret
        exact ⟨ret_bool (by rw [H.out]), andthen (andthen (more (more (start _) _) _) hb1) hb2⟩
end Go.Proofs.YtlmdceeeahnkcaaGreatDoor.S2

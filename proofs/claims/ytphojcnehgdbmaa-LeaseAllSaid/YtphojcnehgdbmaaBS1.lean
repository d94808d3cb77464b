/- TpA; TpB; TpC of the recipes, what is needed of them. -/
import Derived.Test.YtphojcnehgdbmaaProg
import Derived.WalkKit
import Derived.WalkSpells
import Derived.WalkLawsBesides
import Derived.Deep.QuietTactic
import Derived.BigQuiet
import Derived.Deep.RegionHeld3
import Derived.Deep.DrawnRows
import Derived.Test.YtphojcnehgdbmaaBM1
namespace Go.Proofs.Ytphojcnehgdbmaa.S2
open Go.RowKit Spn

theorem hide {p : Prop} (h : p) : Hid p := h
theorem ret_bool {a b : Bool} (h : a = b) : Ending.returned (.bool a) = .returned (.bool b) := by rw [h]
theorem ret_int {k : IntKind} {a b : Int} (h : a = b) : Ending.returned (.int k a) = .returned (.int k b) := by rw [h]
theorem below_drawn {B : Nat} {a w : World} (h : Below B a w) (n : Nat) : Below B a (w.drewN n) := ⟨h.os, h.tape, h.output, h.size, h.block⟩
theorem more {a w : World} (h : Below a.heap.size a w) (o : Obj) : Below a.heap.size a (w.alloc o) := h.alloc h.size o
theorem andthen {a b c : World} (h : Below a.heap.size a b) (k : Below b.heap.size b c) : Below a.heap.size a c := h.trans (k.mono h.size)
theorem start (a : World) : Below a.heap.size a a := Below.refl _ _
/-- what lay before reads as it read. -/
theorem old {W w1 : World} {B : Nat} (hb : Below B W w1) : (∀ b o, b < B → w1.cell? ⟨b, o, none⟩ = W.cell? ⟨b, o, none⟩) ∧ (∀ b o, b < B → w1.frozen? ⟨b, o, none⟩ = W.frozen? ⟨b, o, none⟩) :=
  ⟨fun b o h => hb.cell (p := ⟨b, o, none⟩) h, fun b o h => hb.frozen (p := ⟨b, o, none⟩) h⟩
/-- a span as a value. -/
abbrev sp (a : Sp) : Value := .agg #[.int .i64 a.1, .int .i64 a.2]

theorem okB_all (f t : Int) (h1 : 0 ≤ f) (h2 : f < t) (h3 : t ≤ 52596000) : okB (f, t) = true := by
  rw [okB_iff]; exact ⟨h1, h2, h3⟩
theorem okB_no (f t : Int) (h : ¬ (0 ≤ f ∧ f < t ∧ t ≤ 52596000)) : okB (f, t) = false := by
  rw [okB_not]; exact h

set_option maxHeartbeats 400000 in
theorem is_any (f t : Int) (w : World) :
    Calls Try.prog 40 #[.agg #[.int .i64 f, .int .i64 t]] w fun e w' => e = .returned (.bool (okB (f, t))) ∧ Below w.heap.size w w' := by
  by_cases h1 : 0 ≤ f
  · by_cases h2 : f < t
    · by_cases h3 : t ≤ 52596000
      · have e := hide (okB_all f t h1 h2 h3)
        go_enter Try.func40, Try.ntmps40
        go_wp2
        go_ret
        exact ⟨ret_bool (by rw [e.out]), (Below.refl _ _).alloc (Nat.le_refl _) _⟩
      · have e := hide (okB_no f t (fun h => h3 h.2.2))
        go_enter Try.func40, Try.ntmps40
        go_wp2
        go_ret
        exact ⟨ret_bool (by rw [e.out]), (Below.refl _ _).alloc (Nat.le_refl _) _⟩
    · have e := hide (okB_no f t (fun h => h2 h.2.1))
      go_enter Try.func40, Try.ntmps40
      go_wp2
      go_ret
      exact ⟨ret_bool (by rw [e.out]), (Below.refl _ _).alloc (Nat.le_refl _) _⟩
  · have e := hide (okB_no f t (fun h => h1 h.1))
    go_enter Try.func40, Try.ntmps40
    go_wp2
    go_ret
    exact ⟨ret_bool (by rw [e.out]), (Below.refl _ _).alloc (Nat.le_refl _) _⟩
theorem is_at (f t : Int) (b : Bool) (w : World) (h : okB (f, t) = b) :
    Calls Try.prog 40 #[.agg #[.int .i64 f, .int .i64 t]] w fun e w' => e = .returned (.bool b) ∧ Below w.heap.size w w' := by
  subst h; exact is_any f t w

set_option maxHeartbeats 400000 in
theorem long_any (f t : Int) (w : World) :
    Calls Try.prog 81 #[.agg #[.int .i64 f, .int .i64 t]] w fun e w' => e = .returned (.int .i64 (long (f, t))) ∧ Below w.heap.size w w' := by
  cases hb : okB (f, t)
  · have hl := hide (long_no (f, t) ((okB_not _).1 hb))
    have HB := hide hb
    clear hb
    go_enter Try.func81, Try.ntmps81
    go_wp2_with fail
    refine (is_at f t false _ HB.out).mono ?_
    rintro e w1 ⟨rfl, hb1⟩
    go_wp2_with fail
    go_ret
    exact ⟨ret_int (by rw [hl.out]), andthen (more (start _) _) hb1⟩
  · have hk := (okB_iff _).1 hb
    have hl := hide (long_pos (f, t) hk).1
    have HB := hide hb
    have g1 : 0 ≤ f := hk.1
    have g2 : f < t := hk.2.1
    have g3 : t ≤ 52596000 := hk.2.2
    clear hb hk
    go_enter Try.func81, Try.ntmps81
    go_wp2_with fail
    refine (is_at f t true _ HB.out).mono ?_
    rintro e w1 ⟨rfl, hb1⟩
    obtain ⟨hc, hf⟩ := old hb1
    go_wp2_with fail
    go_ret
    exact ⟨ret_int (by rw [hl.out]), andthen (more (start _) _) hb1⟩

end Go.Proofs.Ytphojcnehgdbmaa.S2
namespace Go.Proofs.Ytphojcnehgdbmaa.S2
open Go.RowKit Spn

theorem inB_no (f t m : Int) (h : okB (f, t) = false) : inB (f, t) m = false := by
  unfold inB; rw [decide_eq_false]; intro hc; rw [okB_not] at h; exact h hc.1
theorem inB_lo (f t m : Int) (h : ¬ f ≤ m) : inB (f, t) m = false := by
  unfold inB; rw [decide_eq_false]; intro hc; exact h hc.2.1
theorem inB_hi (f t m : Int) (h : okB (f, t) = true) (h1 : f ≤ m) : inB (f, t) m = decide (m < t) := by
  unfold inB; rw [okB_iff] at h; simp [h, h1]

theorem meet_no1 (a b : Sp) (h : okB a = false) : meet a b = (0, 0) := by
  unfold meet; rw [if_neg]; intro hc; rw [okB_not] at h; exact h hc.1
theorem meet_no2 (a b : Sp) (h : okB b = false) : meet a b = (0, 0) := by
  unfold meet; rw [if_neg]; intro hc; rw [okB_not] at h; exact h hc.2.1
theorem meet_no3 (a b : Sp) (h : okB (max a.1 b.1, min a.2 b.2) = false) : meet a b = (0, 0) := by
  unfold meet; rw [if_neg]; intro hc; rw [okB_not] at h; exact h hc.2.2
theorem meet_yes (a b : Sp) (h1 : okB a = true) (h2 : okB b = true) (h : okB (max a.1 b.1, min a.2 b.2) = true) : meet a b = (max a.1 b.1, min a.2 b.2) := by
  unfold meet; rw [if_pos]; · rfl
  · rw [okB_iff] at h h1 h2; exact ⟨h1, h2, h⟩

theorem up2 (n : Nat) : n ≤ n + 1 + 1 := by omega

theorem sizes4 {n k : Nat} (h : n + 1 + 1 + 1 + 1 ≤ k) : n < k ∧ n + 1 < k ∧ n + 1 + 1 < k ∧ n + 1 + 1 + 1 < k := by omega
set_option maxHeartbeats 800000 in
theorem meet_w (f t g u x y : Int) (v1 v2 : Int) (w : World) (c1 : (g ≤ f ∧ x = f) ∨ (f < g ∧ x = g)) (c2 : (t ≤ u ∧ y = t) ∨ (u < t ∧ y = u))
    (h1 : okB (f, t) = true) (h2 : okB (g, u) = true) (h : (okB (x, y) = true ∧ v1 = x ∧ v2 = y) ∨ (okB (x, y) = false ∧ v1 = 0 ∧ v2 = 0)) :
    Calls Try.prog 68 #[.agg #[.int .i64 f, .int .i64 t], .agg #[.int .i64 g, .int .i64 u]] w fun e w' => e = .returned (.agg #[.int .i64 v1, .int .i64 v2]) ∧ Below w.heap.size w w' := by
  rcases h with ⟨h3, rfl, rfl⟩ | ⟨h3, rfl, rfl⟩ <;> rcases c1 with ⟨c1, rfl⟩ | ⟨c1, rfl⟩ <;> rcases c2 with ⟨c2, rfl⟩ | ⟨c2, rfl⟩
  all_goals
    have H1 := hide h1
    have H2 := hide h2
    have H3 := hide h3
    clear h1 h2 h3
    go_enter Try.func68, Try.ntmps68
    go_wp2_with fail
    refine (is_at _ _ true _ H1.out).mono ?_
    rintro e w1 ⟨rfl, hb1⟩
    obtain ⟨hc, hf⟩ := old hb1
    obtain ⟨z0, z1, z2, z3⟩ := sizes4 (by simpa using hb1.size)
    go_wp2_with fail
    refine (is_at _ _ true _ H2.out).mono ?_
    rintro e w2 ⟨rfl, hb2⟩
    obtain ⟨hc2, hf2⟩ := old hb2
    obtain ⟨y0, y1, y2, y3⟩ := sizes4 (Nat.le_trans (by simpa using hb1.size) hb2.size)
    go_wp2_with fail
    refine (is_at _ _ _ _ H3.out).mono ?_
    rintro e w3 ⟨rfl, hb3⟩
    obtain ⟨hc3, hf3⟩ := old hb3
    obtain ⟨x0, x1, x2, x3⟩ := sizes4 (Nat.le_trans (Nat.le_trans (by simpa using hb1.size) hb2.size) hb3.size)
    go_wp2_with fail
    have hb : Below w.heap.size w w3 := andthen (andthen (andthen (more (more (more (more (start _) _) _) _) _) hb1) hb2) hb3
    first
      | exact bodyPost_ret (v := .agg #[.int .i64 v1, .int .i64 v2]) (by simp [results, Try.results68, go_sem, hc, hc2, hc3, z2, y2]) rfl ⟨rfl, (hb.setCell (up2 _) _).setCell (up2 _) _⟩
      | exact bodyPost_ret (v := .agg #[.int .i64 0, .int .i64 0]) (by simp [results, Try.results68, go_sem, hc, hc2, hc3, z2, y2]) rfl ⟨rfl, (hb.setCell (up2 _) _).setCell (up2 _) _⟩

end Go.Proofs.Ytphojcnehgdbmaa.S2
namespace Go.Proofs.Ytphojcnehgdbmaa.S2
open Go.RowKit Spn

set_option maxHeartbeats 800000 in
theorem meet_n1 (f t g u : Int) (w : World) (h1 : okB (f, t) = false) :
    Calls Try.prog 68 #[.agg #[.int .i64 f, .int .i64 t], .agg #[.int .i64 g, .int .i64 u]] w fun e w' => e = .returned (.agg #[.int .i64 0, .int .i64 0]) ∧ Below w.heap.size w w' := by
  have H1 := hide h1
  clear h1
  by_cases c1 : g ≤ f <;> by_cases c2 : t ≤ u
  all_goals
    go_enter Try.func68, Try.ntmps68
    go_wp2_with fail
    refine (is_at _ _ false _ H1.out).mono ?_
    rintro e w1 ⟨rfl, hb1⟩
    obtain ⟨hc, hf⟩ := old hb1
    obtain ⟨z0, z1, z2, z3⟩ := sizes4 (by simpa using hb1.size)
    go_wp2_with fail
    have hb : Below w.heap.size w w1 := andthen (more (more (more (more (start _) _) _) _) _) hb1
    exact bodyPost_ret (v := .agg #[.int .i64 0, .int .i64 0]) (by simp [results, Try.results68, go_sem, hc]) rfl ⟨rfl, (hb.setCell (up2 _) _).setCell (up2 _) _⟩
set_option maxHeartbeats 800000 in
theorem meet_n2 (f t g u : Int) (w : World) (h1 : okB (f, t) = true) (h2 : okB (g, u) = false) :
    Calls Try.prog 68 #[.agg #[.int .i64 f, .int .i64 t], .agg #[.int .i64 g, .int .i64 u]] w fun e w' => e = .returned (.agg #[.int .i64 0, .int .i64 0]) ∧ Below w.heap.size w w' := by
  have H1 := hide h1
  have H2 := hide h2
  clear h1 h2
  by_cases c1 : g ≤ f <;> by_cases c2 : t ≤ u
  all_goals
    go_enter Try.func68, Try.ntmps68
    go_wp2_with fail
    refine (is_at _ _ true _ H1.out).mono ?_
    rintro e w1 ⟨rfl, hb1⟩
    obtain ⟨hc, hf⟩ := old hb1
    obtain ⟨z0, z1, z2, z3⟩ := sizes4 (by simpa using hb1.size)
    go_wp2_with fail
    refine (is_at _ _ false _ H2.out).mono ?_
    rintro e w2 ⟨rfl, hb2⟩
    obtain ⟨hc2, hf2⟩ := old hb2
    obtain ⟨y0, y1, y2, y3⟩ := sizes4 (Nat.le_trans (by simpa using hb1.size) hb2.size)
    go_wp2_with fail
    have hb : Below w.heap.size w w2 := andthen (andthen (more (more (more (more (start _) _) _) _) _) hb1) hb2
    exact bodyPost_ret (v := .agg #[.int .i64 0, .int .i64 0]) (by simp [results, Try.results68, go_sem, hc, hc2, z2]) rfl ⟨rfl, (hb.setCell (up2 _) _).setCell (up2 _) _⟩
theorem ret_sp {a b c d : Int} (h : ((a, b) : Sp) = (c, d)) : Ending.returned (.agg #[.int .i64 a, .int .i64 b]) = .returned (.agg #[.int .i64 c, .int .i64 d]) := by
  injection h with h1 h2; rw [h1, h2]
theorem meet_any (f t g u : Int) (w : World) :
    Calls Try.prog 68 #[.agg #[.int .i64 f, .int .i64 t], .agg #[.int .i64 g, .int .i64 u]] w fun e w' => e = .returned (.agg #[.int .i64 (meet (f, t) (g, u)).1, .int .i64 (meet (f, t) (g, u)).2]) ∧ Below w.heap.size w w' := by
  cases h1 : okB (f, t)
  · rw [meet_no1 _ _ h1]; exact meet_n1 f t g u w h1
  · cases h2 : okB (g, u)
    · rw [meet_no2 _ _ h2]; exact meet_n2 f t g u w h1 h2
    · have c1 : (g ≤ f ∧ max f g = f) ∨ (f < g ∧ max f g = g) := by omega
      have c2 : (t ≤ u ∧ min t u = t) ∨ (u < t ∧ min t u = u) := by omega
      cases h3 : okB (max f g, min t u)
      · rw [meet_no3 (f, t) (g, u) h3]; exact meet_w f t g u _ _ 0 0 w c1 c2 h1 h2 (Or.inr ⟨h3, rfl, rfl⟩)
      · rw [meet_yes (f, t) (g, u) h1 h2 h3]; exact meet_w f t g u _ _ _ _ w c1 c2 h1 h2 (Or.inl ⟨h3, rfl, rfl⟩)
theorem meet_is (f t g u x y : Int) (w : World) (h : meet (f, t) (g, u) = (x, y)) :
    Calls Try.prog 68 #[.agg #[.int .i64 f, .int .i64 t], .agg #[.int .i64 g, .int .i64 u]] w fun e w' => e = .returned (.agg #[.int .i64 x, .int .i64 y]) ∧ Below w.heap.size w w' := by
  have := meet_any f t g u w
  rwa [h] at this

theorem tch_no1 (f t g u : Int) (h : okB (f, t) = false) : touchB (f, t) (g, u) = false := by
  unfold touchB; rw [decide_eq_false]; intro hc; rw [okB_not] at h; exact h hc.1
theorem tch_no2 (f t g u : Int) (h : okB (g, u) = false) : touchB (f, t) (g, u) = false := by
  unfold touchB; rw [decide_eq_false]; intro hc; rw [okB_not] at h; exact h hc.2.1
theorem tch_no3 (f t g u : Int) (h : ¬ f ≤ u) : touchB (f, t) (g, u) = false := by
  unfold touchB; rw [decide_eq_false]; intro hc; exact h hc.2.2.1
theorem tch_yes (f t g u : Int) (h1 : okB (f, t) = true) (h2 : okB (g, u) = true) (h : f ≤ u) : touchB (f, t) (g, u) = decide (g ≤ t) := by
  unfold touchB Tch; rw [okB_iff] at h1 h2; simp [h1, h2, h]

set_option maxHeartbeats 800000 in
theorem touch_any (f t g u : Int) (w : World) :
    Calls Try.prog 79 #[.agg #[.int .i64 f, .int .i64 t], .agg #[.int .i64 g, .int .i64 u]] w fun e w' => e = .returned (.bool (touchB (f, t) (g, u))) ∧ Below w.heap.size w w' := by
  cases h1 : okB (f, t)
  · have H := hide (tch_no1 f t g u h1)
    have H1 := hide h1
    clear h1
    go_enter Try.func79, Try.ntmps79
    go_wp2_with fail
    refine (is_at _ _ false _ H1.out).mono ?_
    rintro e w1 ⟨rfl, hb1⟩
    go_wp2_with fail
    go_ret
    exact ⟨ret_bool (by rw [H.out]), andthen (more (more (start _) _) _) hb1⟩
  · cases h2 : okB (g, u)
    · have H := hide (tch_no2 f t g u h2)
      have H1 := hide h1
      have H2 := hide h2
      clear h1 h2
      go_enter Try.func79, Try.ntmps79
      go_wp2_with fail
      refine (is_at _ _ true _ H1.out).mono ?_
      rintro e w1 ⟨rfl, hb1⟩
      obtain ⟨hc, hf⟩ := old hb1
      have z0 : w.heap.size < w1.heap.size := by have := hb1.size; simp only [World.size_alloc] at this; omega
      have z1 : w.heap.size + 1 < w1.heap.size := by have := hb1.size; simp only [World.size_alloc] at this; omega
      go_wp2_with fail
      refine (is_at _ _ false _ H2.out).mono ?_
      rintro e w2 ⟨rfl, hb2⟩
      go_wp2_with fail
      go_ret
      exact ⟨ret_bool (by rw [H.out]), andthen (andthen (more (more (start _) _) _) hb1) hb2⟩
    · by_cases h3 : f ≤ u
      · have H := hide (tch_yes f t g u h1 h2 h3)
        have H1 := hide h1
        have H2 := hide h2
        clear h1 h2
        go_enter Try.func79, Try.ntmps79
        go_wp2_with fail
        refine (is_at _ _ true _ H1.out).mono ?_
        rintro e w1 ⟨rfl, hb1⟩
        obtain ⟨hc, hf⟩ := old hb1
        have z0 : w.heap.size < w1.heap.size := by have := hb1.size; simp only [World.size_alloc] at this; omega
        have z1 : w.heap.size + 1 < w1.heap.size := by have := hb1.size; simp only [World.size_alloc] at this; omega
        go_wp2_with fail
        refine (is_at _ _ true _ H2.out).mono ?_
        rintro e w2 ⟨rfl, hb2⟩
        obtain ⟨hc2, hf2⟩ := old hb2
        have y0 : w.heap.size < w2.heap.size := by have := hb2.size; omega
        have y1 : w.heap.size + 1 < w2.heap.size := by have := hb2.size; omega
        go_wp2_with fail
        all_goals
          go_ret
          exact ⟨ret_bool (by rw [H.out]), andthen (andthen (more (more (start _) _) _) hb1) hb2⟩
      · have H := hide (tch_no3 f t g u h3)
        have H1 := hide h1
        have H2 := hide h2
        clear h1 h2
        go_enter Try.func79, Try.ntmps79
        go_wp2_with fail
        refine (is_at _ _ true _ H1.out).mono ?_
        rintro e w1 ⟨rfl, hb1⟩
        obtain ⟨hc, hf⟩ := old hb1
        have z0 : w.heap.size < w1.heap.size := by have := hb1.size; simp only [World.size_alloc] at this; omega
        have z1 : w.heap.size + 1 < w1.heap.size := by have := hb1.size; simp only [World.size_alloc] at this; omega
        go_wp2_with fail
        refine (is_at _ _ true _ H2.out).mono ?_
        rintro e w2 ⟨rfl, hb2⟩
        obtain ⟨hc2, hf2⟩ := old hb2
        have y0 : w.heap.size < w2.heap.size := by have := hb2.size; omega
        have y1 : w.heap.size + 1 < w2.heap.size := by have := hb2.size; omega
        go_wp2_with fail
        go_ret
        exact ⟨ret_bool (by rw [H.out]), andthen (andthen (more (more (start _) _) _) hb1) hb2⟩
theorem touch_at (f t g u : Int) (b : Bool) (w : World) (h : touchB (f, t) (g, u) = b) :
    Calls Try.prog 79 #[.agg #[.int .i64 f, .int .i64 t], .agg #[.int .i64 g, .int .i64 u]] w fun e w' => e = .returned (.bool b) ∧ Below w.heap.size w w' := by
  subst h; exact touch_any f t g u w

end Go.Proofs.Ytphojcnehgdbmaa.S2

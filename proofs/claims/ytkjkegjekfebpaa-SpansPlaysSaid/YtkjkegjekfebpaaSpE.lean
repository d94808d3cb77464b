/- Package span: valid of every row, Minus. -/
import Derived.Test.YtkjkegjekfebpaaSpD
namespace Go.Proofs.Ytkjkegjekfebpaa
open Go.RowKit Spn

set_option maxHeartbeats 400000 in
theorem valid_none (A : Option Addr) (c : Nat) (w : World) : Calls Try.prog 55 #[.slice A 0 c] w (Gives w []) := by
  go_enter Try.func55, Try.ntmps55
  go_wp2_with fail
  refine wp_loop_rounds 1 ?_
  rw [rounds_succ]
  go_wp2_with fail
  go_ret
  exact ⟨_, rfl, World.ownsRow_nil _ _ _ _, start _⟩
theorem valid_any (A : Option Addr) (n c : Nat) (l : List Sp) (w : World) (h : Row w A l) (he : n = l.length) (hn : l.length ≤ 1000000) :
    Calls Try.prog 55 #[.slice A n c] w (Gives w (valid l)) := by
  subst he
  by_cases hl : l = []
  · subst hl; exact valid_none A c w
  · obtain ⟨b, off, rfl, hb, hc⟩ := h hl
    exact valid_some b off c l w hb hn hc
theorem row_one {w : World} {b : Nat} {p : Sp} (hb : b < w.heap.size) (h0 : w.cell? ⟨b, 0, none⟩ = some (.int .i64 p.1)) (h1 : w.cell? ⟨b, 1, none⟩ = some (.int .i64 p.2)) : Row w (some ⟨b, 0, none⟩) [p] := fun _ =>
  ⟨b, 0, rfl, hb, fun i hi => by
    obtain rfl : i = 0 := by simpa using hi
    exact ⟨h0, h1⟩⟩
theorem row_two {w : World} {b : Nat} {p q : Sp} (hb : b < w.heap.size) (h0 : w.cell? ⟨b, 0, none⟩ = some (.int .i64 p.1)) (h1 : w.cell? ⟨b, 1, none⟩ = some (.int .i64 p.2))
    (h2 : w.cell? ⟨b, 2, none⟩ = some (.int .i64 q.1)) (h3 : w.cell? ⟨b, 3, none⟩ = some (.int .i64 q.2)) : Row w (some ⟨b, 0, none⟩) [p, q] := fun _ =>
  ⟨b, 0, rfl, hb, fun i hi => by
    rcases (by simp at hi; omega : i = 0 ∨ i = 1) with rfl | rfl
    · exact ⟨h0, h1⟩
    · exact ⟨h2, h3⟩⟩
theorem Own.low {w : World} {B B' : Nat} {v : Value} {l : List Sp} (h : Own w B' v l) (hB : B ≤ B') : Own w B v l := by
  refine ⟨h.1, ?_⟩
  rcases h.2 with h2 | ⟨g, cap, cur, h1, h2, h3⟩
  · exact Or.inl h2
  · exact Or.inr ⟨g, cap, cur, h1, Nat.le_trans hB h2, h3⟩
theorem Gives.of {W w : World} {B : Nat} {v : Value} {l : List Sp} (h : Own w B v l) (hB : W.heap.size ≤ B) (hw : Below W.heap.size W w) : Gives W l (.returned v) w := ⟨v, rfl, h.low hB, hw⟩

set_option maxHeartbeats 800000 in
theorem minus_any (f t g u : Int) (w : World) :
    Calls Try.prog 39 #[.agg #[.int .i64 f, .int .i64 t], .agg #[.int .i64 g, .int .i64 u]] w (Gives w (minus (f, t) (g, u))) := by
  obtain ⟨x, y, hm⟩ : ∃ x y, meet (f, t) (g, u) = (x, y) := ⟨_, _, rfl⟩
  cases hok : okB (x, y)
  · have e : minus (f, t) (g, u) = valid [(f, t)] := by
      unfold minus; rw [if_neg]; rw [hm]; rw [okB_not] at hok; exact hok
    rw [e]
    have HM := hide hm
    have HOK := hide hok
    clear hm hok e
    go_enter Try.func39, Try.ntmps39
    go_wp2_with fail
    refine (meet_is _ _ _ _ x y _ HM.out).mono ?_
    rintro e w1 ⟨rfl, hb1⟩
    obtain ⟨hc, hf⟩ := old hb1
    have z0 : w.heap.size < w1.heap.size := by have := hb1.size; simp only [World.size_alloc] at this; omega
    have z1 : w.heap.size + 1 < w1.heap.size := by have := hb1.size; simp only [World.size_alloc] at this; omega
    go_wp2_with fail
    refine (is_at _ _ false _ HOK.out).mono ?_
    rintro e w2 ⟨rfl, hb2⟩
    obtain ⟨hc2, hf2⟩ := old hb2
    have y0 : w.heap.size < w2.heap.size := by have := hb2.size; omega
    have y1 : w.heap.size + 1 < w2.heap.size := by have := hb2.size; omega
    go_wp2_with fail
    refine (valid_any _ _ _ [(f, t)] _ (row_one (by simp) (World.cell?_alloc_at _ _ _ _ rfl) (World.cell?_alloc_at _ _ _ _ rfl)) rfl (by simp)).mono ?_
    rintro e w3 ⟨v, rfl, hown, hb3⟩
    go_wp2_with fail
    go_ret
    have hbb := andthen (more (andthen (andthen (more (more (start _) _) _) hb1) hb2) _) hb3
    exact Gives.of hown (by simp only [World.size_alloc]; omega) hbb
  · have e : minus (f, t) (g, u) = valid [(f, g), (u, t)] := by
      unfold minus; rw [if_pos]; rw [hm]; rw [okB_iff] at hok; exact hok
    rw [e]
    have HM := hide hm
    have HOK := hide hok
    clear hm hok e
    go_enter Try.func39, Try.ntmps39
    go_wp2_with fail
    refine (meet_is _ _ _ _ x y _ HM.out).mono ?_
    rintro e w1 ⟨rfl, hb1⟩
    obtain ⟨hc, hf⟩ := old hb1
    have z0 : w.heap.size < w1.heap.size := by have := hb1.size; simp only [World.size_alloc] at this; omega
    have z1 : w.heap.size + 1 < w1.heap.size := by have := hb1.size; simp only [World.size_alloc] at this; omega
    go_wp2_with fail
    refine (is_at _ _ true _ HOK.out).mono ?_
    rintro e w2 ⟨rfl, hb2⟩
    obtain ⟨hc2, hf2⟩ := old hb2
    have y0 : w.heap.size < w2.heap.size := by have := hb2.size; omega
    have y1 : w.heap.size + 1 < w2.heap.size := by have := hb2.size; omega
    go_wp2_with fail
    refine (valid_any _ _ _ [(f, g), (u, t)] _ (row_two (by simp) (World.cell?_alloc_at _ _ _ _ (by simp)) (World.cell?_alloc_at _ _ _ _ (by simp)) (World.cell?_alloc_at _ _ _ _ (by simp)) (World.cell?_alloc_at _ _ _ _ (by simp))) rfl (by simp)).mono ?_
    rintro e w3 ⟨v, rfl, hown, hb3⟩
    go_wp2_with fail
    go_ret
    have hbb := andthen (more (more (more (andthen (andthen (more (more (start _) _) _) hb1) hb2) _) _) _) hb3
    exact Gives.of hown (by simp only [World.size_alloc]; omega) hbb

end Go.Proofs.Ytkjkegjekfebpaa

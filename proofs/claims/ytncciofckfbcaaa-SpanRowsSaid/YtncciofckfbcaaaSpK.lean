/- What every law of layer 2 asks first (known): walked; the law's own small helpers: s, in, long. -/
import Derived.Test.YtncciofckfbcaaaSpH
namespace Go.Proofs.Ytncciofckfbcaaa
open Go.RowKit Spn Go.Sort

set_option maxHeartbeats 400000 in
theorem s_any (x y : Int) (w : World) : Calls Try.prog 29 #[.int .i64 x, .int .i64 y] w fun e w' => e = .returned (.agg #[.int .i64 x, .int .i64 y]) ∧ Below w.heap.size w w' := by
  go_enter Try.func29, Try.ntmps29
  go_wp2_with fail
  exact bodyPost_ret (v := .agg #[.int .i64 x, .int .i64 y]) (by simp [results, Try.results29, go_sem]) rfl ⟨rfl, more (start _) _⟩

theorem row_block {w : World} {b : Nat} {cs : Array Value} {t : TypeId} {fr : Nat × Nat} {l : List Sp} (hb : w.heap[b]? = some (.cells cs t fr)) (hl : cs.toList = cellsL l) : Row w (some ⟨b, 0, none⟩) l := fun _ =>
  ⟨b, 0, rfl, (Array.getElem?_eq_some_iff.1 hb).1, fun i hi => by
    obtain ⟨c1, c2⟩ := cellsL_get l i hi
    rw [← hl, Array.getElem?_toList] at c1 c2
    rw [cell_of_row w b _ cs t fr hb, cell_of_row w b _ cs t fr hb, Nat.zero_add]
    exact ⟨c1, c2⟩⟩
theorem long_is (f t v : Int) (w : World) (h : long (f, t) = v) :
    Calls Try.prog 12 #[.agg #[.int .i64 f, .int .i64 t]] w fun e w' => e = .returned (.int .i64 v) ∧ Below w.heap.size w w' := by
  subst h; exact long_any f t w
theorem in_is (f t m : Int) (b : Bool) (w : World) (h : inB (f, t) m = b) :
    Calls Try.prog 14 #[.agg #[.int .i64 f, .int .i64 t], .int .i64 m] w fun e w' => e = .returned (.bool b) ∧ Below w.heap.size w w' := by
  subst h; exact in_any f t m w
theorem within_is (f t g u : Int) (b : Bool) (w : World) (h : withinB (f, t) (g, u) = b) :
    Calls Try.prog 20 #[.agg #[.int .i64 f, .int .i64 t], .agg #[.int .i64 g, .int .i64 u]] w fun e w' => e = .returned (.bool b) ∧ Below w.heap.size w w' := by
  subst h; exact within_any f t g u w
/-- a block that begins with two spans. -/
def Two (w : World) (g : Nat) (p q : Sp) : Prop := g < w.heap.size ∧ w.cell? ⟨g, 0, none⟩ = some (.int .i64 p.1) ∧ w.cell? ⟨g, 1, none⟩ = some (.int .i64 p.2) ∧ w.cell? ⟨g, 2, none⟩ = some (.int .i64 q.1) ∧ w.cell? ⟨g, 3, none⟩ = some (.int .i64 q.2)
theorem Two.keep {w w1 : World} {g : Nat} {p q : Sp} (h : Two w g p q) (hb : Below w.heap.size w w1) : Two w1 g p q :=
  ⟨Nat.lt_of_lt_of_le h.1 hb.size, (hb.cell (p := ⟨g, _, none⟩) h.1).trans h.2.1, (hb.cell (p := ⟨g, _, none⟩) h.1).trans h.2.2.1, (hb.cell (p := ⟨g, _, none⟩) h.1).trans h.2.2.2.1, (hb.cell (p := ⟨g, _, none⟩) h.1).trans h.2.2.2.2⟩
theorem Own.two {w : World} {B : Nat} {v : Value} {p q : Sp} (h : Own w B v [p, q]) : ∃ g cap, v = .slice (some ⟨g, 0, none⟩) 2 cap ∧ Two w g p q := by
  obtain ⟨A, cap, rfl, hr⟩ := Own.row h
  rcases h.2 with ⟨h1, h0⟩ | ⟨g, cap', cur, h1, hb, hg, _⟩
  · simp at h0
  · obtain ⟨b, off, rfl, hlt, hc⟩ := hr (by simp)
    injection h1 with h1 _ _
    injection h1 with h1
    injection h1 with h1 h2 _
    subst h1 h2
    have c0 := hc 0 (by simp)
    have c1 := hc 1 (by simp)
    exact ⟨b, cap, rfl, hlt, c0.1, c0.2, c1.1, c1.2⟩

set_option maxRecDepth 100000 in
set_option maxHeartbeats 4000000 in
theorem known_any (w : World) : Calls Try.prog 9 #[] w fun e w' => e = .returned (.bool true) ∧ Below w.heap.size w w' := by
  go_enter Try.func9, Try.ntmps9
  have HB := start w
  go_wp2_with (go_at_call 29; refine (s_any _ _ _).mono ?_; rintro e w1 ⟨rfl, hb1⟩; replace HB := andthen HB hb1; clear hb1)
  refine (minus_any 0 10 3 5 _).mono ?_
  rw [show minus (0, 10) (3, 5) = [(0, 3), (5, 10)] by decide]
  rintro e w1 ⟨v, rfl, hown, hb1⟩
  replace HB := andthen HB hb1
  clear hb1
  obtain ⟨g, cap, rfl, HT⟩ := Own.two hown
  clear hown
  go_wp2_with (go_at_call 29; refine (s_any _ _ _).mono ?_; rintro e w1 ⟨rfl, hb1⟩; replace HB := andthen HB hb1; replace HT := HT.keep hb1; clear hb1)
  replace HB := more HB (.cells #[.int .i64 4, .int .i64 6, .int .i64 0, .int .i64 4, .int .i64 8, .int .i64 9] 23)
  replace HT := HT.keep (more (start _) (.cells #[.int .i64 4, .int .i64 6, .int .i64 0, .int .i64 4, .int .i64 8, .int .i64 9] 23))
  refine (all_any _ _ _ [(4, 6), (0, 4), (8, 9)] _ (row_block (heap_alloc_new _ _) rfl) rfl (by simp)).mono ?_
  rw [show canon [(4, 6), (0, 4), (8, 9)] = [(0, 6), (8, 9)] by decide]
  rintro e w1 ⟨v, rfl, hown, hb1⟩
  replace HB := andthen HB hb1
  replace HT := HT.keep hb1
  clear hb1
  obtain ⟨g2, cap2, rfl, HU⟩ := Own.two hown
  clear hown
  go_wp2_with fail
  obtain ⟨_, l0, l1, l2, l3⟩ := HT
  obtain ⟨_, m0, m1, _, _⟩ := HU
  have f0 := fun d os => cell_regrown l0 d os
  have f1 := fun d os => cell_regrown l1 d os
  have f2 := fun d os => cell_regrown l2 d os
  have f3 := fun d os => cell_regrown l3 d os
  have f4 := fun d os => cell_regrown m0 d os
  have f5 := fun d os => cell_regrown m1 d os
  clear l0 l1 l2 l3 m0 m1
  refine wp_region_quiet_below (by kernel_rfl) (by kernel_rfl) ?_
  repeat (first
    | go_big_quiet_step ((first
      | (go_at_call 29; exact Calls.regrown_of (s_any _ _ _))
      | (go_at_call 10; exact Calls.regrown_of (is_at _ _ true _ (by decide)))
      | (go_at_call 10; exact Calls.regrown_of (is_at _ _ false _ (by decide)))
      | (go_at_call 12; exact Calls.regrown_of (long_is _ _ 3 _ (by decide)))
      | (go_at_call 14; exact Calls.regrown_of (in_is _ _ _ true _ (by decide)))
      | (go_at_call 14; exact Calls.regrown_of (in_is _ _ _ false _ (by decide)))
      | (go_at_call 16; exact Calls.regrown_of (meet_is _ _ _ _ 3 5 _ (by decide)))
      | (go_at_call 18; exact Calls.regrown_of (touch_at _ _ _ _ true _ (by decide)))
      | (go_at_call 20; exact Calls.regrown_of (within_is _ _ _ _ true _ (by decide)))))
    | quiet_step ((first
      | (go_at_call 29; exact Calls.regrown_of (s_any _ _ _))
      | (go_at_call 10; exact Calls.regrown_of (is_at _ _ true _ (by decide)))
      | (go_at_call 10; exact Calls.regrown_of (is_at _ _ false _ (by decide)))
      | (go_at_call 12; exact Calls.regrown_of (long_is _ _ 3 _ (by decide)))
      | (go_at_call 14; exact Calls.regrown_of (in_is _ _ _ true _ (by decide)))
      | (go_at_call 14; exact Calls.regrown_of (in_is _ _ _ false _ (by decide)))
      | (go_at_call 16; exact Calls.regrown_of (meet_is _ _ _ _ 3 5 _ (by decide)))
      | (go_at_call 18; exact Calls.regrown_of (touch_at _ _ _ _ true _ (by decide)))
      | (go_at_call 20; exact Calls.regrown_of (within_is _ _ _ _ true _ (by decide))))))
  refine wpQuiet_nil ?_
  intro _ hw'
  obtain ⟨⟨nq, osq⟩, hw''⟩ := hw'
  subst hw''
  go_wp2_with fail
  go_ret
  exact ⟨rfl, andthen HB (below_regrown _ nq osq)⟩

end Go.Proofs.Ytncciofckfbcaaa

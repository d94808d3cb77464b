/- SpanSides walked, two: one of the two spans is none; every two spans. -/
import Derived.Test.YtncciofckfbcaaaSpSidesR1
import Derived.Test.YtncciofckfbcaaaSpSidesR2
import Derived.Test.YtncciofckfbcaaaSpSidesR3
import Derived.Test.YtncciofckfbcaaaSpSidesR4
import Derived.Test.YtncciofckfbcaaaSpSidesR5
import Derived.Test.YtncciofckfbcaaaSpSidesR6
import Derived.Test.YtncciofckfbcaaaSpSidesR7
namespace Go.Proofs.Ytncciofckfbcaaa
open Go.RowKit Spn Go.Sort

theorem within_zero (b : Sp) : withinB (0, 0) b = true := by
  rw [within_ref]; exact decide_eq_true (Or.inl not_ok0)
set_option maxRecDepth 100000 in
set_option maxHeartbeats 4000000 in
theorem sides_no1 (f t g u : Int) (w : World) (hm : meet (f, t) (g, u) = (0, 0)) (hT : touchB (f, t) (g, u) = false) (h1 : okB (f, t) = false) :
    Calls Try.prog 6 #[.agg #[.int .i64 f, .int .i64 t], .agg #[.int .i64 g, .int .i64 u]] w fun e w' => e = .returned (.bool true) ∧ Below w.heap.size w w' := by
  have HM := hide hm
  have HT := hide hT
  have HT2 := hide (by rw [touch_comm]; exact hT : touchB (g, u) (f, t) = false)
  have HWZ := hide (within_zero (g, u))
  have H1 := hide h1
  clear hm hT h1
  go_enter Try.func6, Try.ntmps6
  go_wp2_with fail
  have HB := boxes_new w f t g u
  refine (known_any _).mono ?_
  rintro e w1 ⟨rfl, hb1⟩
  replace HB := HB.keep hb1
  clear hb1
  obtain ⟨c0, c1, c2, c3, _, _⟩ := id HB
  go_wp2_with fail
  refine (meet_is _ _ _ _ 0 0 _ HM.out).mono ?_
  rintro e w2 ⟨rfl, hb2⟩
  clear c0 c1 c2 c3
  replace HB := HB.keep hb2
  clear hb2
  replace HB := HB.keep (more (start _) (.cells #[.int .i64 0, .int .i64 0] 23))
  go_upto_region 4 with (fail)
  have HX := box_new w2 0 0
  generalize w2.alloc (.cells #[.int .i64 0, .int .i64 0] 23) = W at *
  generalize w2.heap.size = M at *
  have f0 := fun d os => cell_regrown HB.a0 d os
  have f1 := fun d os => cell_regrown HB.a1 d os
  have f2 := fun d os => cell_regrown HB.b0 d os
  have f3 := fun d os => cell_regrown HB.b1 d os
  have f4 := fun d os => cell_regrown HX.c0 d os
  have f5 := fun d os => cell_regrown HX.c1 d os
  refine wp_region_quiet_below (by kernel_rfl) (by kernel_rfl) ?_
  repeat (first
    | go_big_quiet_step ((first
      | (go_at_call 16; exact Calls.regrown_of (meet_is _ _ _ _ 0 0 _ (meet_comm_is HM.out)))
      | (go_at_call 16; exact Calls.regrown_of (meet_is _ _ _ _ 0 0 _ (meet_idem_is HM.out)))
      | (go_at_call 18; exact Calls.regrown_of (touch_at _ _ _ _ false _ HT.out))
      | (go_at_call 18; exact Calls.regrown_of (touch_at _ _ _ _ false _ HT2.out))))
    | quiet_step ((first
      | (go_at_call 16; exact Calls.regrown_of (meet_is _ _ _ _ 0 0 _ (meet_comm_is HM.out)))
      | (go_at_call 16; exact Calls.regrown_of (meet_is _ _ _ _ 0 0 _ (meet_idem_is HM.out)))
      | (go_at_call 18; exact Calls.regrown_of (touch_at _ _ _ _ false _ HT.out))
      | (go_at_call 18; exact Calls.regrown_of (touch_at _ _ _ _ false _ HT2.out)))))
  refine wpQuiet_nil ?_
  intro _ hw'
  obtain ⟨⟨nq, osq⟩, hw''⟩ := hw'
  subst hw''
  clear f0 f1 f2 f3 f4 f5
  have hq := below_regrown W nq osq
  replace HB := HB.keep hq
  replace HX := HX.keep hq
  clear hq
  generalize grow (redrawn W nq) osq = W2 at *
  obtain ⟨c0, c1, c2, c3, _, _⟩ := id HB
  go_wp2_with fail
  refine (is_at _ _ false _ H1.out).mono ?_
  rintro e w3 ⟨rfl, hb3⟩
  clear c0 c1 c2 c3
  replace HB := HB.keep hb3
  replace HX := HX.keep hb3
  clear hb3
  obtain ⟨c0, c1, c2, c3, _, _⟩ := id HB
  obtain ⟨d0, d1, _⟩ := id HX
  go_wp2_with fail
  refine (touch_at _ _ _ _ false _ HT.out).mono ?_
  rintro e wT ⟨rfl, hbT⟩
  clear c0 c1 c2 c3 d0 d1
  replace HB := HB.keep hbT
  clear hbT
  obtain ⟨c0, c1, c2, c3, _, _⟩ := id HB
  go_wp2_with fail
  refine (within_is _ _ _ _ true _ HWZ.out).mono ?_
  rintro e wU ⟨rfl, hbU⟩
  go_wp2_with fail
  go_ret
  exact ⟨rfl, andthen HB.below hbU⟩

set_option maxRecDepth 100000 in
set_option maxHeartbeats 4000000 in
theorem sides_no2 (f t g u : Int) (w : World) (hm : meet (f, t) (g, u) = (0, 0)) (hT : touchB (f, t) (g, u) = false) (h1 : okB (f, t) = true) (h2 : okB (g, u) = false) :
    Calls Try.prog 6 #[.agg #[.int .i64 f, .int .i64 t], .agg #[.int .i64 g, .int .i64 u]] w fun e w' => e = .returned (.bool true) ∧ Below w.heap.size w w' := by
  have HM := hide hm
  have HT := hide hT
  have HT2 := hide (by rw [touch_comm]; exact hT : touchB (g, u) (f, t) = false)
  have HWZ := hide (within_zero (g, u))
  have H1 := hide h1
  have H2 := hide h2
  clear hm hT h1 h2
  go_enter Try.func6, Try.ntmps6
  go_wp2_with fail
  have HB := boxes_new w f t g u
  refine (known_any _).mono ?_
  rintro e w1 ⟨rfl, hb1⟩
  replace HB := HB.keep hb1
  clear hb1
  obtain ⟨c0, c1, c2, c3, _, _⟩ := id HB
  go_wp2_with fail
  refine (meet_is _ _ _ _ 0 0 _ HM.out).mono ?_
  rintro e w2 ⟨rfl, hb2⟩
  clear c0 c1 c2 c3
  replace HB := HB.keep hb2
  clear hb2
  replace HB := HB.keep (more (start _) (.cells #[.int .i64 0, .int .i64 0] 23))
  go_upto_region 4 with (fail)
  have HX := box_new w2 0 0
  generalize w2.alloc (.cells #[.int .i64 0, .int .i64 0] 23) = W at *
  generalize w2.heap.size = M at *
  have f0 := fun d os => cell_regrown HB.a0 d os
  have f1 := fun d os => cell_regrown HB.a1 d os
  have f2 := fun d os => cell_regrown HB.b0 d os
  have f3 := fun d os => cell_regrown HB.b1 d os
  have f4 := fun d os => cell_regrown HX.c0 d os
  have f5 := fun d os => cell_regrown HX.c1 d os
  refine wp_region_quiet_below (by kernel_rfl) (by kernel_rfl) ?_
  repeat (first
    | go_big_quiet_step ((first
      | (go_at_call 16; exact Calls.regrown_of (meet_is _ _ _ _ 0 0 _ (meet_comm_is HM.out)))
      | (go_at_call 16; exact Calls.regrown_of (meet_is _ _ _ _ 0 0 _ (meet_idem_is HM.out)))
      | (go_at_call 18; exact Calls.regrown_of (touch_at _ _ _ _ false _ HT.out))
      | (go_at_call 18; exact Calls.regrown_of (touch_at _ _ _ _ false _ HT2.out))))
    | quiet_step ((first
      | (go_at_call 16; exact Calls.regrown_of (meet_is _ _ _ _ 0 0 _ (meet_comm_is HM.out)))
      | (go_at_call 16; exact Calls.regrown_of (meet_is _ _ _ _ 0 0 _ (meet_idem_is HM.out)))
      | (go_at_call 18; exact Calls.regrown_of (touch_at _ _ _ _ false _ HT.out))
      | (go_at_call 18; exact Calls.regrown_of (touch_at _ _ _ _ false _ HT2.out)))))
  refine wpQuiet_nil ?_
  intro _ hw'
  obtain ⟨⟨nq, osq⟩, hw''⟩ := hw'
  subst hw''
  clear f0 f1 f2 f3 f4 f5
  have hq := below_regrown W nq osq
  replace HB := HB.keep hq
  replace HX := HX.keep hq
  clear hq
  generalize grow (redrawn W nq) osq = W2 at *
  obtain ⟨c0, c1, c2, c3, _, _⟩ := id HB
  go_wp2_with fail
  refine (is_at _ _ true _ H1.out).mono ?_
  rintro e w3 ⟨rfl, hb3⟩
  clear c0 c1 c2 c3
  replace HB := HB.keep hb3
  replace HX := HX.keep hb3
  clear hb3
  obtain ⟨c0, c1, c2, c3, _, _⟩ := id HB
  go_wp2_with fail
  refine (is_at _ _ false _ H2.out).mono ?_
  rintro e w4 ⟨rfl, hb4⟩
  clear c0 c1 c2 c3
  replace HB := HB.keep hb4
  replace HX := HX.keep hb4
  clear hb4
  obtain ⟨c0, c1, c2, c3, _, _⟩ := id HB
  obtain ⟨d0, d1, _⟩ := id HX
  go_wp2_with fail
  refine (touch_at _ _ _ _ false _ HT.out).mono ?_
  rintro e wT ⟨rfl, hbT⟩
  clear c0 c1 c2 c3 d0 d1
  replace HB := HB.keep hbT
  clear hbT
  obtain ⟨c0, c1, c2, c3, _, _⟩ := id HB
  go_wp2_with fail
  refine (within_is _ _ _ _ true _ HWZ.out).mono ?_
  rintro e wU ⟨rfl, hbU⟩
  go_wp2_with fail
  go_ret
  exact ⟨rfl, andthen HB.below hbU⟩

theorem sides_any (f t g u : Int) (w : World) :
    Calls Try.prog 6 #[.agg #[.int .i64 f, .int .i64 t], .agg #[.int .i64 g, .int .i64 u]] w fun e w' => e = .returned (.bool true) ∧ Below w.heap.size w w' := by
  cases h1 : okB (f, t)
  · exact sides_no1 f t g u w (meet_no1 _ _ h1) (tch_no1 f t g u h1) h1
  · cases h2 : okB (g, u)
    · exact sides_no2 f t g u w (meet_no2 _ _ h2) (tch_no2 f t g u h2) h1 h2
    · have ka := (okB_iff _).1 h1
      have kb := (okB_iff _).1 h2
      have hw := within_meet (f, t) (g, u) ka kb
      have ht := touch_canon (f, t) (g, u) ka kb
      have hmt := meet_touch (f, t) (g, u)
      have hct := canon_two (f, t) (g, u) ka kb
      obtain ⟨x, y, hm⟩ : ∃ x y, meet (f, t) (g, u) = (x, y) := ⟨_, _, rfl⟩
      have hw2 : withinB (f, t) (g, u) = ((x == f) && (y == t)) := by
        rw [hw, hm, Bool.eq_iff_iff, Bool.and_eq_true, beq_iff_eq, beq_iff_eq, decide_eq_true_eq]
        exact ⟨fun h => ⟨congrArg Prod.fst h, congrArg Prod.snd h⟩, fun h => Prod.ext h.1 h.2⟩
      have hO : okB (x, y) = true → touchB (f, t) (g, u) = true := fun h => hmt (by rw [hm]; exact (okB_iff _).1 h)
      have hL1 : touchB (f, t) (g, u) = true → (canon [(f, t), (g, u)]).length = 1 := fun h => by rw [hct, if_pos (of_decide_eq_true h)]; rfl
      have hL2 : touchB (f, t) (g, u) = false → (canon [(f, t), (g, u)]).length = 2 := fun h => by
        rw [hct, if_neg (of_decide_eq_false h)]
        split <;> rfl
      cases e1 : (x == f)
      · have hw3 : withinB (f, t) (g, u) = false := by rw [hw2, e1]; rfl
        cases e3 : okB (x, y)
        · cases e4 : touchB (f, t) (g, u)
          · exact sides_c4 f t g u x y w hm h1 h2 e3 e1 e4 hw3 (hL2 e4)
          · exact sides_c3 f t g u x y w hm h1 h2 e3 e1 e4 hw3 (hL1 e4)
        · exact sides_c2 f t g u x y w hm h1 h2 e3 e1 (hO e3) hw3 (hL1 (hO e3))
      · cases e2 : (y == t)
        · have hw3 : withinB (f, t) (g, u) = false := by rw [hw2, e1, e2]; rfl
          cases e3 : okB (x, y)
          · cases e4 : touchB (f, t) (g, u)
            · exact sides_c7 f t g u x y w hm h1 h2 e3 e1 e2 e4 hw3 (hL2 e4)
            · exact sides_c6 f t g u x y w hm h1 h2 e3 e1 e2 e4 hw3 (hL1 e4)
          · exact sides_c5 f t g u x y w hm h1 h2 e3 e1 e2 (hO e3) hw3 (hL1 (hO e3))
        · have hw3 : withinB (f, t) (g, u) = true := by rw [hw2, e1, e2]; rfl
          have q1 : x = f := by simpa using e1
          have q2 : y = t := by simpa using e2
          have e3 : okB (x, y) = true := by rw [q1, q2]; exact h1
          exact sides_c1 f t g u x y w hm h1 h2 e3 e1 e2 (hO e3) hw3 (hL1 (hO e3))

end Go.Proofs.Ytncciofckfbcaaa

/- RuR; RuS of the recipes, what is needed of them. -/
import Derived.Test.YtlmdceeeahnkcaaGreatDoorBW5
namespace Go.Proofs.YtlmdceeeahnkcaaGreatDoor.R
open Go.RowKit Rul Go.Sort

set_option maxHeartbeats 400000 in
theorem once_any (w : World) :
    Calls Tryz.prog 67 #[] w (Ans w (.agg #[.int .i64 0, .int .i64 0, .int .i64 0, .int .i64 (-1), .slice none 0 0, .slice none 0 0, .slice none 0 0])) := by
  go_enter Tryz.func67, Tryz.ntmps67
  go_wp2_with fail
  exact bodyPost_ret (v := .agg #[.int .i64 0, .int .i64 0, .int .i64 0, .int .i64 (-1), .slice none 0 0, .slice none 0 0, .slice none 0 0]) (by simp [results, Tryz.results67, go_sem]) rfl ⟨rfl, more (start _) _⟩

theorem wdLt_lt (a b : Wd) (h : decide (a.1 < b.1) = true) : wdLt a b = true := by unfold wdLt; rw [decide_eq_true_eq] at *; exact Or.inl h
theorem wdLt_ne (a b : Wd) (h : decide (a.1 < b.1) = false) (h2 : (a.1 == b.1) = false) : wdLt a b = false := by
  unfold wdLt; rw [decide_eq_false_iff_not] at *; rw [beq_eq_false_iff_ne] at h2; intro hc; rcases hc with g | g
  · exact h g
  · exact h2 g.1
theorem wdLt_eq (a b : Wd) (_h : decide (a.1 < b.1) = false) (h2 : (a.1 == b.1) = true) : wdLt a b = decide (a.2 < b.2) := by
  unfold wdLt; rw [beq_iff_eq] at h2; simp [h2]
set_option maxHeartbeats 400000 in
theorem less_any (x y u v : Int) (w : World) :
    Calls Tryz.prog 95 #[.agg #[.int .i64 x, .int .i64 y], .agg #[.int .i64 u, .int .i64 v]] w (Ans w (.bool (wdLt (x, y) (u, v)))) := by
  cases h1 : decide (x < u)
  · cases h2 : (x == u)
    · have e := hide (wdLt_ne (x, y) (u, v) h1 h2)
      go_enter Tryz.func95, Tryz.ntmps95
      go_wp2_with fail
      go_ret
      exact ⟨ret_bool (by rw [e.out]), more (more (start _) _) _⟩
    · have e := hide (wdLt_eq (x, y) (u, v) h1 h2)
      go_enter Tryz.func95, Tryz.ntmps95
      go_wp2_with fail
      go_ret
      exact ⟨ret_bool (by rw [e.out]), more (more (start _) _) _⟩
  · have e := hide (wdLt_lt (x, y) (u, v) h1)
    go_enter Tryz.func95, Tryz.ntmps95
    go_wp2_with fail
    go_ret
    exact ⟨ret_bool (by rw [e.out]), more (more (start _) _) _⟩

/-- what the reference asks of a number, of a weekday. -/
def numOk (lo hi n : Int) : Bool := btw lo n hi && (n != 0)
def dayOk (b : Bool) (w : Wd) : Bool := wdOk w && (b || decide (w.1 = 0))
theorem numOk_lo (lo hi n : Int) (h : decide (n < lo) = true) : numOk lo hi n = false := by unfold numOk; rw [(btw_not lo n hi).2 (by rw [decide_eq_true_eq] at h; omega)]; rfl
theorem numOk_hi (lo hi n : Int) (h : decide (hi < n) = true) : numOk lo hi n = false := by unfold numOk; rw [(btw_not lo n hi).2 (by rw [decide_eq_true_eq] at h; omega)]; rfl
theorem numOk_0 (lo hi n : Int) (h : (n == 0) = true) : numOk lo hi n = false := by unfold numOk; rw [bne, h, Bool.not_true, Bool.and_false]
theorem numOk_ok (lo hi n : Int) (h1 : decide (n < lo) = false) (h2 : decide (hi < n) = false) (h3 : (n == 0) = false) : numOk lo hi n = true := by
  unfold numOk; rw [bne, h3, (btw_iff lo n hi).2 (by rw [decide_eq_false_iff_not] at h1 h2; omega)]; rfl
theorem listB_end {α : Type} (p : α → Bool) (lt : α → α → Bool) (d : α) (l : List α) (h : ∀ i, i < l.length → stepB p lt d l i = true) : listB p lt d l = decide (l.length ≤ 12) := by
  unfold listB; rw [(ascB_iff p lt d l).2 h, Bool.and_true]

set_option maxRecDepth 100000 in
set_option maxHeartbeats 2000000 in
theorem rising_any (A : Option Addr) (n c : Nat) (l : List Int) (lo hi : Int) (w : World) (hl : RowI w A l) (hn : n = l.length) (hsz : l.length ≤ 10000) :
    Calls Tryz.prog 69 #[.slice A n c, .int .i64 lo, .int .i64 hi] w (Ans w (.bool (risB l lo hi))) := by
  subst hn
  by_cases hnil : l = []
  · subst hnil
    go_enter Tryz.func69, Tryz.ntmps69
    go_wp2_with fail
    refine wp_loop_rounds 1 ?_
    rw [rounds_succ]
    go_wp2_with fail
    go_ret
    exact ⟨rfl, start _⟩
  · obtain ⟨b1, o1, rfl, hb1, hc1⟩ := hl hnil
    have HC1 := hide hc1
    clear hl hc1 hnil
    go_enter Tryz.func69, Tryz.ntmps69
    go_wp2_with fail
    go_loopw [7] (fun i wr => ∃ j : Nat, j ≤ l.length ∧ i = .int .i64 j ∧ (∀ i, i < j → stepB (numOk lo hi) inLt 0 l i = true) ∧ Below w.heap.size w wr) (fun i _ => l.length - (intOf i).toNat)
    case atStart => exact ⟨0, Nat.zero_le _, rfl, fun i h => absurd h (Nat.not_lt_zero _), start _⟩
    case round =>
      obtain ⟨j, hj, rfl, heq, hbw⟩ := hrel
      have HE := hide heq
      clear heq
      by_cases hlt : j < l.length
      · have p1 : wr.cell? ⟨b1, o1 + j, none⟩ = some (.int .i64 l[j]) := (hbw.cell (p := ⟨b1, _, none⟩) hb1).trans (HC1.out j hlt)
        have hi0 : (0 : Int) ≤ (j : Int) := by omega
        have hi1 : (j : Int) < (l.length : Int) := by omega
        cases k1 : decide (l[j] < lo)
        · cases k2 : decide (hi < l[j])
          · cases k3 : (l[j] == 0)
            · have hq := numOk_ok lo hi l[j] k1 k2 k3
              rcases Nat.eq_zero_or_pos j with hz | hz
              · subst hz
                replace p1 : wr.cell? ⟨b1, o1, none⟩ = some (.int .i64 l[0]) := p1
                have HN := hide (all_step (numOk lo hi) inLt 0 l 0 HE.out (by rw [stepB_0 _ _ _ _ hlt]; exact hq))
                have g1 : decide ((0 : Int) < ((0 : Nat) : Int)) = false := rfl
                have g0 : ¬ (0 : Int) < ((0 : Nat) : Int) := by omega
                clear hq
                go_wp2_with fail
                go_quiet (fail)
                go_wp2_with fail
                go_roundw
                case rel => exact ⟨1, by omega, by go_num, HN.out, below_drawn hbw _⟩
                case measure => simp [intOf]; omega
              · obtain ⟨m, rfl⟩ : ∃ m, j = m + 1 := ⟨j - 1, by omega⟩
                have hlm : m < l.length := Nat.lt_of_succ_lt hlt
                have p0 : wr.cell? ⟨b1, o1 + m, none⟩ = some (.int .i64 l[m]) := (hbw.cell (p := ⟨b1, _, none⟩) hb1).trans (HC1.out m hlm)
                have g0 : (0 : Int) < ((m + 1 : Nat) : Int) := by omega
                have g1 : decide ((0 : Int) < ((m + 1 : Nat) : Int)) = true := decide_eq_true g0
                have g2 : ((m + 1 : Nat) : Int) - 1 = (m : Int) := by omega
                have g3 : (0 : Int) ≤ (m : Int) := by omega
                have g4 : (m : Int) < (l.length : Int) := by omega
                have hs := stepB_succ (numOk lo hi) inLt 0 l m hlt
                rw [hq, Bool.true_and] at hs
                have hin : decide (l[m + 1] ≤ l[m]) = !inLt l[m] l[m + 1] := by
                  unfold inLt
                  by_cases h : l[m] < l[m + 1]
                  · rw [decide_eq_true h, decide_eq_false (by omega)]; rfl
                  · rw [decide_eq_false h, decide_eq_true (by omega)]; rfl
                clear hq
                cases hc : inLt l[m] l[m + 1]
                · rw [hc] at hs hin
                  replace hin : decide (l[m + 1] ≤ l[m]) = true := hin
                  have HN := hide (show risB l lo hi = false from listB_no (numOk lo hi) inLt 0 l (m + 1) hlt hs)
                  go_wp2_with fail
                  go_quiet (fail)
                  go_wp2_with fail
                  go_ret
                  exact ⟨ret_bool (by rw [HN.out]), below_drawn hbw _⟩
                · rw [hc] at hs hin
                  replace hin : decide (l[m + 1] ≤ l[m]) = false := hin
                  have HN := hide (all_step (numOk lo hi) inLt 0 l (m + 1) HE.out hs)
                  clear hs hc
                  go_wp2_with fail
                  go_quiet (fail)
                  go_wp2_with fail
                  go_roundw
                  case rel => exact ⟨m + 1 + 1, by omega, by go_num, HN.out, below_drawn hbw _⟩
                  case measure => simp [intOf]; omega
            · have HN := hide (show risB l lo hi = false from listB_no (numOk lo hi) inLt 0 l j hlt (stepB_p _ _ _ _ _ hlt (numOk_0 lo hi l[j] k3)))
              go_wp2_with fail
              go_quiet (fail)
              go_wp2_with fail
              go_ret
              exact ⟨ret_bool (by rw [HN.out]), below_drawn hbw _⟩
          · have HN := hide (show risB l lo hi = false from listB_no (numOk lo hi) inLt 0 l j hlt (stepB_p _ _ _ _ _ hlt (numOk_hi lo hi l[j] k2)))
            go_wp2_with fail
            go_quiet (fail)
            go_wp2_with fail
            go_ret
            exact ⟨ret_bool (by rw [HN.out]), below_drawn hbw _⟩
        · have HN := hide (show risB l lo hi = false from listB_no (numOk lo hi) inLt 0 l j hlt (stepB_p _ _ _ _ _ hlt (numOk_lo lo hi l[j] k1)))
          go_wp2_with fail
          go_quiet (fail)
          go_wp2_with fail
          go_ret
          exact ⟨ret_bool (by rw [HN.out]), below_drawn hbw _⟩
      · obtain rfl : j = l.length := by omega
        have HF := hide (show risB l lo hi = decide (l.length ≤ 12) from listB_end (numOk lo hi) inLt 0 l HE.out)
        have hcast : decide ((l.length : Int) ≤ 12) = decide (l.length ≤ 12) := by
          by_cases h : l.length ≤ 12
          · rw [decide_eq_true h, decide_eq_true (by omega)]
          · rw [decide_eq_false h, decide_eq_false (by omega)]
        have HX := hide hcast
        clear hcast
        go_wp2_with fail
        go_ret
        exact ⟨ret_bool (by rw [HF.out]; try exact HX.out), hbw⟩

end Go.Proofs.YtlmdceeeahnkcaaGreatDoor.R
namespace Go.Proofs.YtlmdceeeahnkcaaGreatDoor.R
open Go.RowKit Rul Go.Sort

theorem dayOk_1 (b : Bool) (w : Wd) (h : decide (w.2 < 0) = true) : dayOk b w = false := by
  unfold dayOk wdOk; rw [(btw_not 0 w.2 6).2 (by rw [decide_eq_true_eq] at h; omega), Bool.and_false]; rfl
theorem dayOk_2 (b : Bool) (w : Wd) (h : decide (6 < w.2) = true) : dayOk b w = false := by
  unfold dayOk wdOk; rw [(btw_not 0 w.2 6).2 (by rw [decide_eq_true_eq] at h; omega), Bool.and_false]; rfl
theorem dayOk_3 (b : Bool) (w : Wd) (h : decide (w.1 < -5) = true) : dayOk b w = false := by
  unfold dayOk wdOk; rw [(btw_not (-5) w.1 5).2 (by rw [decide_eq_true_eq] at h; omega)]; rfl
theorem dayOk_4 (b : Bool) (w : Wd) (h : decide (5 < w.1) = true) : dayOk b w = false := by
  unfold dayOk wdOk; rw [(btw_not (-5) w.1 5).2 (by rw [decide_eq_true_eq] at h; omega)]; rfl
theorem dayOk_5 (w : Wd) (h : (w.1 != 0) = true) : dayOk false w = false := by
  unfold dayOk; rw [bne_iff_ne] at h; rw [decide_eq_false h]; simp
theorem dayOk_in (w : Wd) (h1 : decide (w.2 < 0) = false) (h2 : decide (6 < w.2) = false) (h3 : decide (w.1 < -5) = false) (h4 : decide (5 < w.1) = false) : wdOk w = true := by
  rw [decide_eq_false_iff_not] at *
  unfold wdOk; rw [(btw_iff _ _ _).2 (by omega), (btw_iff _ _ _).2 (by omega)]; rfl
theorem dayOk_6 (b : Bool) (w : Wd) (h1 : decide (w.2 < 0) = false) (h2 : decide (6 < w.2) = false) (h3 : decide (w.1 < -5) = false) (h4 : decide (5 < w.1) = false) (h5 : (w.1 != 0) = false) : dayOk b w = true := by
  unfold dayOk; rw [dayOk_in w h1 h2 h3 h4, decide_eq_true (by simpa using h5)]; simp
theorem dayOk_7 (w : Wd) (h1 : decide (w.2 < 0) = false) (h2 : decide (6 < w.2) = false) (h3 : decide (w.1 < -5) = false) (h4 : decide (5 < w.1) = false) : dayOk true w = true := by
  unfold dayOk; rw [dayOk_in w h1 h2 h3 h4]; rfl
theorem less_is (a b : Wd) (c : Bool) (w : World) (h : wdLt a b = c) :
    Calls Tryz.prog 95 #[.agg #[.int .i64 a.1, .int .i64 a.2], .agg #[.int .i64 b.1, .int .i64 b.2]] w (Ans w (.bool c)) := by subst h; exact less_any _ _ _ _ w

set_option maxRecDepth 100000 in
set_option maxHeartbeats 4000000 in
theorem byDay_any (A : Option Addr) (n c : Nat) (l : List Wd) (b : Bool) (w : World) (hl : RowD w A l) (hn : n = l.length) (hsz : l.length ≤ 10000) :
    Calls Tryz.prog 68 #[.slice A n c, .bool b] w (Ans w (.bool (byDayB l b))) := by
  subst hn
  by_cases hnil : l = []
  · subst hnil
    go_enter Tryz.func68, Tryz.ntmps68
    go_wp2_with fail
    refine wp_loop_rounds 1 ?_
    rw [rounds_succ]
    go_wp2_with fail
    go_ret
    exact ⟨rfl, start _⟩
  · obtain ⟨b1, o1, rfl, hb1, hc1⟩ := hl hnil
    have HC1 := hide hc1
    clear hl hc1 hnil
    go_enter Tryz.func68, Tryz.ntmps68
    go_wp2_with fail
    go_loopw [5] (fun i wr => ∃ j : Nat, j ≤ l.length ∧ i = .int .i64 j ∧ (∀ i, i < j → stepB (dayOk b) wdLt (0, 0) l i = true) ∧ Below w.heap.size w wr) (fun i _ => l.length - (intOf i).toNat)
    case atStart => exact ⟨0, Nat.zero_le _, rfl, fun i h => absurd h (Nat.not_lt_zero _), start _⟩
    case round =>
      obtain ⟨j, hj, rfl, heq, hbw⟩ := hrel
      have HE := hide heq
      clear heq
      by_cases hlt : j < l.length
      · have p1 : wr.cell? ⟨b1, o1 + j * 2, none⟩ = some (.int .i64 l[j].1) := (hbw.cell (p := ⟨b1, _, none⟩) hb1).trans (HC1.out j hlt).1
        have p1' : wr.cell? ⟨b1, o1 + j * 2 + 1, none⟩ = some (.int .i64 l[j].2) := (hbw.cell (p := ⟨b1, _, none⟩) hb1).trans (HC1.out j hlt).2
        have hi0 : (0 : Int) ≤ (j : Int) := by omega
        have hi1 : (j : Int) < (l.length : Int) := by omega
        cases k1 : decide (l[j].2 < 0)
        · cases k2 : decide (6 < l[j].2)
          · cases k3 : decide (l[j].1 < -5)
            · cases k4 : decide (5 < l[j].1)
              · cases k5 : (l[j].1 != 0)
                · have hq := dayOk_6 b l[j] k1 k2 k3 k4 k5
                  rcases Nat.eq_zero_or_pos j with hz | hz
                  · subst hz
                    replace p1 : wr.cell? ⟨b1, o1, none⟩ = some (.int .i64 l[0].1) := by simpa using p1
                    replace p1' : wr.cell? ⟨b1, o1 + 1, none⟩ = some (.int .i64 l[0].2) := by simpa using p1'
                    have HN := hide (all_step (dayOk b) wdLt (0, 0) l 0 HE.out (by rw [stepB_0 _ _ _ _ hlt]; exact hq))
                    have g1 : decide ((0 : Int) < ((0 : Nat) : Int)) = false := rfl
                    have g0 : ¬ (0 : Int) < ((0 : Nat) : Int) := by omega
                    clear hq
                    go_wp2_with fail
                    have hbx := more hbw (.cells #[.int .i64 l[0].1, .int .i64 l[0].2] 108)
                    have x0 : (wr.alloc (.cells #[.int .i64 l[0].1, .int .i64 l[0].2] 108)).cell? ⟨wr.heap.size, 0, none⟩ = some (.int .i64 l[0].1) := by rw [World.cell?_alloc_at _ _ _ _ rfl]; rfl
                    have x1 : (wr.alloc (.cells #[.int .i64 l[0].1, .int .i64 l[0].2] 108)).cell? ⟨wr.heap.size, 1, none⟩ = some (.int .i64 l[0].2) := by rw [World.cell?_alloc_at _ _ _ _ rfl]; rfl
                    generalize wr.alloc (.cells #[.int .i64 l[0].1, .int .i64 l[0].2] 108) = W at *
                    generalize wr.heap.size = X at *
                    have f0 := fun d os => cell_regrown x0 d os
                    have f1 := fun d os => cell_regrown x1 d os
                    clear x0 x1 p1 p1'
                    refine wp_region_quiet_below (by kernel_rfl) (by kernel_rfl) ?_
                    repeat (first | go_big_quiet_step ((first | (fail))) | quiet_step ((first | (fail))))
                    refine wpQuiet_nil ?_
                    intro _ hw'
                    obtain ⟨⟨nq, osq⟩, hw''⟩ := hw'
                    subst hw''
                    replace hbw := hbx.trans ((below_regrown W nq osq).mono hbx.size)
                    clear hbx
                    generalize grow (redrawn W nq) osq = W2 at *
                    go_wp2_with fail
                    go_roundw
                    case rel => exact ⟨1, by omega, by go_num, HN.out, hbw⟩
                    case measure => simp [intOf]; omega
                  · obtain ⟨m, rfl⟩ : ∃ m, j = m + 1 := ⟨j - 1, by omega⟩
                    have hlm : m < l.length := Nat.lt_of_succ_lt hlt
                    have p0 : wr.cell? ⟨b1, o1 + m * 2, none⟩ = some (.int .i64 l[m].1) := (hbw.cell (p := ⟨b1, _, none⟩) hb1).trans (HC1.out m hlm).1
                    have p0' : wr.cell? ⟨b1, o1 + m * 2 + 1, none⟩ = some (.int .i64 l[m].2) := (hbw.cell (p := ⟨b1, _, none⟩) hb1).trans (HC1.out m hlm).2
                    have g0 : (0 : Int) < ((m + 1 : Nat) : Int) := by omega
                    have g1 : decide ((0 : Int) < ((m + 1 : Nat) : Int)) = true := decide_eq_true g0
                    have g2 : ((m + 1 : Nat) : Int) - 1 = (m : Int) := by omega
                    have g3 : (0 : Int) ≤ (m : Int) := by omega
                    have g4 : (m : Int) < (l.length : Int) := by omega
                    have hs := stepB_succ (dayOk b) wdLt (0, 0) l m hlt
                    rw [hq, Bool.true_and] at hs
                    clear hq
                    cases hc : wdLt l[m] l[m + 1]
                    · rw [hc] at hs
                      have HV := hide hc
                      have HN := hide (show byDayB l b = false from listB_no (dayOk b) wdLt (0, 0) l (m + 1) hlt hs)
                      clear hs hc
                      go_wp2_with fail
                      have hbx := more hbw (.cells #[.int .i64 l[m + 1].1, .int .i64 l[m + 1].2] 108)
                      have x0 : (wr.alloc (.cells #[.int .i64 l[m + 1].1, .int .i64 l[m + 1].2] 108)).cell? ⟨wr.heap.size, 0, none⟩ = some (.int .i64 l[m + 1].1) := by rw [World.cell?_alloc_at _ _ _ _ rfl]; rfl
                      have x1 : (wr.alloc (.cells #[.int .i64 l[m + 1].1, .int .i64 l[m + 1].2] 108)).cell? ⟨wr.heap.size, 1, none⟩ = some (.int .i64 l[m + 1].2) := by rw [World.cell?_alloc_at _ _ _ _ rfl]; rfl
                      have q0 := cell_keep (more (start wr) (.cells #[.int .i64 l[m + 1].1, .int .i64 l[m + 1].2] 108)) p0
                      have q0' := cell_keep (more (start wr) (.cells #[.int .i64 l[m + 1].1, .int .i64 l[m + 1].2] 108)) p0'
                      generalize wr.alloc (.cells #[.int .i64 l[m + 1].1, .int .i64 l[m + 1].2] 108) = W at *
                      generalize wr.heap.size = X at *
                      have f0 := fun d os => cell_regrown x0 d os
                      have f1 := fun d os => cell_regrown x1 d os
                      have f2 := fun d os => cell_regrown q0 d os
                      have f3 := fun d os => cell_regrown q0' d os
                      clear x0 x1 p1 p1' q0 q0' p0 p0'
                      refine wp_region_quiet_below (by kernel_rfl) (by kernel_rfl) ?_
                      repeat (first | go_big_quiet_step ((first | (go_at_call 95; exact Calls.regrown_of (less_is l[m] l[m + 1] _ _ HV.out)))) | quiet_step ((first | (go_at_call 95; exact Calls.regrown_of (less_is l[m] l[m + 1] _ _ HV.out)))))
                      refine wpQuiet_nil ?_
                      intro _ hw'
                      obtain ⟨⟨nq, osq⟩, hw''⟩ := hw'
                      subst hw''
                      replace hbw := hbx.trans ((below_regrown W nq osq).mono hbx.size)
                      clear hbx
                      generalize grow (redrawn W nq) osq = W2 at *
                      go_wp2_with fail
                      go_ret
                      exact ⟨ret_bool (by rw [HN.out]), hbw⟩
                    · rw [hc] at hs
                      have HV := hide hc
                      have HN := hide (all_step (dayOk b) wdLt (0, 0) l (m + 1) HE.out hs)
                      clear hs hc
                      go_wp2_with fail
                      have hbx := more hbw (.cells #[.int .i64 l[m + 1].1, .int .i64 l[m + 1].2] 108)
                      have x0 : (wr.alloc (.cells #[.int .i64 l[m + 1].1, .int .i64 l[m + 1].2] 108)).cell? ⟨wr.heap.size, 0, none⟩ = some (.int .i64 l[m + 1].1) := by rw [World.cell?_alloc_at _ _ _ _ rfl]; rfl
                      have x1 : (wr.alloc (.cells #[.int .i64 l[m + 1].1, .int .i64 l[m + 1].2] 108)).cell? ⟨wr.heap.size, 1, none⟩ = some (.int .i64 l[m + 1].2) := by rw [World.cell?_alloc_at _ _ _ _ rfl]; rfl
                      have q0 := cell_keep (more (start wr) (.cells #[.int .i64 l[m + 1].1, .int .i64 l[m + 1].2] 108)) p0
                      have q0' := cell_keep (more (start wr) (.cells #[.int .i64 l[m + 1].1, .int .i64 l[m + 1].2] 108)) p0'
                      generalize wr.alloc (.cells #[.int .i64 l[m + 1].1, .int .i64 l[m + 1].2] 108) = W at *
                      generalize wr.heap.size = X at *
                      have f0 := fun d os => cell_regrown x0 d os
                      have f1 := fun d os => cell_regrown x1 d os
                      have f2 := fun d os => cell_regrown q0 d os
                      have f3 := fun d os => cell_regrown q0' d os
                      clear x0 x1 p1 p1' q0 q0' p0 p0'
                      refine wp_region_quiet_below (by kernel_rfl) (by kernel_rfl) ?_
                      repeat (first | go_big_quiet_step ((first | (go_at_call 95; exact Calls.regrown_of (less_is l[m] l[m + 1] _ _ HV.out)))) | quiet_step ((first | (go_at_call 95; exact Calls.regrown_of (less_is l[m] l[m + 1] _ _ HV.out)))))
                      refine wpQuiet_nil ?_
                      intro _ hw'
                      obtain ⟨⟨nq, osq⟩, hw''⟩ := hw'
                      subst hw''
                      replace hbw := hbx.trans ((below_regrown W nq osq).mono hbx.size)
                      clear hbx
                      generalize grow (redrawn W nq) osq = W2 at *
                      go_wp2_with fail
                      go_roundw
                      case rel => exact ⟨m + 1 + 1, by omega, by go_num, HN.out, hbw⟩
                      case measure => simp [intOf]; omega
                · cases b
                  · have HN := hide (show byDayB l false = false from listB_no (dayOk false) wdLt (0, 0) l j hlt (stepB_p _ _ _ _ _ hlt (dayOk_5 l[j] k5)))
                    go_wp2_with fail
                    have hbx := more hbw (.cells #[.int .i64 l[j].1, .int .i64 l[j].2] 108)
                    have x0 : (wr.alloc (.cells #[.int .i64 l[j].1, .int .i64 l[j].2] 108)).cell? ⟨wr.heap.size, 0, none⟩ = some (.int .i64 l[j].1) := by rw [World.cell?_alloc_at _ _ _ _ rfl]; rfl
                    have x1 : (wr.alloc (.cells #[.int .i64 l[j].1, .int .i64 l[j].2] 108)).cell? ⟨wr.heap.size, 1, none⟩ = some (.int .i64 l[j].2) := by rw [World.cell?_alloc_at _ _ _ _ rfl]; rfl
                    generalize wr.alloc (.cells #[.int .i64 l[j].1, .int .i64 l[j].2] 108) = W at *
                    generalize wr.heap.size = X at *
                    have f0 := fun d os => cell_regrown x0 d os
                    have f1 := fun d os => cell_regrown x1 d os
                    clear x0 x1 p1 p1'
                    refine wp_region_quiet_below (by kernel_rfl) (by kernel_rfl) ?_
                    repeat (first | go_big_quiet_step ((first | (fail))) | quiet_step ((first | (fail))))
                    refine wpQuiet_nil ?_
                    intro _ hw'
                    obtain ⟨⟨nq, osq⟩, hw''⟩ := hw'
                    subst hw''
                    replace hbw := hbx.trans ((below_regrown W nq osq).mono hbx.size)
                    clear hbx
                    generalize grow (redrawn W nq) osq = W2 at *
                    go_wp2_with fail
                    go_ret
                    exact ⟨ret_bool (by rw [HN.out]), hbw⟩
                  · have hq := dayOk_7 l[j] k1 k2 k3 k4
                    rcases Nat.eq_zero_or_pos j with hz | hz
                    · subst hz
                      replace p1 : wr.cell? ⟨b1, o1, none⟩ = some (.int .i64 l[0].1) := by simpa using p1
                      replace p1' : wr.cell? ⟨b1, o1 + 1, none⟩ = some (.int .i64 l[0].2) := by simpa using p1'
                      have HN := hide (all_step (dayOk true) wdLt (0, 0) l 0 HE.out (by rw [stepB_0 _ _ _ _ hlt]; exact hq))
                      have g1 : decide ((0 : Int) < ((0 : Nat) : Int)) = false := rfl
                      have g0 : ¬ (0 : Int) < ((0 : Nat) : Int) := by omega
                      clear hq
                      go_wp2_with fail
                      have hbx := more hbw (.cells #[.int .i64 l[0].1, .int .i64 l[0].2] 108)
                      have x0 : (wr.alloc (.cells #[.int .i64 l[0].1, .int .i64 l[0].2] 108)).cell? ⟨wr.heap.size, 0, none⟩ = some (.int .i64 l[0].1) := by rw [World.cell?_alloc_at _ _ _ _ rfl]; rfl
                      have x1 : (wr.alloc (.cells #[.int .i64 l[0].1, .int .i64 l[0].2] 108)).cell? ⟨wr.heap.size, 1, none⟩ = some (.int .i64 l[0].2) := by rw [World.cell?_alloc_at _ _ _ _ rfl]; rfl
                      generalize wr.alloc (.cells #[.int .i64 l[0].1, .int .i64 l[0].2] 108) = W at *
                      generalize wr.heap.size = X at *
                      have f0 := fun d os => cell_regrown x0 d os
                      have f1 := fun d os => cell_regrown x1 d os
                      clear x0 x1 p1 p1'
                      refine wp_region_quiet_below (by kernel_rfl) (by kernel_rfl) ?_
                      repeat (first | go_big_quiet_step ((first | (fail))) | quiet_step ((first | (fail))))
                      refine wpQuiet_nil ?_
                      intro _ hw'
                      obtain ⟨⟨nq, osq⟩, hw''⟩ := hw'
                      subst hw''
                      replace hbw := hbx.trans ((below_regrown W nq osq).mono hbx.size)
                      clear hbx
                      generalize grow (redrawn W nq) osq = W2 at *
                      go_wp2_with fail
                      go_roundw
                      case rel => exact ⟨1, by omega, by go_num, HN.out, hbw⟩
                      case measure => simp [intOf]; omega
                    · obtain ⟨m, rfl⟩ : ∃ m, j = m + 1 := ⟨j - 1, by omega⟩
                      have hlm : m < l.length := Nat.lt_of_succ_lt hlt
                      have p0 : wr.cell? ⟨b1, o1 + m * 2, none⟩ = some (.int .i64 l[m].1) := (hbw.cell (p := ⟨b1, _, none⟩) hb1).trans (HC1.out m hlm).1
                      have p0' : wr.cell? ⟨b1, o1 + m * 2 + 1, none⟩ = some (.int .i64 l[m].2) := (hbw.cell (p := ⟨b1, _, none⟩) hb1).trans (HC1.out m hlm).2
                      have g0 : (0 : Int) < ((m + 1 : Nat) : Int) := by omega
                      have g1 : decide ((0 : Int) < ((m + 1 : Nat) : Int)) = true := decide_eq_true g0
                      have g2 : ((m + 1 : Nat) : Int) - 1 = (m : Int) := by omega
                      have g3 : (0 : Int) ≤ (m : Int) := by omega
                      have g4 : (m : Int) < (l.length : Int) := by omega
                      have hs := stepB_succ (dayOk true) wdLt (0, 0) l m hlt
                      rw [hq, Bool.true_and] at hs
                      clear hq
                      cases hc : wdLt l[m] l[m + 1]
                      · rw [hc] at hs
                        have HV := hide hc
                        have HN := hide (show byDayB l true = false from listB_no (dayOk true) wdLt (0, 0) l (m + 1) hlt hs)
                        clear hs hc
                        go_wp2_with fail
                        have hbx := more hbw (.cells #[.int .i64 l[m + 1].1, .int .i64 l[m + 1].2] 108)
                        have x0 : (wr.alloc (.cells #[.int .i64 l[m + 1].1, .int .i64 l[m + 1].2] 108)).cell? ⟨wr.heap.size, 0, none⟩ = some (.int .i64 l[m + 1].1) := by rw [World.cell?_alloc_at _ _ _ _ rfl]; rfl
                        have x1 : (wr.alloc (.cells #[.int .i64 l[m + 1].1, .int .i64 l[m + 1].2] 108)).cell? ⟨wr.heap.size, 1, none⟩ = some (.int .i64 l[m + 1].2) := by rw [World.cell?_alloc_at _ _ _ _ rfl]; rfl
                        have q0 := cell_keep (more (start wr) (.cells #[.int .i64 l[m + 1].1, .int .i64 l[m + 1].2] 108)) p0
                        have q0' := cell_keep (more (start wr) (.cells #[.int .i64 l[m + 1].1, .int .i64 l[m + 1].2] 108)) p0'
                        generalize wr.alloc (.cells #[.int .i64 l[m + 1].1, .int .i64 l[m + 1].2] 108) = W at *
                        generalize wr.heap.size = X at *
                        have f0 := fun d os => cell_regrown x0 d os
                        have f1 := fun d os => cell_regrown x1 d os
                        have f2 := fun d os => cell_regrown q0 d os
                        have f3 := fun d os => cell_regrown q0' d os
                        clear x0 x1 p1 p1' q0 q0' p0 p0'
                        refine wp_region_quiet_below (by kernel_rfl) (by kernel_rfl) ?_
                        repeat (first | go_big_quiet_step ((first | (go_at_call 95; exact Calls.regrown_of (less_is l[m] l[m + 1] _ _ HV.out)))) | quiet_step ((first | (go_at_call 95; exact Calls.regrown_of (less_is l[m] l[m + 1] _ _ HV.out)))))
                        refine wpQuiet_nil ?_
                        intro _ hw'
                        obtain ⟨⟨nq, osq⟩, hw''⟩ := hw'
                        subst hw''
                        replace hbw := hbx.trans ((below_regrown W nq osq).mono hbx.size)
                        clear hbx
                        generalize grow (redrawn W nq) osq = W2 at *
                        go_wp2_with fail
                        go_ret
                        exact ⟨ret_bool (by rw [HN.out]), hbw⟩
                      · rw [hc] at hs
                        have HV := hide hc
                        have HN := hide (all_step (dayOk true) wdLt (0, 0) l (m + 1) HE.out hs)
                        clear hs hc
                        go_wp2_with fail
                        have hbx := more hbw (.cells #[.int .i64 l[m + 1].1, .int .i64 l[m + 1].2] 108)
                        have x0 : (wr.alloc (.cells #[.int .i64 l[m + 1].1, .int .i64 l[m + 1].2] 108)).cell? ⟨wr.heap.size, 0, none⟩ = some (.int .i64 l[m + 1].1) := by rw [World.cell?_alloc_at _ _ _ _ rfl]; rfl
                        have x1 : (wr.alloc (.cells #[.int .i64 l[m + 1].1, .int .i64 l[m + 1].2] 108)).cell? ⟨wr.heap.size, 1, none⟩ = some (.int .i64 l[m + 1].2) := by rw [World.cell?_alloc_at _ _ _ _ rfl]; rfl
                        have q0 := cell_keep (more (start wr) (.cells #[.int .i64 l[m + 1].1, .int .i64 l[m + 1].2] 108)) p0
                        have q0' := cell_keep (more (start wr) (.cells #[.int .i64 l[m + 1].1, .int .i64 l[m + 1].2] 108)) p0'
                        generalize wr.alloc (.cells #[.int .i64 l[m + 1].1, .int .i64 l[m + 1].2] 108) = W at *
                        generalize wr.heap.size = X at *
                        have f0 := fun d os => cell_regrown x0 d os
                        have f1 := fun d os => cell_regrown x1 d os
                        have f2 := fun d os => cell_regrown q0 d os
                        have f3 := fun d os => cell_regrown q0' d os
                        clear x0 x1 p1 p1' q0 q0' p0 p0'
                        refine wp_region_quiet_below (by kernel_rfl) (by kernel_rfl) ?_
                        repeat (first | go_big_quiet_step ((first | (go_at_call 95; exact Calls.regrown_of (less_is l[m] l[m + 1] _ _ HV.out)))) | quiet_step ((first | (go_at_call 95; exact Calls.regrown_of (less_is l[m] l[m + 1] _ _ HV.out)))))
                        refine wpQuiet_nil ?_
                        intro _ hw'
                        obtain ⟨⟨nq, osq⟩, hw''⟩ := hw'
                        subst hw''
                        replace hbw := hbx.trans ((below_regrown W nq osq).mono hbx.size)
                        clear hbx
                        generalize grow (redrawn W nq) osq = W2 at *
                        go_wp2_with fail
                        go_roundw
                        case rel => exact ⟨m + 1 + 1, by omega, by go_num, HN.out, hbw⟩
                        case measure => simp [intOf]; omega
              · have HN := hide (show byDayB l b = false from listB_no (dayOk b) wdLt (0, 0) l j hlt (stepB_p _ _ _ _ _ hlt (dayOk_4 b l[j] k4)))
                go_wp2_with fail
                have hbx := more hbw (.cells #[.int .i64 l[j].1, .int .i64 l[j].2] 108)
                have x0 : (wr.alloc (.cells #[.int .i64 l[j].1, .int .i64 l[j].2] 108)).cell? ⟨wr.heap.size, 0, none⟩ = some (.int .i64 l[j].1) := by rw [World.cell?_alloc_at _ _ _ _ rfl]; rfl
                have x1 : (wr.alloc (.cells #[.int .i64 l[j].1, .int .i64 l[j].2] 108)).cell? ⟨wr.heap.size, 1, none⟩ = some (.int .i64 l[j].2) := by rw [World.cell?_alloc_at _ _ _ _ rfl]; rfl
                generalize wr.alloc (.cells #[.int .i64 l[j].1, .int .i64 l[j].2] 108) = W at *
                generalize wr.heap.size = X at *
                have f0 := fun d os => cell_regrown x0 d os
                have f1 := fun d os => cell_regrown x1 d os
                clear x0 x1 p1 p1'
                refine wp_region_quiet_below (by kernel_rfl) (by kernel_rfl) ?_
                repeat (first | go_big_quiet_step ((first | (fail))) | quiet_step ((first | (fail))))
                refine wpQuiet_nil ?_
                intro _ hw'
                obtain ⟨⟨nq, osq⟩, hw''⟩ := hw'
                subst hw''
                replace hbw := hbx.trans ((below_regrown W nq osq).mono hbx.size)
                clear hbx
                generalize grow (redrawn W nq) osq = W2 at *
                go_wp2_with fail
                go_ret
                exact ⟨ret_bool (by rw [HN.out]), hbw⟩
            · have HN := hide (show byDayB l b = false from listB_no (dayOk b) wdLt (0, 0) l j hlt (stepB_p _ _ _ _ _ hlt (dayOk_3 b l[j] k3)))
              go_wp2_with fail
              have hbx := more hbw (.cells #[.int .i64 l[j].1, .int .i64 l[j].2] 108)
              have x0 : (wr.alloc (.cells #[.int .i64 l[j].1, .int .i64 l[j].2] 108)).cell? ⟨wr.heap.size, 0, none⟩ = some (.int .i64 l[j].1) := by rw [World.cell?_alloc_at _ _ _ _ rfl]; rfl
              have x1 : (wr.alloc (.cells #[.int .i64 l[j].1, .int .i64 l[j].2] 108)).cell? ⟨wr.heap.size, 1, none⟩ = some (.int .i64 l[j].2) := by rw [World.cell?_alloc_at _ _ _ _ rfl]; rfl
              generalize wr.alloc (.cells #[.int .i64 l[j].1, .int .i64 l[j].2] 108) = W at *
              generalize wr.heap.size = X at *
              have f0 := fun d os => cell_regrown x0 d os
              have f1 := fun d os => cell_regrown x1 d os
              clear x0 x1 p1 p1'
              refine wp_region_quiet_below (by kernel_rfl) (by kernel_rfl) ?_
              repeat (first | go_big_quiet_step ((first | (fail))) | quiet_step ((first | (fail))))
              refine wpQuiet_nil ?_
              intro _ hw'
              obtain ⟨⟨nq, osq⟩, hw''⟩ := hw'
              subst hw''
              replace hbw := hbx.trans ((below_regrown W nq osq).mono hbx.size)
              clear hbx
              generalize grow (redrawn W nq) osq = W2 at *
              go_wp2_with fail
              go_ret
              exact ⟨ret_bool (by rw [HN.out]), hbw⟩
          · have HN := hide (show byDayB l b = false from listB_no (dayOk b) wdLt (0, 0) l j hlt (stepB_p _ _ _ _ _ hlt (dayOk_2 b l[j] k2)))
            go_wp2_with fail
            have hbx := more hbw (.cells #[.int .i64 l[j].1, .int .i64 l[j].2] 108)
            have x0 : (wr.alloc (.cells #[.int .i64 l[j].1, .int .i64 l[j].2] 108)).cell? ⟨wr.heap.size, 0, none⟩ = some (.int .i64 l[j].1) := by rw [World.cell?_alloc_at _ _ _ _ rfl]; rfl
            have x1 : (wr.alloc (.cells #[.int .i64 l[j].1, .int .i64 l[j].2] 108)).cell? ⟨wr.heap.size, 1, none⟩ = some (.int .i64 l[j].2) := by rw [World.cell?_alloc_at _ _ _ _ rfl]; rfl
            generalize wr.alloc (.cells #[.int .i64 l[j].1, .int .i64 l[j].2] 108) = W at *
            generalize wr.heap.size = X at *
            have f0 := fun d os => cell_regrown x0 d os
            have f1 := fun d os => cell_regrown x1 d os
            clear x0 x1 p1 p1'
            refine wp_region_quiet_below (by kernel_rfl) (by kernel_rfl) ?_
            repeat (first | go_big_quiet_step ((first | (fail))) | quiet_step ((first | (fail))))
            refine wpQuiet_nil ?_
            intro _ hw'
            obtain ⟨⟨nq, osq⟩, hw''⟩ := hw'
            subst hw''
            replace hbw := hbx.trans ((below_regrown W nq osq).mono hbx.size)
            clear hbx
            generalize grow (redrawn W nq) osq = W2 at *
            go_wp2_with fail
            go_ret
            exact ⟨ret_bool (by rw [HN.out]), hbw⟩
        · have HN := hide (show byDayB l b = false from listB_no (dayOk b) wdLt (0, 0) l j hlt (stepB_p _ _ _ _ _ hlt (dayOk_1 b l[j] k1)))
          go_wp2_with fail
          have hbx := more hbw (.cells #[.int .i64 l[j].1, .int .i64 l[j].2] 108)
          have x0 : (wr.alloc (.cells #[.int .i64 l[j].1, .int .i64 l[j].2] 108)).cell? ⟨wr.heap.size, 0, none⟩ = some (.int .i64 l[j].1) := by rw [World.cell?_alloc_at _ _ _ _ rfl]; rfl
          have x1 : (wr.alloc (.cells #[.int .i64 l[j].1, .int .i64 l[j].2] 108)).cell? ⟨wr.heap.size, 1, none⟩ = some (.int .i64 l[j].2) := by rw [World.cell?_alloc_at _ _ _ _ rfl]; rfl
          generalize wr.alloc (.cells #[.int .i64 l[j].1, .int .i64 l[j].2] 108) = W at *
          generalize wr.heap.size = X at *
          have f0 := fun d os => cell_regrown x0 d os
          have f1 := fun d os => cell_regrown x1 d os
          clear x0 x1 p1 p1'
          refine wp_region_quiet_below (by kernel_rfl) (by kernel_rfl) ?_
          repeat (first | go_big_quiet_step ((first | (fail))) | quiet_step ((first | (fail))))
          refine wpQuiet_nil ?_
          intro _ hw'
          obtain ⟨⟨nq, osq⟩, hw''⟩ := hw'
          subst hw''
          replace hbw := hbx.trans ((below_regrown W nq osq).mono hbx.size)
          clear hbx
          generalize grow (redrawn W nq) osq = W2 at *
          go_wp2_with fail
          go_ret
          exact ⟨ret_bool (by rw [HN.out]), hbw⟩
      · obtain rfl : j = l.length := by omega
        have HF := hide (show byDayB l b = decide (l.length ≤ 12) from listB_end (dayOk b) wdLt (0, 0) l HE.out)
        have hcast : decide ((l.length : Int) ≤ 12) = decide (l.length ≤ 12) := by
          by_cases h : l.length ≤ 12
          · rw [decide_eq_true h, decide_eq_true (by omega)]
          · rw [decide_eq_false h, decide_eq_false (by omega)]
        have HX := hide hcast
        clear hcast
        go_wp2_with fail
        go_ret
        exact ⟨ret_bool (by rw [HF.out]; try exact HX.out), hbw⟩

end Go.Proofs.YtlmdceeeahnkcaaGreatDoor.R

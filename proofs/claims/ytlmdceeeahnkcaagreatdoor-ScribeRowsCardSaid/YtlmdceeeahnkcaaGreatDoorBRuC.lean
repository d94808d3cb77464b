/- Walks of package rule: whether elements may be a list; the library's Equal at lists. -/
import Derived.Test.YtlmdceeeahnkcaaGreatDoorBW3
namespace Go.Proofs.YtlmdceeeahnkcaaGreatDoor
open Go.RowKit Rul Go.Sort

theorem all_step {α : Type} (q : α → Bool) (lt : α → α → Bool) (d : α) (l : List α) (j : Nat) (h : ∀ i, i < j → stepB q lt d l i = true) (h2 : stepB q lt d l j = true) : ∀ i, i < j + 1 → stepB q lt d l i = true := fun i h3 => by
  rcases Nat.lt_or_ge i j with g | g
  · exact h i g
  · obtain rfl : i = j := by omega
    exact h2
theorem cmp_is (a b v : Int) (w : World) (h : cmpI a b = v) :
    Calls Tryz.prog 170 #[.int .i64 a, .int .i64 b] w (Ans w (.int .i64 v)) := by subst h; exact ans_same (cmp_any a b w)
theorem cmpW_is (a b : Wd) (v : Int) (w : World) (h : cmpW a b = v) :
    Calls Tryz.prog 182 #[.agg #[.int .i64 a.1, .int .i64 a.2], .agg #[.int .i64 b.1, .int .i64 b.2]] w (Ans w (.int .i64 v)) := by subst h; exact cmpW_any _ _ _ _ w
theorem cmpI_yes (a b : Int) (h : inLt a b = true) : ∃ v, cmpI a b = v ∧ ¬ 0 ≤ v ∧ decide (0 ≤ v) = false := ⟨_, rfl, by have := cmpI_lt a b; rw [h] at this; simpa using this, by rw [cmpI_lt, h]; rfl⟩
theorem cmpI_no (a b : Int) (h : inLt a b = false) : ∃ v, cmpI a b = v ∧ 0 ≤ v ∧ decide (0 ≤ v) = true := ⟨_, rfl, by have := cmpI_lt a b; rw [h] at this; simpa using this, by rw [cmpI_lt, h]; rfl⟩
theorem cmpW_yes (a b : Wd) (h : wdLt a b = true) : ∃ v, cmpW a b = v ∧ ¬ 0 ≤ v ∧ decide (0 ≤ v) = false := ⟨_, rfl, by have := cmpW_lt a b; rw [h] at this; simpa using this, by rw [cmpW_lt, h]; rfl⟩
theorem cmpW_no (a b : Wd) (h : wdLt a b = false) : ∃ v, cmpW a b = v ∧ 0 ≤ v ∧ decide (0 ≤ v) = true := ⟨_, rfl, by have := cmpW_lt a b; rw [h] at this; simpa using this, by rw [cmpW_lt, h]; rfl⟩

set_option maxRecDepth 100000 in
set_option maxHeartbeats 2000000 in
theorem lstMd_any (A : Option Addr) (n c : Nat) (l : List Int) (w : World) (hl : RowI w A l) (hn : n = l.length) (hsz : l.length ≤ 10000) :
    Calls Tryz.prog 183 #[.func (.func 184) #[] #[], .func (.func 170) #[] #[], .slice A n c] w (Ans w (.bool (listB mdOk inLt 0 l))) := by
  subst hn
  by_cases hlong : 12 < l.length
  · have e := hide (listB_long mdOk inLt 0 l hlong)
    have h1 : 12 < (l.length : Int) := by omega
    clear hl
    go_enter Tryz.func183, Tryz.ntmps183
    go_wp2_with fail
    go_ret
    exact ⟨ret_bool (by rw [e.out]), start _⟩
  have hshort : ¬ 12 < (l.length : Int) := by omega
  by_cases hnil : l = []
  · subst hnil
    go_enter Tryz.func183, Tryz.ntmps183
    go_wp2_with fail
    refine wp_loop_rounds 1 ?_
    rw [rounds_succ]
    go_wp2_with fail
    go_ret
    exact ⟨rfl, start _⟩
  · obtain ⟨b1, o1, rfl, hb1, hc1⟩ := hl hnil
    have HC1 := hide hc1
    clear hl hc1 hnil
    go_enter Tryz.func183, Tryz.ntmps183
    go_wp2_with fail
    go_loopw [14] (fun i wr => ∃ j : Nat, j ≤ l.length ∧ i = .int .i64 j ∧ (∀ i, i < j → stepB mdOk inLt 0 l i = true) ∧ Below w.heap.size w wr) (fun i _ => l.length - (intOf i).toNat)
    case atStart => exact ⟨0, Nat.zero_le _, rfl, fun i h => absurd h (Nat.not_lt_zero _), start _⟩
    case round =>
      obtain ⟨j, hj, rfl, heq, hbw⟩ := hrel
      have HE := hide heq
      clear heq
      by_cases hlt : j < l.length
      · have hi0 : (0 : Int) ≤ (j : Int) := by omega
        have hi1 : (j : Int) < (l.length : Int) := by omega
        cases hq : mdOk l[j]
        · have p1 : wr.cell? ⟨b1, o1 + j, none⟩ = some (.int .i64 l[j]) := (hbw.cell (p := ⟨b1, _, none⟩) hb1).trans (by first | exact HC1.out j hlt | simpa using HC1.out j hlt)
          have HN := hide (listB_no mdOk inLt 0 l j hlt (stepB_p _ _ _ _ _ hlt hq))
          have HQ := hide hq
          clear hq
          go_wp2_with fail
          refine (ans_is (ans_same (isMonthDay_any l[j] _)) HQ.out).mono ?_
          rintro e w1 ⟨rfl, hb2⟩
          replace hbw := hbw.trans (hb2.mono hbw.size)
          clear hb2
          go_wp2_with fail
          go_ret
          exact ⟨ret_bool (by rw [HN.out]), hbw⟩
        · have HQ := hide hq
          rcases Nat.eq_zero_or_pos j with hz | hz
          · subst hz
            have p1 : wr.cell? ⟨b1, o1, none⟩ = some (.int .i64 l[0]) := (hbw.cell (p := ⟨b1, _, none⟩) hb1).trans (by first | exact HC1.out 0 hlt | simpa using HC1.out 0 hlt)
            have HN := hide (all_step mdOk inLt 0 l 0 HE.out (by rw [stepB_0 _ _ _ _ hlt]; exact hq))
            clear hq
            have g0 : ¬ (0 : Int) < ((0 : Nat) : Int) := by omega
            have g1 : decide ((0 : Int) < ((0 : Nat) : Int)) = false := rfl
            go_wp2_with fail
            refine (ans_is (ans_same (isMonthDay_any l[0] _)) HQ.out).mono ?_
            rintro e w1 ⟨rfl, hb2⟩
            replace hbw := hbw.trans (hb2.mono hbw.size)
            clear hb2
            go_wp2_with fail
            go_roundw
            case rel => exact ⟨1, by omega, by go_num, HN.out, hbw⟩
            case measure => simp [intOf]; omega
          · obtain ⟨m, rfl⟩ : ∃ m, j = m + 1 := ⟨j - 1, by omega⟩
            have hlm : m < l.length := Nat.lt_of_succ_lt hlt
            have p1 : wr.cell? ⟨b1, o1 + (m + 1), none⟩ = some (.int .i64 l[(m + 1)]) := (hbw.cell (p := ⟨b1, _, none⟩) hb1).trans (by first | exact HC1.out (m + 1) hlt | simpa using HC1.out (m + 1) hlt)
            have p0 : wr.cell? ⟨b1, o1 + m, none⟩ = some (.int .i64 l[m]) := (hbw.cell (p := ⟨b1, _, none⟩) hb1).trans (by first | exact HC1.out m hlm | simpa using HC1.out m hlm)
            have g0 : (0 : Int) < ((m + 1 : Nat) : Int) := by omega
            have g1 : decide ((0 : Int) < ((m + 1 : Nat) : Int)) = true := decide_eq_true g0
            have g2 : ((m + 1 : Nat) : Int) - 1 = (m : Int) := by omega
            have g3 : (0 : Int) ≤ (m : Int) := by omega
            have g4 : (m : Int) < (l.length : Int) := by omega
            have hs := stepB_succ mdOk inLt 0 l m hlt
            rw [hq, Bool.true_and] at hs
            clear hq
            cases hc : inLt l[m] l[m + 1]
            · obtain ⟨v, hv, hv1, hv2⟩ := cmpI_no l[m] l[m + 1] hc
              have HV := hide hv
              have HN := hide (listB_no mdOk inLt 0 l (m + 1) hlt (by rw [hs, hc]))
              clear hv hs hc
              go_wp2_with fail
              refine (ans_is (ans_same (isMonthDay_any l[m + 1] _)) HQ.out).mono ?_
              rintro e w1 ⟨rfl, hb2⟩
              replace hbw := hbw.trans (hb2.mono hbw.size)
              have q0 := cell_keep hb2 p0
              have q1 := cell_keep hb2 p1
              clear hb2
              go_wp2_with fail
              refine (cmp_is l[m] l[m + 1] v _ HV.out).mono ?_
              rintro e w2 ⟨rfl, hb2⟩
              replace hbw := hbw.trans (hb2.mono hbw.size)
              clear hb2
              go_wp2_with fail
              go_ret
              exact ⟨ret_bool (by rw [HN.out]), hbw⟩
            · obtain ⟨v, hv, hv1, hv2⟩ := cmpI_yes l[m] l[m + 1] hc
              have HV := hide hv
              have HN := hide (all_step mdOk inLt 0 l (m + 1) HE.out (by rw [hs, hc]))
              clear hv hs hc
              go_wp2_with fail
              refine (ans_is (ans_same (isMonthDay_any l[m + 1] _)) HQ.out).mono ?_
              rintro e w1 ⟨rfl, hb2⟩
              replace hbw := hbw.trans (hb2.mono hbw.size)
              have q0 := cell_keep hb2 p0
              have q1 := cell_keep hb2 p1
              clear hb2
              go_wp2_with fail
              refine (cmp_is l[m] l[m + 1] v _ HV.out).mono ?_
              rintro e w2 ⟨rfl, hb2⟩
              replace hbw := hbw.trans (hb2.mono hbw.size)
              clear hb2
              go_wp2_with fail
              go_roundw
              case rel => exact ⟨m + 1 + 1, by omega, by go_num, HN.out, hbw⟩
              case measure => simp [intOf]; omega
      · obtain rfl : j = l.length := by omega
        have HF := hide (listB_yes mdOk inLt 0 l (by omega) HE.out)
        go_wp2_with fail
        go_ret
        exact ⟨ret_bool (by rw [HF.out]), hbw⟩

set_option maxRecDepth 100000 in
set_option maxHeartbeats 2000000 in
theorem lstMo_any (A : Option Addr) (n c : Nat) (l : List Int) (w : World) (hl : RowI w A l) (hn : n = l.length) (hsz : l.length ≤ 10000) :
    Calls Tryz.prog 183 #[.func (.func 185) #[] #[], .func (.func 170) #[] #[], .slice A n c] w (Ans w (.bool (listB moOk inLt 0 l))) := by
  subst hn
  by_cases hlong : 12 < l.length
  · have e := hide (listB_long moOk inLt 0 l hlong)
    have h1 : 12 < (l.length : Int) := by omega
    clear hl
    go_enter Tryz.func183, Tryz.ntmps183
    go_wp2_with fail
    go_ret
    exact ⟨ret_bool (by rw [e.out]), start _⟩
  have hshort : ¬ 12 < (l.length : Int) := by omega
  by_cases hnil : l = []
  · subst hnil
    go_enter Tryz.func183, Tryz.ntmps183
    go_wp2_with fail
    refine wp_loop_rounds 1 ?_
    rw [rounds_succ]
    go_wp2_with fail
    go_ret
    exact ⟨rfl, start _⟩
  · obtain ⟨b1, o1, rfl, hb1, hc1⟩ := hl hnil
    have HC1 := hide hc1
    clear hl hc1 hnil
    go_enter Tryz.func183, Tryz.ntmps183
    go_wp2_with fail
    go_loopw [14] (fun i wr => ∃ j : Nat, j ≤ l.length ∧ i = .int .i64 j ∧ (∀ i, i < j → stepB moOk inLt 0 l i = true) ∧ Below w.heap.size w wr) (fun i _ => l.length - (intOf i).toNat)
    case atStart => exact ⟨0, Nat.zero_le _, rfl, fun i h => absurd h (Nat.not_lt_zero _), start _⟩
    case round =>
      obtain ⟨j, hj, rfl, heq, hbw⟩ := hrel
      have HE := hide heq
      clear heq
      by_cases hlt : j < l.length
      · have hi0 : (0 : Int) ≤ (j : Int) := by omega
        have hi1 : (j : Int) < (l.length : Int) := by omega
        cases hq : moOk l[j]
        · have p1 : wr.cell? ⟨b1, o1 + j, none⟩ = some (.int .i64 l[j]) := (hbw.cell (p := ⟨b1, _, none⟩) hb1).trans (by first | exact HC1.out j hlt | simpa using HC1.out j hlt)
          have HN := hide (listB_no moOk inLt 0 l j hlt (stepB_p _ _ _ _ _ hlt hq))
          have HQ := hide hq
          clear hq
          go_wp2_with fail
          refine (ans_is (ans_same (isMonth_any l[j] _)) HQ.out).mono ?_
          rintro e w1 ⟨rfl, hb2⟩
          replace hbw := hbw.trans (hb2.mono hbw.size)
          clear hb2
          go_wp2_with fail
          go_ret
          exact ⟨ret_bool (by rw [HN.out]), hbw⟩
        · have HQ := hide hq
          rcases Nat.eq_zero_or_pos j with hz | hz
          · subst hz
            have p1 : wr.cell? ⟨b1, o1, none⟩ = some (.int .i64 l[0]) := (hbw.cell (p := ⟨b1, _, none⟩) hb1).trans (by first | exact HC1.out 0 hlt | simpa using HC1.out 0 hlt)
            have HN := hide (all_step moOk inLt 0 l 0 HE.out (by rw [stepB_0 _ _ _ _ hlt]; exact hq))
            clear hq
            have g0 : ¬ (0 : Int) < ((0 : Nat) : Int) := by omega
            have g1 : decide ((0 : Int) < ((0 : Nat) : Int)) = false := rfl
            go_wp2_with fail
            refine (ans_is (ans_same (isMonth_any l[0] _)) HQ.out).mono ?_
            rintro e w1 ⟨rfl, hb2⟩
            replace hbw := hbw.trans (hb2.mono hbw.size)
            clear hb2
            go_wp2_with fail
            go_roundw
            case rel => exact ⟨1, by omega, by go_num, HN.out, hbw⟩
            case measure => simp [intOf]; omega
          · obtain ⟨m, rfl⟩ : ∃ m, j = m + 1 := ⟨j - 1, by omega⟩
            have hlm : m < l.length := Nat.lt_of_succ_lt hlt
            have p1 : wr.cell? ⟨b1, o1 + (m + 1), none⟩ = some (.int .i64 l[(m + 1)]) := (hbw.cell (p := ⟨b1, _, none⟩) hb1).trans (by first | exact HC1.out (m + 1) hlt | simpa using HC1.out (m + 1) hlt)
            have p0 : wr.cell? ⟨b1, o1 + m, none⟩ = some (.int .i64 l[m]) := (hbw.cell (p := ⟨b1, _, none⟩) hb1).trans (by first | exact HC1.out m hlm | simpa using HC1.out m hlm)
            have g0 : (0 : Int) < ((m + 1 : Nat) : Int) := by omega
            have g1 : decide ((0 : Int) < ((m + 1 : Nat) : Int)) = true := decide_eq_true g0
            have g2 : ((m + 1 : Nat) : Int) - 1 = (m : Int) := by omega
            have g3 : (0 : Int) ≤ (m : Int) := by omega
            have g4 : (m : Int) < (l.length : Int) := by omega
            have hs := stepB_succ moOk inLt 0 l m hlt
            rw [hq, Bool.true_and] at hs
            clear hq
            cases hc : inLt l[m] l[m + 1]
            · obtain ⟨v, hv, hv1, hv2⟩ := cmpI_no l[m] l[m + 1] hc
              have HV := hide hv
              have HN := hide (listB_no moOk inLt 0 l (m + 1) hlt (by rw [hs, hc]))
              clear hv hs hc
              go_wp2_with fail
              refine (ans_is (ans_same (isMonth_any l[m + 1] _)) HQ.out).mono ?_
              rintro e w1 ⟨rfl, hb2⟩
              replace hbw := hbw.trans (hb2.mono hbw.size)
              have q0 := cell_keep hb2 p0
              have q1 := cell_keep hb2 p1
              clear hb2
              go_wp2_with fail
              refine (cmp_is l[m] l[m + 1] v _ HV.out).mono ?_
              rintro e w2 ⟨rfl, hb2⟩
              replace hbw := hbw.trans (hb2.mono hbw.size)
              clear hb2
              go_wp2_with fail
              go_ret
              exact ⟨ret_bool (by rw [HN.out]), hbw⟩
            · obtain ⟨v, hv, hv1, hv2⟩ := cmpI_yes l[m] l[m + 1] hc
              have HV := hide hv
              have HN := hide (all_step moOk inLt 0 l (m + 1) HE.out (by rw [hs, hc]))
              clear hv hs hc
              go_wp2_with fail
              refine (ans_is (ans_same (isMonth_any l[m + 1] _)) HQ.out).mono ?_
              rintro e w1 ⟨rfl, hb2⟩
              replace hbw := hbw.trans (hb2.mono hbw.size)
              have q0 := cell_keep hb2 p0
              have q1 := cell_keep hb2 p1
              clear hb2
              go_wp2_with fail
              refine (cmp_is l[m] l[m + 1] v _ HV.out).mono ?_
              rintro e w2 ⟨rfl, hb2⟩
              replace hbw := hbw.trans (hb2.mono hbw.size)
              clear hb2
              go_wp2_with fail
              go_roundw
              case rel => exact ⟨m + 1 + 1, by omega, by go_num, HN.out, hbw⟩
              case measure => simp [intOf]; omega
      · obtain rfl : j = l.length := by omega
        have HF := hide (listB_yes moOk inLt 0 l (by omega) HE.out)
        go_wp2_with fail
        go_ret
        exact ⟨ret_bool (by rw [HF.out]), hbw⟩

set_option maxRecDepth 100000 in
set_option maxHeartbeats 2000000 in
theorem lstWd_any (A : Option Addr) (n c : Nat) (l : List Wd) (w : World) (hl : RowD w A l) (hn : n = l.length) (hsz : l.length ≤ 10000) :
    Calls Tryz.prog 180 #[.func (.func 181) #[] #[], .func (.func 182) #[] #[], .slice A n c] w (Ans w (.bool (listB wdOk wdLt (0, 0) l))) := by
  subst hn
  by_cases hlong : 12 < l.length
  · have e := hide (listB_long wdOk wdLt (0, 0) l hlong)
    have h1 : 12 < (l.length : Int) := by omega
    clear hl
    go_enter Tryz.func180, Tryz.ntmps180
    go_wp2_with fail
    go_ret
    exact ⟨ret_bool (by rw [e.out]), start _⟩
  have hshort : ¬ 12 < (l.length : Int) := by omega
  by_cases hnil : l = []
  · subst hnil
    go_enter Tryz.func180, Tryz.ntmps180
    go_wp2_with fail
    refine wp_loop_rounds 1 ?_
    rw [rounds_succ]
    go_wp2_with fail
    go_ret
    exact ⟨rfl, start _⟩
  · obtain ⟨b1, o1, rfl, hb1, hc1⟩ := hl hnil
    have HC1 := hide hc1
    clear hl hc1 hnil
    go_enter Tryz.func180, Tryz.ntmps180
    go_wp2_with fail
    go_loopw [14] (fun i wr => ∃ j : Nat, j ≤ l.length ∧ i = .int .i64 j ∧ (∀ i, i < j → stepB wdOk wdLt (0, 0) l i = true) ∧ Below w.heap.size w wr) (fun i _ => l.length - (intOf i).toNat)
    case atStart => exact ⟨0, Nat.zero_le _, rfl, fun i h => absurd h (Nat.not_lt_zero _), start _⟩
    case round =>
      obtain ⟨j, hj, rfl, heq, hbw⟩ := hrel
      have HE := hide heq
      clear heq
      by_cases hlt : j < l.length
      · have hi0 : (0 : Int) ≤ (j : Int) := by omega
        have hi1 : (j : Int) < (l.length : Int) := by omega
        cases hq : wdOk l[j]
        · have p1 : wr.cell? ⟨b1, o1 + j * 2, none⟩ = some (.int .i64 l[j].1) := (hbw.cell (p := ⟨b1, _, none⟩) hb1).trans (by first | exact (HC1.out j hlt).1 | simpa using (HC1.out j hlt).1)
          have p1' : wr.cell? ⟨b1, o1 + j * 2 + 1, none⟩ = some (.int .i64 l[j].2) := (hbw.cell (p := ⟨b1, _, none⟩) hb1).trans (by first | exact (HC1.out j hlt).2 | simpa using (HC1.out j hlt).2)
          have HN := hide (listB_no wdOk wdLt (0, 0) l j hlt (stepB_p _ _ _ _ _ hlt hq))
          have HQ := hide hq
          clear hq
          go_wp2_with fail
          have hbx := more hbw (.cells #[.int .i64 l[j].1, .int .i64 l[j].2] 108)
          have x0 : (wr.alloc (.cells #[.int .i64 l[j].1, .int .i64 l[j].2] 108)).cell? ⟨wr.heap.size, 0, none⟩ = some (.int .i64 l[j].1) := by rw [World.cell?_alloc_at _ _ _ _ rfl]; rfl
          have x1 : (wr.alloc (.cells #[.int .i64 l[j].1, .int .i64 l[j].2] 108)).cell? ⟨wr.heap.size, 1, none⟩ = some (.int .i64 l[j].2) := by rw [World.cell?_alloc_at _ _ _ _ rfl]; rfl
          generalize wr.alloc (.cells #[.int .i64 l[j].1, .int .i64 l[j].2] 108) = W at *
          generalize wr.heap.size = X at *
          have f0 := fun d os => cell_regrown x0 d os
          have f1 := fun d os => cell_regrown x1 d os
          clear x0 x1 p1 p1'
          refine wp_region_quiet_below (by kernel_rfl) (by kernel_rfl) ?_
          repeat (first | go_big_quiet_step ((first | (go_at_call 181; exact Calls.regrown_of (ans_is (isWeekday_any l[j].1 l[j].2 _) HQ.out)))) | quiet_step ((first | (go_at_call 181; exact Calls.regrown_of (ans_is (isWeekday_any l[j].1 l[j].2 _) HQ.out)))))
          refine wpQuiet_nil ?_
          intro _ hw'
          obtain ⟨⟨nq, osq⟩, hw''⟩ := hw'
          subst hw''
          replace hbw := hbx.trans ((below_regrown W nq osq).mono hbx.size)
          clear hbx
          generalize grow (redrawn W nq) osq = W2 at *
          go_wp2_with fail
          go_ret
          exact ⟨ret_bool (by rw [HN.out]), hbw⟩
        · have HQ := hide hq
          rcases Nat.eq_zero_or_pos j with hz | hz
          · subst hz
            have p1 : wr.cell? ⟨b1, o1, none⟩ = some (.int .i64 l[0].1) := (hbw.cell (p := ⟨b1, _, none⟩) hb1).trans (by first | exact (HC1.out 0 hlt).1 | simpa using (HC1.out 0 hlt).1)
            have p1' : wr.cell? ⟨b1, o1 + 1, none⟩ = some (.int .i64 l[0].2) := (hbw.cell (p := ⟨b1, _, none⟩) hb1).trans (by first | exact (HC1.out 0 hlt).2 | simpa using (HC1.out 0 hlt).2)
            have HN := hide (all_step wdOk wdLt (0, 0) l 0 HE.out (by rw [stepB_0 _ _ _ _ hlt]; exact hq))
            clear hq
            have g0 : ¬ (0 : Int) < ((0 : Nat) : Int) := by omega
            have g1 : decide ((0 : Int) < ((0 : Nat) : Int)) = false := rfl
            go_wp2_with fail
            have hbx := more hbw (.cells #[.int .i64 l[0].1, .int .i64 l[0].2] 108)
            have x0 : (wr.alloc (.cells #[.int .i64 l[0].1, .int .i64 l[0].2] 108)).cell? ⟨wr.heap.size, 0, none⟩ = some (.int .i64 l[0].1) := by rw [World.cell?_alloc_at _ _ _ _ rfl]; rfl
            have x1 : (wr.alloc (.cells #[.int .i64 l[0].1, .int .i64 l[0].2] 108)).cell? ⟨wr.heap.size, 1, none⟩ = some (.int .i64 l[0].2) := by rw [World.cell?_alloc_at _ _ _ _ rfl]; rfl
            generalize wr.alloc (.cells #[.int .i64 l[0].1, .int .i64 l[0].2] 108) = W at *
            generalize wr.heap.size = X at *
            have f0 := fun d os => cell_regrown x0 d os
            have f1 := fun d os => cell_regrown x1 d os
            clear x0 x1 p1 p1'
            refine wp_region_quiet_below (by kernel_rfl) (by kernel_rfl) ?_
            repeat (first | go_big_quiet_step ((first | (go_at_call 181; exact Calls.regrown_of (ans_is (isWeekday_any l[0].1 l[0].2 _) HQ.out)))) | quiet_step ((first | (go_at_call 181; exact Calls.regrown_of (ans_is (isWeekday_any l[0].1 l[0].2 _) HQ.out)))))
            refine wpQuiet_nil ?_
            intro _ hw'
            obtain ⟨⟨nq, osq⟩, hw''⟩ := hw'
            subst hw''
            replace hbw := hbx.trans ((below_regrown W nq osq).mono hbx.size)
            clear hbx
            generalize grow (redrawn W nq) osq = W2 at *
            go_wp2_with fail
            go_roundw
            case rel => exact ⟨1, by omega, by go_num, HN.out, hbw⟩
            case measure => simp [intOf]; omega
          · obtain ⟨m, rfl⟩ : ∃ m, j = m + 1 := ⟨j - 1, by omega⟩
            have hlm : m < l.length := Nat.lt_of_succ_lt hlt
            have p1 : wr.cell? ⟨b1, o1 + (m + 1) * 2, none⟩ = some (.int .i64 l[(m + 1)].1) := (hbw.cell (p := ⟨b1, _, none⟩) hb1).trans (by first | exact (HC1.out (m + 1) hlt).1 | simpa using (HC1.out (m + 1) hlt).1)
            have p1' : wr.cell? ⟨b1, o1 + (m + 1) * 2 + 1, none⟩ = some (.int .i64 l[(m + 1)].2) := (hbw.cell (p := ⟨b1, _, none⟩) hb1).trans (by first | exact (HC1.out (m + 1) hlt).2 | simpa using (HC1.out (m + 1) hlt).2)
            have p0 : wr.cell? ⟨b1, o1 + m * 2, none⟩ = some (.int .i64 l[m].1) := (hbw.cell (p := ⟨b1, _, none⟩) hb1).trans (by first | exact (HC1.out m hlm).1 | simpa using (HC1.out m hlm).1)
            have p0' : wr.cell? ⟨b1, o1 + m * 2 + 1, none⟩ = some (.int .i64 l[m].2) := (hbw.cell (p := ⟨b1, _, none⟩) hb1).trans (by first | exact (HC1.out m hlm).2 | simpa using (HC1.out m hlm).2)
            have g0 : (0 : Int) < ((m + 1 : Nat) : Int) := by omega
            have g1 : decide ((0 : Int) < ((m + 1 : Nat) : Int)) = true := decide_eq_true g0
            have g2 : ((m + 1 : Nat) : Int) - 1 = (m : Int) := by omega
            have g3 : (0 : Int) ≤ (m : Int) := by omega
            have g4 : (m : Int) < (l.length : Int) := by omega
            have hs := stepB_succ wdOk wdLt (0, 0) l m hlt
            rw [hq, Bool.true_and] at hs
            clear hq
            cases hc : wdLt l[m] l[m + 1]
            · obtain ⟨v, hv, hv1, hv2⟩ := cmpW_no l[m] l[m + 1] hc
              have HV := hide hv
              have HN := hide (listB_no wdOk wdLt (0, 0) l (m + 1) hlt (by rw [hs, hc]))
              clear hv hs hc
              go_wp2_with fail
              have hbx := more hbw (.cells #[.int .i64 l[m + 1].1, .int .i64 l[m + 1].2] 108)
              have x0 : (wr.alloc (.cells #[.int .i64 l[m + 1].1, .int .i64 l[m + 1].2] 108)).cell? ⟨wr.heap.size, 0, none⟩ = some (.int .i64 l[m + 1].1) := by rw [World.cell?_alloc_at _ _ _ _ rfl]; rfl
              have x1 : (wr.alloc (.cells #[.int .i64 l[m + 1].1, .int .i64 l[m + 1].2] 108)).cell? ⟨wr.heap.size, 1, none⟩ = some (.int .i64 l[m + 1].2) := by rw [World.cell?_alloc_at _ _ _ _ rfl]; rfl
              have q0 := cell_keep (more (start wr) (.cells #[.int .i64 l[m + 1].1, .int .i64 l[m + 1].2] 108)) p0
              have q0' := cell_keep (more (start wr) (.cells #[.int .i64 l[m + 1].1, .int .i64 l[m + 1].2] 108)) p0'
              generalize wr.alloc (.cells #[.int .i64 l[m + 1].1, .int .i64 l[m + 1].2] 108) = W at *
              generalize wr.heap.size = X at *
              have f0 := fun d os => cell_regrown x0 d os
              have f1 := fun d os => cell_regrown x1 d os
              have f2 := fun d os => cell_regrown q0 d os
              have f3 := fun d os => cell_regrown q0' d os
              clear x0 x1 p1 p1' q0 q0' p0 p0'
              refine wp_region_quiet_below (by kernel_rfl) (by kernel_rfl) ?_
              repeat (first | go_big_quiet_step ((first | (go_at_call 181; exact Calls.regrown_of (ans_is (isWeekday_any l[m + 1].1 l[m + 1].2 _) HQ.out)) | (go_at_call 182; exact Calls.regrown_of (cmpW_is l[m] l[m + 1] v _ HV.out)))) | quiet_step ((first | (go_at_call 181; exact Calls.regrown_of (ans_is (isWeekday_any l[m + 1].1 l[m + 1].2 _) HQ.out)) | (go_at_call 182; exact Calls.regrown_of (cmpW_is l[m] l[m + 1] v _ HV.out)))))
              refine wpQuiet_nil ?_
              intro _ hw'
              obtain ⟨⟨nq, osq⟩, hw''⟩ := hw'
              subst hw''
              replace hbw := hbx.trans ((below_regrown W nq osq).mono hbx.size)
              clear hbx
              generalize grow (redrawn W nq) osq = W2 at *
              go_wp2_with fail
              go_ret
              exact ⟨ret_bool (by rw [HN.out]), hbw⟩
            · obtain ⟨v, hv, hv1, hv2⟩ := cmpW_yes l[m] l[m + 1] hc
              have HV := hide hv
              have HN := hide (all_step wdOk wdLt (0, 0) l (m + 1) HE.out (by rw [hs, hc]))
              clear hv hs hc
              go_wp2_with fail
              have hbx := more hbw (.cells #[.int .i64 l[m + 1].1, .int .i64 l[m + 1].2] 108)
              have x0 : (wr.alloc (.cells #[.int .i64 l[m + 1].1, .int .i64 l[m + 1].2] 108)).cell? ⟨wr.heap.size, 0, none⟩ = some (.int .i64 l[m + 1].1) := by rw [World.cell?_alloc_at _ _ _ _ rfl]; rfl
              have x1 : (wr.alloc (.cells #[.int .i64 l[m + 1].1, .int .i64 l[m + 1].2] 108)).cell? ⟨wr.heap.size, 1, none⟩ = some (.int .i64 l[m + 1].2) := by rw [World.cell?_alloc_at _ _ _ _ rfl]; rfl
              have q0 := cell_keep (more (start wr) (.cells #[.int .i64 l[m + 1].1, .int .i64 l[m + 1].2] 108)) p0
              have q0' := cell_keep (more (start wr) (.cells #[.int .i64 l[m + 1].1, .int .i64 l[m + 1].2] 108)) p0'
              generalize wr.alloc (.cells #[.int .i64 l[m + 1].1, .int .i64 l[m + 1].2] 108) = W at *
              generalize wr.heap.size = X at *
              have f0 := fun d os => cell_regrown x0 d os
              have f1 := fun d os => cell_regrown x1 d os
              have f2 := fun d os => cell_regrown q0 d os
              have f3 := fun d os => cell_regrown q0' d os
              clear x0 x1 p1 p1' q0 q0' p0 p0'
              refine wp_region_quiet_below (by kernel_rfl) (by kernel_rfl) ?_
              repeat (first | go_big_quiet_step ((first | (go_at_call 181; exact Calls.regrown_of (ans_is (isWeekday_any l[m + 1].1 l[m + 1].2 _) HQ.out)) | (go_at_call 182; exact Calls.regrown_of (cmpW_is l[m] l[m + 1] v _ HV.out)))) | quiet_step ((first | (go_at_call 181; exact Calls.regrown_of (ans_is (isWeekday_any l[m + 1].1 l[m + 1].2 _) HQ.out)) | (go_at_call 182; exact Calls.regrown_of (cmpW_is l[m] l[m + 1] v _ HV.out)))))
              refine wpQuiet_nil ?_
              intro _ hw'
              obtain ⟨⟨nq, osq⟩, hw''⟩ := hw'
              subst hw''
              replace hbw := hbx.trans ((below_regrown W nq osq).mono hbx.size)
              clear hbx
              generalize grow (redrawn W nq) osq = W2 at *
              go_wp2_with fail
              go_roundw
              case rel => exact ⟨m + 1 + 1, by omega, by go_num, HN.out, hbw⟩
              case measure => simp [intOf]; omega
      · obtain rfl : j = l.length := by omega
        have HF := hide (listB_yes wdOk wdLt (0, 0) l (by omega) HE.out)
        go_wp2_with fail
        go_ret
        exact ⟨ret_bool (by rw [HF.out]), hbw⟩

end Go.Proofs.YtlmdceeeahnkcaaGreatDoor

/- Walks of the document's own answers, layer 1: the minute of a time, weekdays, the date of a day. -/
import Derived.Test.YtdmplojfidkipaaGreatRefB
import Derived.Test.YtdmplojfidkipaaGreatCivH
namespace Go.Proofs.YtdmplojfidkipaaGreat
open Go.RowKit

theorem tmod7_aux (t u : Int) (hb : 0 ≤ u ∧ u ≤ 6) (h : (t < 0 ∧ t + 7 = u) ∨ (¬ t < 0 ∧ t = u)) : -7 ≤ t ∧ t ≤ 6 ∧ (t = u ∨ t + 7 = u) := by omega
theorem tmod7 (n : Int) : -7 ≤ n.tmod 7 ∧ n.tmod 7 ≤ 6 ∧ (n.tmod 7 = n % 7 ∨ n.tmod 7 + 7 = n % 7) := by
  have hb : 0 ≤ n % 7 ∧ n % 7 ≤ 6 := by omega
  by_cases h : n.tmod 7 < 0
  · exact tmod7_aux _ _ hb (.inl ⟨h, (split_neg n 7 (by omega) h).1⟩)
  · exact tmod7_aux _ _ hb (.inr ⟨h, (split_pos n 7 (by omega) h).1⟩)
theorem rwday_go (n : Int) : (n.tmod 7 + 7 + 5).tmod 7 = Cal.wday n := by
  have := tmod7 n
  rw [Int.tmod_eq_emod_of_nonneg (by omega)]
  unfold Cal.wday
  omega

set_option maxHeartbeats 400000 in
theorem rWeekday_any (n : Int) (w : World) :
    Calls Tryz.prog 48 #[.int .i64 n] w fun e w' => e = .returned (.int .i64 (Cal.wday n)) ∧ w = w' := by
  have h7 : -7 ≤ n.tmod 7 := (tmod7 n).1
  have h7' : n.tmod 7 ≤ 6 := (tmod7 n).2.1
  have HW := hide (rwday_go n)
  go_enter Tryz.func48, Tryz.ntmps48
  go_wp2_with fail
  go_ret
  exact ⟨ret_int (by first | exact HW.out | (rw [← HW.out]; exact (Int.tmod_eq_emod_of_nonneg (by omega)).symm)), rfl⟩

set_option maxHeartbeats 400000 in
theorem rDate_no (n : Int) (w : World) (h : n < 0 ∨ 36525 ≤ n) :
    Calls Tryz.prog 47 #[.int .i64 n] w fun e w' => e = .returned (.tuple #[.agg #[.int .i64 0, .int .i64 0, .int .i64 0], .int .i64 10]) ∧ Below w.heap.size w w' := by
  rcases h with h | h
  all_goals
    by_cases h0 : n < 0
    all_goals first
      | omega
      | (go_enter Tryz.func47, Tryz.ntmps47
         go_wp2_with fail
         refine bodyPost_ret (v := .tuple #[.agg #[.int .i64 0, .int .i64 0, .int .i64 0], .int .i64 10]) (by simp [results, Tryz.results47, go_sem]) rfl ⟨rfl, ?_⟩
         repeat (first | exact Below.refl _ _ | refine below_drewN ?_ _ | refine Below.setCell ?_ (by simp) _ | refine Below.alloc ?_ (by simp) _))

theorem ydays (k : Int) (h1 : 2000 ≤ k) (h2 : k ≤ 2099) : Cal.yst (k + 1) = Cal.yst k + (if Cal.lpB k then 366 else 365) := by
  cases h : Cal.lpB k
  · rw [← yst_plain k h1 h2 h]; rfl
  · rw [← yst_leap k h1 h2 h]; simp; omega
theorem year_at (n k : Int) (h0 : 0 ≤ n) (h : n < 36525) (_k1 : 2000 ≤ k) (_k2 : k ≤ 2099) (a : Cal.yst k ≤ n) (b : n < Cal.yst (k + 1)) : Cal.yOf n = k := by
  have hy := Cal.yOf_yst n h0 h
  have hb := Cal.yOf_bd n h0 h
  rcases Int.lt_trichotomy (Cal.yOf n) k with g | g | g
  · have := Cal.yst_le (Cal.yOf n + 1) k (by omega); omega
  · exact g
  · have := Cal.yst_le (k + 1) (Cal.yOf n) (by omega); omega

set_option maxRecDepth 100000 in
set_option maxHeartbeats 2000000 in
theorem rDate_walk (n : Int) (w : World) (h1 : 0 ≤ n) (h2 : n < 36525) :
    Calls Tryz.prog 47 #[.int .i64 n] w fun e w' => e = .returned (.tuple #[.agg #[.int .i64 (Cal.yOf n), .int .i64 (Cal.mOf n), .int .i64 (Cal.dOf n)], .int .i64 0]) ∧ Below w.heap.size w w' := by
  have hyb := Cal.yOf_bd n h1 h2
  have hyy := Cal.yOf_yst n h1 h2
  go_enter Tryz.func47, Tryz.ntmps47
  go_wp2_with fail
  go_loop [4, 5] (fun y r => ∃ k : Int, 2000 ≤ k ∧ k ≤ 2099 ∧ y = .int .i64 k ∧ 0 ≤ n - Cal.yst k ∧ r = .int .i64 (n - Cal.yst k)) (fun y _ => (2099 - intOf y).toNat)
  case atStart => exact ⟨2000, by omega, by omega, rfl, by rw [yst_2000]; omega, by rw [yst_2000, Int.sub_zero]⟩
  case round =>
    obtain ⟨k, hk1, hk2, rfl, hr, rfl⟩ := hrel
    have hy := Cal.yst_bd k hk1 hk2
    have hd := ydays k hk1 hk2
    have hend : Cal.yst 2100 = 36525 := by decide +kernel
    cases hl : Cal.lpB k
    · rw [hl] at hd
      have hd' : Cal.yst (k + 1) = Cal.yst k + 365 := hd
      have HL := hide hl
      clear hl hd
      by_cases hlt : n - Cal.yst k < 365
      · have hyk := year_at n k h1 h2 hk1 hk2 (by omega) (by omega)
        have hhi : n - Cal.yst k < Cal.cum k 13 := by have := Cal.yst_succ k hk1 hk2; omega
        clear hd'
        go_wp2_with (go_at_call 65; refine (rleap_at k false _ HL.out).mono ?_; rintro e w' ⟨rfl, rfl⟩)
        go_loop [5, 7] (fun r i => ∃ j : Int, 1 ≤ j ∧ j ≤ 12 ∧ i = .int .i64 j ∧ 0 ≤ n - Cal.yst k - Cal.cum k j ∧ r = .int .i64 (n - Cal.yst k - Cal.cum k j)) (fun _ i => (12 - intOf i).toNat)
        case atStart => exact ⟨1, by omega, by omega, rfl, by rw [Cal.cum_one]; omega, by rw [Cal.cum_one, Int.sub_zero]⟩
        case round =>
          obtain ⟨j, hj1, hj2, rfl, hrj, rfl⟩ := hrel
          have hc := Cal.cum_bd k j hj1 (by omega)
          have hdm := Cal.dim_bd k j
          by_cases hdj : Cal.dim k j ≤ n - Cal.yst k - Cal.cum k j
          · have hst := month_step k _ j hhi hj1 hj2 hdj
            have HN := hide (month_next k (n - Cal.yst k) j hj1 hj2)
            go_wp2_with (go_at_call 66; refine (rlength_any _ _ _).mono ?_; rintro e w' ⟨rfl, rfl⟩)
            go_round
            case rel => exact ⟨j + 1, by omega, by omega, rfl, hst.2, by rw [HN.out]⟩
            case measure => simp [intOf]; omega
          · have HM := hide (month_at k (n - Cal.yst k) j hj1 hj2 hrj hdj)
            have HYK := hide hyk
            clear hyk
            go_wp2_with (go_at_call 66; refine (rlength_any _ _ _).mono ?_; rintro e w' ⟨rfl, rfl⟩)
            have em : Cal.mOf n = j := by unfold Cal.mOf; rw [HYK.out, HM.out]
            have ed : Cal.dOf n = n - Cal.yst k - Cal.cum k j + 1 := by unfold Cal.dOf; rw [em, HYK.out]
            rw [em, ed, HYK.out]
            refine bodyPost_ret (v := .tuple #[.agg #[.int .i64 k, .int .i64 j, .int .i64 (n - Cal.yst k - Cal.cum k j + 1)], .int .i64 0]) (by simp [results, Tryz.results47, go_sem]) rfl ⟨rfl, ?_⟩
            repeat (first | exact Below.refl _ _ | refine below_drewN ?_ _ | refine Below.setCell ?_ (by simp) _ | refine Below.alloc ?_ (by simp) _)
      · have hk3 : k + 1 ≤ 2099 := by
          by_cases e : k = 2099
          · subst e
            have : Cal.yst (2099 + 1) = 36525 := hend
            omega
          · omega
        have HS : Hid (n - Cal.yst k - 365 = n - Cal.yst (k + 1)) := by show _ = _; omega
        have hr2 : 0 ≤ n - Cal.yst (k + 1) := by omega
        clear hd'
        go_wp2_with (go_at_call 65; refine (rleap_at k false _ HL.out).mono ?_; rintro e w' ⟨rfl, rfl⟩)
        go_round
        case rel => exact ⟨k + 1, by omega, by omega, rfl, hr2, by rw [HS.out]⟩
        case measure => simp [intOf]; omega
    · rw [hl] at hd
      have hd' : Cal.yst (k + 1) = Cal.yst k + 366 := hd
      have HL := hide hl
      clear hl hd
      by_cases hlt : n - Cal.yst k < 366
      · have hyk := year_at n k h1 h2 hk1 hk2 (by omega) (by omega)
        have hhi : n - Cal.yst k < Cal.cum k 13 := by have := Cal.yst_succ k hk1 hk2; omega
        clear hd'
        go_wp2_with (go_at_call 65; refine (rleap_at k true _ HL.out).mono ?_; rintro e w' ⟨rfl, rfl⟩)
        go_loop [5, 7] (fun r i => ∃ j : Int, 1 ≤ j ∧ j ≤ 12 ∧ i = .int .i64 j ∧ 0 ≤ n - Cal.yst k - Cal.cum k j ∧ r = .int .i64 (n - Cal.yst k - Cal.cum k j)) (fun _ i => (12 - intOf i).toNat)
        case atStart => exact ⟨1, by omega, by omega, rfl, by rw [Cal.cum_one]; omega, by rw [Cal.cum_one, Int.sub_zero]⟩
        case round =>
          obtain ⟨j, hj1, hj2, rfl, hrj, rfl⟩ := hrel
          have hc := Cal.cum_bd k j hj1 (by omega)
          have hdm := Cal.dim_bd k j
          by_cases hdj : Cal.dim k j ≤ n - Cal.yst k - Cal.cum k j
          · have hst := month_step k _ j hhi hj1 hj2 hdj
            have HN := hide (month_next k (n - Cal.yst k) j hj1 hj2)
            go_wp2_with (go_at_call 66; refine (rlength_any _ _ _).mono ?_; rintro e w' ⟨rfl, rfl⟩)
            go_round
            case rel => exact ⟨j + 1, by omega, by omega, rfl, hst.2, by rw [HN.out]⟩
            case measure => simp [intOf]; omega
          · have HM := hide (month_at k (n - Cal.yst k) j hj1 hj2 hrj hdj)
            have HYK := hide hyk
            clear hyk
            go_wp2_with (go_at_call 66; refine (rlength_any _ _ _).mono ?_; rintro e w' ⟨rfl, rfl⟩)
            have em : Cal.mOf n = j := by unfold Cal.mOf; rw [HYK.out, HM.out]
            have ed : Cal.dOf n = n - Cal.yst k - Cal.cum k j + 1 := by unfold Cal.dOf; rw [em, HYK.out]
            rw [em, ed, HYK.out]
            refine bodyPost_ret (v := .tuple #[.agg #[.int .i64 k, .int .i64 j, .int .i64 (n - Cal.yst k - Cal.cum k j + 1)], .int .i64 0]) (by simp [results, Tryz.results47, go_sem]) rfl ⟨rfl, ?_⟩
            repeat (first | exact Below.refl _ _ | refine below_drewN ?_ _ | refine Below.setCell ?_ (by simp) _ | refine Below.alloc ?_ (by simp) _)
      · have hk3 : k + 1 ≤ 2099 := by
          by_cases e : k = 2099
          · subst e
            have : Cal.yst (2099 + 1) = 36525 := hend
            omega
          · omega
        have HS : Hid (n - Cal.yst k - 366 = n - Cal.yst (k + 1)) := by show _ = _; omega
        have hr2 : 0 ≤ n - Cal.yst (k + 1) := by omega
        clear hd'
        go_wp2_with (go_at_call 65; refine (rleap_at k true _ HL.out).mono ?_; rintro e w' ⟨rfl, rfl⟩)
        go_round
        case rel => exact ⟨k + 1, by omega, by omega, rfl, hr2, by rw [HS.out]⟩
        case measure => simp [intOf]; omega

end Go.Proofs.YtdmplojfidkipaaGreat

/- Walks of the document's own answers, layer 1: the minute of a time, weekdays, the date of a day. -/
import Derived.Test.YtdmplojfidkipaaRefB
import Derived.Test.YtdmplojfidkipaaCivH
namespace Go.Proofs.Ytdmplojfidkipaa
open Go.RowKit

set_option maxHeartbeats 400000 in
theorem rMinute_err (y mo d h m c : Int) (w : World) (hn : numE y mo d = (0, c)) (hc : (c == 0) = false) :
    Calls Try.prog 18 #[.agg #[.int .i64 y, .int .i64 mo, .int .i64 d], .int .i64 h, .int .i64 m] w fun e w' => e = .returned (.tuple #[.int .i64 0, .int .i64 c]) ∧ Below w.heap.size w w' := by
  have H := hide hn
  clear hn
  have hc' : (c != 0) = true := by simp [bne, hc]
  go_enter Try.func18, Try.ntmps18
  go_wp2_with fail
  refine (rnumber_is y mo d 0 c _ H.out).mono ?_
  rintro e w1 ⟨rfl, hb1⟩
  go_wp2_with fail
  go_ret2
  refine ⟨rfl, ?_⟩
  repeat (first | exact Below.refl _ _ | refine Below.trans ?_ (hb1.mono (by simp)) | refine below_drewN ?_ _ | refine Below.setCell ?_ (by simp) _ | refine Below.alloc ?_ (by simp) _)

set_option maxHeartbeats 400000 in
theorem rMinute_time (y mo d h m a : Int) (w : World) (hn : numE y mo d = (a, 0)) (ht : h < 0 ∨ 23 < h ∨ m < 0 ∨ 59 < m) :
    Calls Try.prog 18 #[.agg #[.int .i64 y, .int .i64 mo, .int .i64 d], .int .i64 h, .int .i64 m] w fun e w' => e = .returned (.tuple #[.int .i64 0, .int .i64 11]) ∧ Below w.heap.size w w' := by
  have H := hide hn
  clear hn
  by_cases c1 : h < 0 <;> by_cases c2 : 23 < h <;> by_cases c3 : m < 0 <;> by_cases c4 : 59 < m
  all_goals first
    | omega
    | (clear ht
       go_enter Try.func18, Try.ntmps18
       go_wp2_with fail
       refine (rnumber_is y mo d a 0 _ H.out).mono ?_
       rintro e w1 ⟨rfl, hb1⟩
       go_wp2_with fail
       go_ret2
       refine ⟨rfl, ?_⟩
       repeat (first | exact Below.refl _ _ | refine Below.trans ?_ (hb1.mono (by simp)) | refine below_drewN ?_ _ | refine Below.setCell ?_ (by simp) _ | refine Below.alloc ?_ (by simp) _))

set_option maxHeartbeats 400000 in
theorem rMinute_ok (y mo d h m a : Int) (w : World) (hn : numE y mo d = (a, 0)) (ha : 0 ≤ a) (ha2 : a < 36525) (hh : 0 ≤ h) (hh2 : h ≤ 23) (hm : 0 ≤ m) (hm2 : m ≤ 59) :
    Calls Try.prog 18 #[.agg #[.int .i64 y, .int .i64 mo, .int .i64 d], .int .i64 h, .int .i64 m] w fun e w' => e = .returned (.tuple #[.int .i64 (a * 1440 + h * 60 + m), .int .i64 0]) ∧ Below w.heap.size w w' := by
  have H := hide hn
  clear hn
  go_enter Try.func18, Try.ntmps18
  go_wp2_with fail
  refine (rnumber_is y mo d a 0 _ H.out).mono ?_
  rintro e w1 ⟨rfl, hb1⟩
  go_wp2_with fail
  go_ret2
  refine ⟨rfl, ?_⟩
  repeat (first | exact Below.refl _ _ | refine Below.trans ?_ (hb1.mono (by simp)) | refine below_drewN ?_ _ | refine Below.setCell ?_ (by simp) _ | refine Below.alloc ?_ (by simp) _)

theorem rMinute_any (y mo d h m : Int) (w : World) :
    Calls Try.prog 18 #[.agg #[.int .i64 y, .int .i64 mo, .int .i64 d], .int .i64 h, .int .i64 m] w fun e w' => e = .returned (.tuple #[.int .i64 (minE y mo d h m).1, .int .i64 (minE y mo d h m).2]) ∧ Below w.heap.size w w' := by
  rcases numE_cases y mo d with ⟨c, hn, hc⟩ | ⟨a, hn, ha, ha2⟩
  · have e : minE y mo d h m = (0, c) := by unfold minE; rw [hn]; simp only; rw [if_neg (by omega)]
    rw [e]
    exact rMinute_err y mo d h m c w hn (by rcases hc with rfl | rfl <;> rfl)
  · by_cases ht : timeB h m = true
    · have e : minE y mo d h m = (a * 1440 + h * 60 + m, 0) := by unfold minE; rw [hn]; simp only; rw [if_pos trivial, if_pos ht]
      rw [e]
      rw [timeB_iff] at ht
      exact rMinute_ok y mo d h m a w hn ha ha2 ht.1 ht.2.1 ht.2.2.1 ht.2.2.2
    · have e : minE y mo d h m = (0, 11) := by unfold minE; rw [hn]; simp only; rw [if_pos trivial, if_neg ht]
      rw [e]
      rw [timeB_iff] at ht
      exact rMinute_time y mo d h m a w hn (by omega)

theorem tmod7_aux (t u : Int) (hb : 0 ≤ u ∧ u ≤ 6) (h : (t < 0 ∧ t + 7 = u) ∨ (¬ t < 0 ∧ t = u)) : -7 ≤ t ∧ t ≤ 6 ∧ (t = u ∨ t + 7 = u) := by omega
theorem tmod7 (n : Int) : -7 ≤ n.tmod 7 ∧ n.tmod 7 ≤ 6 ∧ (n.tmod 7 = n % 7 ∨ n.tmod 7 + 7 = n % 7) := by
  have hb : 0 ≤ n % 7 ∧ n % 7 ≤ 6 := by omega
  by_cases h : n.tmod 7 < 0
  · exact tmod7_aux _ _ hb (.inl ⟨h, (split_neg n 7 (by omega) h).1⟩)
  · exact tmod7_aux _ _ hb (.inr ⟨h, (split_pos n 7 (by omega) h).1⟩)
theorem rwday_go (n : Int) : (n.tmod 7 + 7 + 5).tmod 7 = Cal.wday n := by
  have := tmod7 n
  rw [Int.tmod_eq_emod_of_nonneg (by omega)]
  unfold Cal.wday
  omega

set_option maxHeartbeats 400000 in
theorem rWeekday_any (n : Int) (w : World) :
    Calls Try.prog 17 #[.int .i64 n] w fun e w' => e = .returned (.int .i64 (Cal.wday n)) ∧ w = w' := by
  have h7 : -7 ≤ n.tmod 7 := (tmod7 n).1
  have h7' : n.tmod 7 ≤ 6 := (tmod7 n).2.1
  have HW := hide (rwday_go n)
  go_enter Try.func17, Try.ntmps17
  go_wp2_with fail
  go_ret
  exact ⟨ret_int (by first | exact HW.out | (rw [← HW.out]; exact (Int.tmod_eq_emod_of_nonneg (by omega)).symm)), rfl⟩

set_option maxHeartbeats 400000 in
theorem rDate_no (n : Int) (w : World) (h : n < 0 ∨ 36525 ≤ n) :
    Calls Try.prog 26 #[.int .i64 n] w fun e w' => e = .returned (.tuple #[.agg #[.int .i64 0, .int .i64 0, .int .i64 0], .int .i64 10]) ∧ Below w.heap.size w w' := by
  rcases h with h | h
  all_goals
    by_cases h0 : n < 0
    all_goals first
      | omega
      | (go_enter Try.func26, Try.ntmps26
         go_wp2_with fail
         refine bodyPost_ret (v := .tuple #[.agg #[.int .i64 0, .int .i64 0, .int .i64 0], .int .i64 10]) (by simp [results, Try.results26, go_sem]) rfl ⟨rfl, ?_⟩
         repeat (first | exact Below.refl _ _ | refine below_drewN ?_ _ | refine Below.setCell ?_ (by simp) _ | refine Below.alloc ?_ (by simp) _))

theorem ydays (k : Int) (h1 : 2000 ≤ k) (h2 : k ≤ 2099) : Cal.yst (k + 1) = Cal.yst k + (if Cal.lpB k then 366 else 365) := by
  cases h : Cal.lpB k
  · rw [← yst_plain k h1 h2 h]; rfl
  · rw [← yst_leap k h1 h2 h]; simp; omega
theorem year_at (n k : Int) (h0 : 0 ≤ n) (h : n < 36525) (_k1 : 2000 ≤ k) (_k2 : k ≤ 2099) (a : Cal.yst k ≤ n) (b : n < Cal.yst (k + 1)) : Cal.yOf n = k := by
  have hy := Cal.yOf_yst n h0 h
  have hb := Cal.yOf_bd n h0 h
  rcases Int.lt_trichotomy (Cal.yOf n) k with g | g | g
  · have := Cal.yst_le (Cal.yOf n + 1) k (by omega); omega
  · exact g
  · have := Cal.yst_le (k + 1) (Cal.yOf n) (by omega); omega

set_option maxRecDepth 100000 in
set_option maxHeartbeats 2000000 in
theorem rDate_walk (n : Int) (w : World) (h1 : 0 ≤ n) (h2 : n < 36525) :
    Calls Try.prog 26 #[.int .i64 n] w fun e w' => e = .returned (.tuple #[.agg #[.int .i64 (Cal.yOf n), .int .i64 (Cal.mOf n), .int .i64 (Cal.dOf n)], .int .i64 0]) ∧ Below w.heap.size w w' := by
  have hyb := Cal.yOf_bd n h1 h2
  have hyy := Cal.yOf_yst n h1 h2
  go_enter Try.func26, Try.ntmps26
  go_wp2_with fail
  go_loop [4, 5] (fun y r => ∃ k : Int, 2000 ≤ k ∧ k ≤ 2099 ∧ y = .int .i64 k ∧ 0 ≤ n - Cal.yst k ∧ r = .int .i64 (n - Cal.yst k)) (fun y _ => (2099 - intOf y).toNat)
  case atStart => exact ⟨2000, by omega, by omega, rfl, by rw [yst_2000]; omega, by rw [yst_2000, Int.sub_zero]⟩
  case round =>
    obtain ⟨k, hk1, hk2, rfl, hr, rfl⟩ := hrel
    have hy := Cal.yst_bd k hk1 hk2
    have hd := ydays k hk1 hk2
    have hend : Cal.yst 2100 = 36525 := by decide +kernel
    cases hl : Cal.lpB k
    · rw [hl] at hd
      have hd' : Cal.yst (k + 1) = Cal.yst k + 365 := hd
      have HL := hide hl
      clear hl hd
      by_cases hlt : n - Cal.yst k < 365
      · have hyk := year_at n k h1 h2 hk1 hk2 (by omega) (by omega)
        have hhi : n - Cal.yst k < Cal.cum k 13 := by have := Cal.yst_succ k hk1 hk2; omega
        clear hd'
        go_wp2_with (go_at_call 37; refine (rleap_at k false _ HL.out).mono ?_; rintro e w' ⟨rfl, rfl⟩)
        go_loop [5, 7] (fun r i => ∃ j : Int, 1 ≤ j ∧ j ≤ 12 ∧ i = .int .i64 j ∧ 0 ≤ n - Cal.yst k - Cal.cum k j ∧ r = .int .i64 (n - Cal.yst k - Cal.cum k j)) (fun _ i => (12 - intOf i).toNat)
        case atStart => exact ⟨1, by omega, by omega, rfl, by rw [Cal.cum_one]; omega, by rw [Cal.cum_one, Int.sub_zero]⟩
        case round =>
          obtain ⟨j, hj1, hj2, rfl, hrj, rfl⟩ := hrel
          have hc := Cal.cum_bd k j hj1 (by omega)
          have hdm := Cal.dim_bd k j
          by_cases hdj : Cal.dim k j ≤ n - Cal.yst k - Cal.cum k j
          · have hst := month_step k _ j hhi hj1 hj2 hdj
            have HN := hide (month_next k (n - Cal.yst k) j hj1 hj2)
            go_wp2_with (go_at_call 27; refine (rlength_any _ _ _).mono ?_; rintro e w' ⟨rfl, rfl⟩)
            go_round
            case rel => exact ⟨j + 1, by omega, by omega, rfl, hst.2, by rw [HN.out]⟩
            case measure => simp [intOf]; omega
          · have HM := hide (month_at k (n - Cal.yst k) j hj1 hj2 hrj hdj)
            have HYK := hide hyk
            clear hyk
            go_wp2_with (go_at_call 27; refine (rlength_any _ _ _).mono ?_; rintro e w' ⟨rfl, rfl⟩)
            have em : Cal.mOf n = j := by unfold Cal.mOf; rw [HYK.out, HM.out]
            have ed : Cal.dOf n = n - Cal.yst k - Cal.cum k j + 1 := by unfold Cal.dOf; rw [em, HYK.out]
            rw [em, ed, HYK.out]
            refine bodyPost_ret (v := .tuple #[.agg #[.int .i64 k, .int .i64 j, .int .i64 (n - Cal.yst k - Cal.cum k j + 1)], .int .i64 0]) (by simp [results, Try.results26, go_sem]) rfl ⟨rfl, ?_⟩
            repeat (first | exact Below.refl _ _ | refine below_drewN ?_ _ | refine Below.setCell ?_ (by simp) _ | refine Below.alloc ?_ (by simp) _)
      · have hk3 : k + 1 ≤ 2099 := by
          by_cases e : k = 2099
          · subst e
            have : Cal.yst (2099 + 1) = 36525 := hend
            omega
          · omega
        have HS : Hid (n - Cal.yst k - 365 = n - Cal.yst (k + 1)) := by show _ = _; omega
        have hr2 : 0 ≤ n - Cal.yst (k + 1) := by omega
        clear hd'
        go_wp2_with (go_at_call 37; refine (rleap_at k false _ HL.out).mono ?_; rintro e w' ⟨rfl, rfl⟩)
        go_round
        case rel => exact ⟨k + 1, by omega, by omega, rfl, hr2, by rw [HS.out]⟩
        case measure => simp [intOf]; omega
    · rw [hl] at hd
      have hd' : Cal.yst (k + 1) = Cal.yst k + 366 := hd
      have HL := hide hl
      clear hl hd
      by_cases hlt : n - Cal.yst k < 366
      · have hyk := year_at n k h1 h2 hk1 hk2 (by omega) (by omega)
        have hhi : n - Cal.yst k < Cal.cum k 13 := by have := Cal.yst_succ k hk1 hk2; omega
        clear hd'
        go_wp2_with (go_at_call 37; refine (rleap_at k true _ HL.out).mono ?_; rintro e w' ⟨rfl, rfl⟩)
        go_loop [5, 7] (fun r i => ∃ j : Int, 1 ≤ j ∧ j ≤ 12 ∧ i = .int .i64 j ∧ 0 ≤ n - Cal.yst k - Cal.cum k j ∧ r = .int .i64 (n - Cal.yst k - Cal.cum k j)) (fun _ i => (12 - intOf i).toNat)
        case atStart => exact ⟨1, by omega, by omega, rfl, by rw [Cal.cum_one]; omega, by rw [Cal.cum_one, Int.sub_zero]⟩
        case round =>
          obtain ⟨j, hj1, hj2, rfl, hrj, rfl⟩ := hrel
          have hc := Cal.cum_bd k j hj1 (by omega)
          have hdm := Cal.dim_bd k j
          by_cases hdj : Cal.dim k j ≤ n - Cal.yst k - Cal.cum k j
          · have hst := month_step k _ j hhi hj1 hj2 hdj
            have HN := hide (month_next k (n - Cal.yst k) j hj1 hj2)
            go_wp2_with (go_at_call 27; refine (rlength_any _ _ _).mono ?_; rintro e w' ⟨rfl, rfl⟩)
            go_round
            case rel => exact ⟨j + 1, by omega, by omega, rfl, hst.2, by rw [HN.out]⟩
            case measure => simp [intOf]; omega
          · have HM := hide (month_at k (n - Cal.yst k) j hj1 hj2 hrj hdj)
            have HYK := hide hyk
            clear hyk
            go_wp2_with (go_at_call 27; refine (rlength_any _ _ _).mono ?_; rintro e w' ⟨rfl, rfl⟩)
            have em : Cal.mOf n = j := by unfold Cal.mOf; rw [HYK.out, HM.out]
            have ed : Cal.dOf n = n - Cal.yst k - Cal.cum k j + 1 := by unfold Cal.dOf; rw [em, HYK.out]
            rw [em, ed, HYK.out]
            refine bodyPost_ret (v := .tuple #[.agg #[.int .i64 k, .int .i64 j, .int .i64 (n - Cal.yst k - Cal.cum k j + 1)], .int .i64 0]) (by simp [results, Try.results26, go_sem]) rfl ⟨rfl, ?_⟩
            repeat (first | exact Below.refl _ _ | refine below_drewN ?_ _ | refine Below.setCell ?_ (by simp) _ | refine Below.alloc ?_ (by simp) _)
      · have hk3 : k + 1 ≤ 2099 := by
          by_cases e : k = 2099
          · subst e
            have : Cal.yst (2099 + 1) = 36525 := hend
            omega
          · omega
        have HS : Hid (n - Cal.yst k - 366 = n - Cal.yst (k + 1)) := by show _ = _; omega
        have hr2 : 0 ≤ n - Cal.yst (k + 1) := by omega
        clear hd'
        go_wp2_with (go_at_call 37; refine (rleap_at k true _ HL.out).mono ?_; rintro e w' ⟨rfl, rfl⟩)
        go_round
        case rel => exact ⟨k + 1, by omega, by omega, rfl, hr2, by rw [HS.out]⟩
        case measure => simp [intOf]; omega

end Go.Proofs.Ytdmplojfidkipaa

/- CivilMonths walked: a year's months have its days, for every number of a year. -/
import Derived.Test.YtbohogaopfkmlaaDoorCivN
namespace Go.Proofs.YtbohogaopfkmlaaDoor
open Go.RowKit

theorem cum_next (y j : Int) (h1 : 0 ≤ j) (h2 : j ≤ 13) : Cal.cum y (j + 1) = Cal.cum y j + Cal.dim y j := by
  by_cases h0 : j = 0
  · subst h0; simp [Cal.cum, Cal.dim]
  · by_cases h13 : j = 13
    · subst h13; simp [Cal.cum, Cal.dim]
    · exact Cal.cum_succ y j (by omega) (by omega)
theorem cum_bd0 (y j : Int) (h1 : 0 ≤ j) (h2 : j ≤ 14) : 0 ≤ Cal.cum y j ∧ Cal.cum y j ≤ 366 := by
  by_cases h0 : j = 0
  · subst h0; simp [Cal.cum]
  · by_cases h14 : j = 14
    · subst h14
      have e := cum_next y 13 (by omega) (by omega)
      have e2 : Cal.cum y (13 + 1) = Cal.cum y 14 := rfl
      have := Cal.cum_bd y 13 (by omega) (by omega)
      have := Cal.dim_out y 13 (by omega)
      omega
    · exact Cal.cum_bd y j (by omega) (by omega)
theorem cum_14 (y : Int) (h1 : 2000 ≤ y) (h2 : y ≤ 2099) : Cal.cum y 14 = if y % 4 = 0 then 366 else 365 := by
  have e := cum_next y 13 (by omega) (by omega)
  have e2 : Cal.cum y (13 + 1) = Cal.cum y 14 := rfl
  rw [← e2, e, Cal.cum_13, Cal.dim2_in y h1 h2, Cal.dim_out y 13 (by omega)]
  split <;> rfl
theorem jan_1 (y : Int) (h1 : 2000 ≤ y) (h2 : y ≤ 2099) : numE y 1 1 = (Cal.yst y, 0) := by
  rw [numE_0 y 1 1 (by rw [Cal.isB_iff]; simp [Cal.dim]) h1 h2]
  unfold Cal.num
  rw [Cal.cum_one]; simp
theorem dec_31 (y : Int) (h1 : 2000 ≤ y) (h2 : y ≤ 2099) : numE y 12 31 = (Cal.yst y + (Cal.cum y 14 - 1), 0) := by
  rw [numE_0 y 12 31 (by rw [Cal.isB_iff]; simp [Cal.dim]) h1 h2]
  have e1 := cum_next y 12 (by omega) (by omega)
  have e2 := cum_next y 13 (by omega) (by omega)
  have e3 : Cal.cum y (12 + 1) = Cal.cum y 13 := rfl
  have e4 : Cal.cum y (13 + 1) = Cal.cum y 14 := rfl
  have d12 : Cal.dim y 12 = 31 := by simp [Cal.dim]
  have d13 : Cal.dim y 13 = 0 := Cal.dim_out y 13 (by omega)
  unfold Cal.num
  have : Cal.yst y + Cal.cum y 12 + (31 - 1) = Cal.yst y + (Cal.cum y 14 - 1) := by omega
  rw [this]
theorem length_at (y m v : Int) (w : World) (h : Cal.dim y m = v) :
    Calls Tryd.prog 23 #[.int .i64 y, .int .i64 m] w fun e w' => e = .returned (.int .i64 v) ∧ w = w' := by
  subst h; exact length_any y m w
theorem leap_at (y : Int) (b : Bool) (w : World) (h : Cal.lpB y = b) :
    Calls Tryd.prog 21 #[.int .i64 y] w fun e w' => e = .returned (.bool b) ∧ w = w' := by
  subst h; exact leap_any y w
theorem lp_2100 : Cal.lpB 2100 = false := by decide +kernel
theorem lp_1900 : Cal.lpB 1900 = false := by decide +kernel
theorem lp_2400 : Cal.lpB 2400 = true := by decide +kernel

set_option maxRecDepth 100000 in
set_option maxHeartbeats 2000000 in
theorem months_yes (n y A : Int) (w : World) (ht : Tab w) (h1 : 0 ≤ n) (h2 : n ≤ 255) (hy : 2000 + n % 100 = y) (hq : n % 4 = 0) (hlp : Cal.lpB y = true)
    (hjan : numE y 1 1 = (A, 0)) (hdec : numE y 12 31 = (A + 365, 0)) (hsum : Cal.cum y 14 = 366) :
    Calls Tryd.prog 7 #[.int .u8 n] w fun e w' => e = .returned (.bool true) ∧ Below w.heap.size w w' := by
  have HT := hide ht
  have HY := hide hy
  have HQ := hide hq
  have HL := hide hlp
  have HJ := hide hjan
  have HD := hide hdec
  have HS := hide hsum
  have hn : 0 ≤ n % 100 ∧ n % 100 ≤ 99 := by omega
  clear ht hy hq hlp hjan hdec hsum
  go_enter Tryd.func7, Tryd.ntmps7
  go_wp2_with fail
  refine (known_any _ HT.out).mono ?_
  rintro e w1 ⟨rfl, hb1⟩
  go_wp2_with fail
  rw [HY.out]
  go_loop [4, 5] (fun s i => ∃ j : Int, 0 ≤ j ∧ j ≤ 14 ∧ i = .int .i64 j ∧ s = .int .i64 (Cal.cum y j)) (fun _ i => (14 - intOf i).toNat)
  case atStart => exact ⟨0, by omega, by omega, rfl, rfl⟩
  case round =>
    obtain ⟨j, hj1, hj2, rfl, rfl⟩ := hrel
    by_cases hlt : j ≤ 13
    · have hcb : 0 ≤ Cal.cum y j ∧ Cal.cum y j ≤ 366 := cum_bd0 y j hj1 hj2
      have HN := hide (cum_next y j hj1 hlt)
      by_cases h0 : j = 0
      · subst h0
        have HV := hide (Cal.dim_out y 0 (by omega))
        generalize Cal.cum y 0 = C at *
        go_wp2_with (go_at_call 23; refine (length_at _ _ 0 _ HV.out).mono ?_; rintro e w' ⟨rfl, rfl⟩)
        go_round
        case rel => exact ⟨1, by omega, by omega, rfl, by rw [show (1 : Int) = 0 + 1 from rfl, HN.out, HV.out]; simp⟩
        case measure => simp [intOf]
      · by_cases h13 : j = 13
        · subst h13
          have HV := hide (Cal.dim_out y 13 (by omega))
          generalize Cal.cum y 13 = C at *
          go_wp2_with (go_at_call 23; refine (length_at _ _ 0 _ HV.out).mono ?_; rintro e w' ⟨rfl, rfl⟩)
          go_round
          case rel => exact ⟨14, by omega, by omega, rfl, by rw [show (14 : Int) = 13 + 1 from rfl, HN.out, HV.out]; simp⟩
          case measure => simp [intOf]
        · have hd1 := Cal.dim_pos y j (by omega) (by omega)
          have hd2 := (Cal.dim_bd y j).2
          have k0 : (Cal.dim y j == 0) = false := by rw [beq_eq_false_iff_ne]; omega
          have j0 : (j == 0) = false := by rw [beq_eq_false_iff_ne]; omega
          have j13 : (j == 13) = false := by rw [beq_eq_false_iff_ne]; omega
          clear h0 h13
          go_wp2_with (go_at_call 23; refine (length_any _ _ _).mono ?_; rintro e w' ⟨rfl, rfl⟩)
          go_round
          case rel => exact ⟨j + 1, by omega, by omega, rfl, by rw [HN.out]⟩
          case measure => simp [intOf]; omega
    · obtain rfl : j = 14 := by omega
      rw [HS.out]
      have q4 : (n % 4 == 0) = true := by rw [beq_iff_eq]; exact HQ.out
      have q5 : (n % 100 % 4 == 0) = true := by rw [beq_iff_eq]; have := HQ.out; omega
      go_wp2_with fail
      refine (number_is y 1 1 A 0 _ HJ.out).mono ?_
      rintro e w2 ⟨rfl, hb2⟩
      go_wp2_with fail
      refine (number_is y 12 31 (A + 365) 0 _ HD.out).mono ?_
      rintro e w3 ⟨rfl, hb3⟩
      go_wp2_with fail
      refine (leap_at _ true _ HL.out).mono ?_
      rintro e w4 ⟨rfl, rfl⟩
      go_wp2_with fail
      refine (leap_at _ false _ lp_2100).mono ?_
      rintro e w4 ⟨rfl, rfl⟩
      go_wp2_with fail
      refine (leap_at _ false _ lp_1900).mono ?_
      rintro e w4 ⟨rfl, rfl⟩
      go_wp2_with fail
      refine (leap_at _ true _ lp_2400).mono ?_
      rintro e w4 ⟨rfl, rfl⟩
      go_wp2_with fail
      go_ret
      exact ⟨rfl, (hb1.trans (hb2.mono hb1.size)).trans (hb3.mono (Nat.le_trans hb1.size hb2.size))⟩

set_option maxRecDepth 100000 in
set_option maxHeartbeats 2000000 in
theorem months_no (n y A : Int) (w : World) (ht : Tab w) (h1 : 0 ≤ n) (h2 : n ≤ 255) (hy : 2000 + n % 100 = y) (hq : ¬ n % 4 = 0) (hlp : Cal.lpB y = false)
    (hjan : numE y 1 1 = (A, 0)) (hdec : numE y 12 31 = (A + 364, 0)) (hsum : Cal.cum y 14 = 365) :
    Calls Tryd.prog 7 #[.int .u8 n] w fun e w' => e = .returned (.bool true) ∧ Below w.heap.size w w' := by
  have HT := hide ht
  have HY := hide hy
  have HQ := hide hq
  have HL := hide hlp
  have HJ := hide hjan
  have HD := hide hdec
  have HS := hide hsum
  have hn : 0 ≤ n % 100 ∧ n % 100 ≤ 99 := by omega
  clear ht hy hq hlp hjan hdec hsum
  go_enter Tryd.func7, Tryd.ntmps7
  go_wp2_with fail
  refine (known_any _ HT.out).mono ?_
  rintro e w1 ⟨rfl, hb1⟩
  go_wp2_with fail
  rw [HY.out]
  go_loop [4, 5] (fun s i => ∃ j : Int, 0 ≤ j ∧ j ≤ 14 ∧ i = .int .i64 j ∧ s = .int .i64 (Cal.cum y j)) (fun _ i => (14 - intOf i).toNat)
  case atStart => exact ⟨0, by omega, by omega, rfl, rfl⟩
  case round =>
    obtain ⟨j, hj1, hj2, rfl, rfl⟩ := hrel
    by_cases hlt : j ≤ 13
    · have hcb : 0 ≤ Cal.cum y j ∧ Cal.cum y j ≤ 366 := cum_bd0 y j hj1 hj2
      have HN := hide (cum_next y j hj1 hlt)
      by_cases h0 : j = 0
      · subst h0
        have HV := hide (Cal.dim_out y 0 (by omega))
        generalize Cal.cum y 0 = C at *
        go_wp2_with (go_at_call 23; refine (length_at _ _ 0 _ HV.out).mono ?_; rintro e w' ⟨rfl, rfl⟩)
        go_round
        case rel => exact ⟨1, by omega, by omega, rfl, by rw [show (1 : Int) = 0 + 1 from rfl, HN.out, HV.out]; simp⟩
        case measure => simp [intOf]
      · by_cases h13 : j = 13
        · subst h13
          have HV := hide (Cal.dim_out y 13 (by omega))
          generalize Cal.cum y 13 = C at *
          go_wp2_with (go_at_call 23; refine (length_at _ _ 0 _ HV.out).mono ?_; rintro e w' ⟨rfl, rfl⟩)
          go_round
          case rel => exact ⟨14, by omega, by omega, rfl, by rw [show (14 : Int) = 13 + 1 from rfl, HN.out, HV.out]; simp⟩
          case measure => simp [intOf]
        · have hd1 := Cal.dim_pos y j (by omega) (by omega)
          have hd2 := (Cal.dim_bd y j).2
          have k0 : (Cal.dim y j == 0) = false := by rw [beq_eq_false_iff_ne]; omega
          have j0 : (j == 0) = false := by rw [beq_eq_false_iff_ne]; omega
          have j13 : (j == 13) = false := by rw [beq_eq_false_iff_ne]; omega
          clear h0 h13
          go_wp2_with (go_at_call 23; refine (length_any _ _ _).mono ?_; rintro e w' ⟨rfl, rfl⟩)
          go_round
          case rel => exact ⟨j + 1, by omega, by omega, rfl, by rw [HN.out]⟩
          case measure => simp [intOf]; omega
    · obtain rfl : j = 14 := by omega
      rw [HS.out]
      have q4 : (n % 4 == 0) = false := by rw [beq_eq_false_iff_ne]; exact HQ.out
      have q5 : (n % 100 % 4 == 0) = false := by rw [beq_eq_false_iff_ne]; have := HQ.out; omega
      go_wp2_with fail
      refine (number_is y 1 1 A 0 _ HJ.out).mono ?_
      rintro e w2 ⟨rfl, hb2⟩
      go_wp2_with fail
      refine (number_is y 12 31 (A + 364) 0 _ HD.out).mono ?_
      rintro e w3 ⟨rfl, hb3⟩
      go_wp2_with fail
      refine (leap_at _ false _ HL.out).mono ?_
      rintro e w4 ⟨rfl, rfl⟩
      go_wp2_with fail
      refine (leap_at _ false _ lp_2100).mono ?_
      rintro e w4 ⟨rfl, rfl⟩
      go_wp2_with fail
      refine (leap_at _ false _ lp_1900).mono ?_
      rintro e w4 ⟨rfl, rfl⟩
      go_wp2_with fail
      refine (leap_at _ true _ lp_2400).mono ?_
      rintro e w4 ⟨rfl, rfl⟩
      go_wp2_with fail
      go_ret
      exact ⟨rfl, (hb1.trans (hb2.mono hb1.size)).trans (hb3.mono (Nat.le_trans hb1.size hb2.size))⟩

theorem months_walk (n : Int) (w : World) (ht : Tab w) (h1 : 0 ≤ n) (h2 : n ≤ 255) :
    Calls Tryd.prog 7 #[.int .u8 n] w fun e w' => e = .returned (.bool true) ∧ Below w.heap.size w w' := by
  have hy1 : 2000 ≤ 2000 + n % 100 := by omega
  have hy2 : 2000 + n % 100 ≤ 2099 := by omega
  have hs := cum_14 (2000 + n % 100) hy1 hy2
  have hl := Cal.lp_in (2000 + n % 100) hy1 hy2
  have hj := jan_1 (2000 + n % 100) hy1 hy2
  have hd := dec_31 (2000 + n % 100) hy1 hy2
  by_cases hq : n % 4 = 0
  · rw [if_pos (by omega)] at hs
    rw [decide_eq_true (by omega)] at hl
    rw [hs] at hd
    exact months_yes n _ _ w ht h1 h2 rfl hq hl hj hd hs
  · rw [if_neg (by omega)] at hs
    rw [decide_eq_false (by omega)] at hl
    rw [hs] at hd
    exact months_no n _ _ w ht h1 h2 rfl hq hl hj hd hs

end Go.Proofs.YtbohogaopfkmlaaDoor

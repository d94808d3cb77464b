/- Put together: RefA RefB RefC. -/
import Derived.Test.YtfecnkhoojnkbaaGreatDoorZW1
set_option maxHeartbeats 8000000
set_option maxRecDepth 100000
namespace Go.Proofs.YtfecnkhoojnkbaaGreatDoor
open Go.RowKit
theorem rleap_any (y : Int) (w : World) :
  Calls Tryz.prog 100 #[.int .i64 y] w fun e w' => e = .returned (.bool (Cal.lpB y)) /\ w = w':=by
 by_cases h4 : (y.tmod 4 == 0) = true
 all_goals
  go_enter Tryz.func100,Tryz.ntmps100
  go_wp2
  all_goals
   go_ret
   exact ⟨ret_bool (by simp_all [Cal.lpB]),rfl⟩
theorem idx_1 (w : World) : (Instr.index 172 (.agg #[.int .i64 31,.int .i64 28,.int .i64 31,.int .i64 30,.int .i64 31,.int .i64 30,.int .i64 31,.int .i64 31,.int .i64 30,.int .i64 31,.int .i64 30,.int .i64 31]) (.int .i64 0)).run Tryz.prog w = .ok (.int .i64 31) w:=by kernel_rfl
theorem idx_2 (w : World) : (Instr.index 172 (.agg #[.int .i64 31,.int .i64 28,.int .i64 31,.int .i64 30,.int .i64 31,.int .i64 30,.int .i64 31,.int .i64 31,.int .i64 30,.int .i64 31,.int .i64 30,.int .i64 31]) (.int .i64 1)).run Tryz.prog w = .ok (.int .i64 28) w:=by kernel_rfl
theorem idx_3 (w : World) : (Instr.index 172 (.agg #[.int .i64 31,.int .i64 28,.int .i64 31,.int .i64 30,.int .i64 31,.int .i64 30,.int .i64 31,.int .i64 31,.int .i64 30,.int .i64 31,.int .i64 30,.int .i64 31]) (.int .i64 2)).run Tryz.prog w = .ok (.int .i64 31) w:=by kernel_rfl
theorem idx_4 (w : World) : (Instr.index 172 (.agg #[.int .i64 31,.int .i64 28,.int .i64 31,.int .i64 30,.int .i64 31,.int .i64 30,.int .i64 31,.int .i64 31,.int .i64 30,.int .i64 31,.int .i64 30,.int .i64 31]) (.int .i64 3)).run Tryz.prog w = .ok (.int .i64 30) w:=by kernel_rfl
theorem idx_5 (w : World) : (Instr.index 172 (.agg #[.int .i64 31,.int .i64 28,.int .i64 31,.int .i64 30,.int .i64 31,.int .i64 30,.int .i64 31,.int .i64 31,.int .i64 30,.int .i64 31,.int .i64 30,.int .i64 31]) (.int .i64 4)).run Tryz.prog w = .ok (.int .i64 31) w:=by kernel_rfl
theorem idx_6 (w : World) : (Instr.index 172 (.agg #[.int .i64 31,.int .i64 28,.int .i64 31,.int .i64 30,.int .i64 31,.int .i64 30,.int .i64 31,.int .i64 31,.int .i64 30,.int .i64 31,.int .i64 30,.int .i64 31]) (.int .i64 5)).run Tryz.prog w = .ok (.int .i64 30) w:=by kernel_rfl
theorem idx_7 (w : World) : (Instr.index 172 (.agg #[.int .i64 31,.int .i64 28,.int .i64 31,.int .i64 30,.int .i64 31,.int .i64 30,.int .i64 31,.int .i64 31,.int .i64 30,.int .i64 31,.int .i64 30,.int .i64 31]) (.int .i64 6)).run Tryz.prog w = .ok (.int .i64 31) w:=by kernel_rfl
theorem idx_8 (w : World) : (Instr.index 172 (.agg #[.int .i64 31,.int .i64 28,.int .i64 31,.int .i64 30,.int .i64 31,.int .i64 30,.int .i64 31,.int .i64 31,.int .i64 30,.int .i64 31,.int .i64 30,.int .i64 31]) (.int .i64 7)).run Tryz.prog w = .ok (.int .i64 31) w:=by kernel_rfl
theorem idx_9 (w : World) : (Instr.index 172 (.agg #[.int .i64 31,.int .i64 28,.int .i64 31,.int .i64 30,.int .i64 31,.int .i64 30,.int .i64 31,.int .i64 31,.int .i64 30,.int .i64 31,.int .i64 30,.int .i64 31]) (.int .i64 8)).run Tryz.prog w = .ok (.int .i64 30) w:=by kernel_rfl
theorem idx_10 (w : World) : (Instr.index 172 (.agg #[.int .i64 31,.int .i64 28,.int .i64 31,.int .i64 30,.int .i64 31,.int .i64 30,.int .i64 31,.int .i64 31,.int .i64 30,.int .i64 31,.int .i64 30,.int .i64 31]) (.int .i64 9)).run Tryz.prog w = .ok (.int .i64 31) w:=by kernel_rfl
theorem idx_11 (w : World) : (Instr.index 172 (.agg #[.int .i64 31,.int .i64 28,.int .i64 31,.int .i64 30,.int .i64 31,.int .i64 30,.int .i64 31,.int .i64 31,.int .i64 30,.int .i64 31,.int .i64 30,.int .i64 31]) (.int .i64 10)).run Tryz.prog w = .ok (.int .i64 30) w:=by kernel_rfl
theorem idx_12 (w : World) : (Instr.index 172 (.agg #[.int .i64 31,.int .i64 28,.int .i64 31,.int .i64 30,.int .i64 31,.int .i64 30,.int .i64 31,.int .i64 31,.int .i64 30,.int .i64 31,.int .i64 30,.int .i64 31]) (.int .i64 11)).run Tryz.prog w = .ok (.int .i64 31) w:=by kernel_rfl
theorem idx_run (y m : Int) (h1 : 1 <= m) (h2 : m <= 12) (h : ¬ (m = 2 /\ Cal.lpB y = true)) (w : World) :
  (Instr.index 172 (.agg #[.int .i64 31,.int .i64 28,.int .i64 31,.int .i64 30,.int .i64 31,.int .i64 30,.int .i64 31,.int .i64 31,.int .i64 30,.int .i64 31,.int .i64 30,.int .i64 31]) (.int .i64 (m - 1))).run Tryz.prog w = .ok (.int .i64 (Cal.dim y m)) w:=by
 have hm : m = 1 ∨ m = 2 ∨ m = 3 ∨ m = 4 ∨ m = 5 ∨ m = 6 ∨ m = 7 ∨ m = 8 ∨ m = 9 ∨ m = 10 ∨ m = 11 ∨ m = 12:=by omega
 rcases hm with e | e | e | e | e | e | e | e | e | e | e | e
 ·subst e; rw [<- dim_31 y 1 (by omega)]; exact idx_1 w
 ·subst e; rw [<- dim_28 y (by simpa using h)]; exact idx_2 w
 ·subst e; rw [<- dim_31 y 3 (by omega)]; exact idx_3 w
 ·subst e; rw [<- dim_30 y 4 (by omega)]; exact idx_4 w
 ·subst e; rw [<- dim_31 y 5 (by omega)]; exact idx_5 w
 ·subst e; rw [<- dim_30 y 6 (by omega)]; exact idx_6 w
 ·subst e; rw [<- dim_31 y 7 (by omega)]; exact idx_7 w
 ·subst e; rw [<- dim_31 y 8 (by omega)]; exact idx_8 w
 ·subst e; rw [<- dim_30 y 9 (by omega)]; exact idx_9 w
 ·subst e; rw [<- dim_31 y 10 (by omega)]; exact idx_10 w
 ·subst e; rw [<- dim_30 y 11 (by omega)]; exact idx_11 w
 ·subst e; rw [<- dim_31 y 12 (by omega)]; exact idx_12 w
theorem rleap_at (y : Int) (b : Bool) (w : World) (h : Cal.lpB y = b) :
  Calls Tryz.prog 100 #[.int .i64 y] w fun e w' => e = .returned (.bool b) /\ w = w':=by
 subst h; exact rleap_any y w
theorem rlength_any (y m : Int) (w : World) :
  Calls Tryz.prog 101 #[.int .i64 y,.int .i64 m] w fun e w' => e = .returned (.int .i64 (Cal.dim y m)) /\ w = w':=by
 by_cases h1 : m < 1
 ·rw [Cal.dim_out y m (.inl h1)]
  go_enter Tryz.func101,Tryz.ntmps101
  go_wp2_with fail
  go_ret
  exact ⟨rfl,rfl⟩
 by_cases h12 : 12 < m
 ·rw [Cal.dim_out y m (.inr h12)]
  go_enter Tryz.func101,Tryz.ntmps101
  go_wp2_with fail
  go_ret
  exact ⟨rfl,rfl⟩
 by_cases h2 : m = 2
 ·subst h2
  cases hb : Cal.lpB y
  ·have hix:=idx_2
   rw [<- dim_28 y hb]
   have HB:=hide hb
   clear hb
   go_enter Tryz.func101,Tryz.ntmps101
   go_wp2_with fail
   refine (rleap_at y false _ HB.out).mono ?_
   rintro e w' ⟨rfl,rfl⟩
   go_wp2_with fail
   go_ret
   exact ⟨rfl,rfl⟩
  ·rw [<- dim_29 y hb]
   have HB:=hide hb
   clear hb
   go_enter Tryz.func101,Tryz.ntmps101
   go_wp2_with fail
   refine (rleap_at y true _ HB.out).mono ?_
   rintro e w' ⟨rfl,rfl⟩
   go_wp2_with fail
   go_ret
   exact ⟨rfl,rfl⟩
 ·have hix:=idx_run y m (by omega) (by omega) (fun h => h2 h.1)
  have h2' : (m == 2) = false:=by rw [beq_eq_false_iff_ne]; exact h2
  generalize Cal.dim y m = D at *
  clear h2
  go_enter Tryz.func101,Tryz.ntmps101
  go_wp2_with fail
  go_ret
  exact ⟨rfl,rfl⟩
theorem yst_2000 : Cal.yst 2000 = 0:=by decide +kernel
theorem yst_leap (k : Int) (h1 : 2000 <= k) (h2 : k <= 2099) (h : Cal.lpB k = true) : Cal.yst k + 365 + 1 = Cal.yst (k + 1):=by
 rw [Cal.lp_in k h1 h2,decide_eq_true_eq] at h
 unfold Cal.yst; omega
theorem yst_plain (k : Int) (h1 : 2000 <= k) (h2 : k <= 2099) (h : Cal.lpB k = false) : Cal.yst k + 365 = Cal.yst (k + 1):=by
 rw [Cal.lp_in k h1 h2,decide_eq_false_iff_not] at h
 unfold Cal.yst; omega
theorem ydays (k : Int) (h1 : 2000 <= k) (h2 : k <= 2099) : Cal.yst (k + 1) = Cal.yst k + (if Cal.lpB k then 366 else 365):=by
 cases h : Cal.lpB k
 ·rw [<- yst_plain k h1 h2 h]; rfl
 ·rw [<- yst_leap k h1 h2 h]; simp; omega
theorem year_at (n k : Int) (h0 : 0 <= n) (h : n < 36525) (_k1 : 2000 <= k) (_k2 : k <= 2099) (a : Cal.yst k <= n) (b : n < Cal.yst (k + 1)) : Cal.yOf n = k:=by
 have hy:=Cal.yOf_yst n h0 h
 have hb:=Cal.yOf_bd n h0 h
 rcases Int.lt_trichotomy (Cal.yOf n) k with g | g | g
 ·have:=Cal.yst_le (Cal.yOf n + 1) k (by omega); omega
 ·exact g
 ·have:=Cal.yst_le (k + 1) (Cal.yOf n) (by omega); omega
theorem rDate_walk (n : Int) (w : World) (h1 : 0 <= n) (h2 : n < 36525) :
  Calls Tryz.prog 64 #[.int .i64 n] w fun e w' => e = .returned (.tuple #[.agg #[.int .i64 (Cal.yOf n),.int .i64 (Cal.mOf n),.int .i64 (Cal.dOf n)],.int .i64 0]) /\ Below w.heap.size w w':=by
 have hyb:=Cal.yOf_bd n h1 h2
 have hyy:=Cal.yOf_yst n h1 h2
 go_enter Tryz.func64,Tryz.ntmps64
 go_wp2_with fail
 go_loop [4,5] (fun y r => ∃ k : Int,2000 <= k /\ k <= 2099 /\ y = .int .i64 k /\ 0 <= n - Cal.yst k /\ r = .int .i64 (n - Cal.yst k)) (fun y _ => (2099 - intOf y).toNat)
 case atStart => exact ⟨2000,by omega,by omega,rfl,by rw [yst_2000]; omega,by rw [yst_2000,Int.sub_zero]⟩
 case round =>
  obtain ⟨k,hk1,hk2,rfl,hr,rfl⟩:=hrel
  have hy:=Cal.yst_bd k hk1 hk2
  have hd:=ydays k hk1 hk2
  have hend : Cal.yst 2100 = 36525:=by decide +kernel
  cases hl : Cal.lpB k
  ·rw [hl] at hd
   have hd' : Cal.yst (k + 1) = Cal.yst k + 365:=hd
   have HL:=hide hl
   clear hl hd
   by_cases hlt : n - Cal.yst k < 365
   ·have hyk:=year_at n k h1 h2 hk1 hk2 (by omega) (by omega)
    have hhi : n - Cal.yst k < Cal.cum k 13:=by have:=Cal.yst_succ k hk1 hk2; omega
    clear hd'
    go_wp2_with (go_at_call 100; refine (rleap_at k false _ HL.out).mono ?_; rintro e w' ⟨rfl,rfl⟩)
    go_loop [5,7] (fun r i => ∃ j : Int,1 <= j /\ j <= 12 /\ i = .int .i64 j /\ 0 <= n - Cal.yst k - Cal.cum k j /\ r = .int .i64 (n - Cal.yst k - Cal.cum k j)) (fun _ i => (12 - intOf i).toNat)
    case atStart => exact ⟨1,by omega,by omega,rfl,by rw [Cal.cum_one]; omega,by rw [Cal.cum_one,Int.sub_zero]⟩
    case round =>
     obtain ⟨j,hj1,hj2,rfl,hrj,rfl⟩:=hrel
     have hc:=Cal.cum_bd k j hj1 (by omega)
     have hdm:=Cal.dim_bd k j
     by_cases hdj : Cal.dim k j <= n - Cal.yst k - Cal.cum k j
     ·have hst:=month_step k _ j hhi hj1 hj2 hdj
      have HN:=hide (month_next k (n - Cal.yst k) j hj1 hj2)
      go_wp2_with (go_at_call 101; refine (rlength_any _ _ _).mono ?_; rintro e w' ⟨rfl,rfl⟩)
      go_round
      case rel => exact ⟨j + 1,by omega,by omega,rfl,hst.2,by rw [HN.out]⟩
      case measure => simp [intOf]; omega
     ·have HM:=hide (month_at k (n - Cal.yst k) j hj1 hj2 hrj hdj)
      have HYK:=hide hyk
      clear hyk
      go_wp2_with (go_at_call 101; refine (rlength_any _ _ _).mono ?_; rintro e w' ⟨rfl,rfl⟩)
      have em : Cal.mOf n = j:=by unfold Cal.mOf; rw [HYK.out,HM.out]
      have ed : Cal.dOf n = n - Cal.yst k - Cal.cum k j + 1:=by unfold Cal.dOf; rw [em,HYK.out]
      rw [em,ed,HYK.out]
      refine bodyPost_ret (v:=.tuple #[.agg #[.int .i64 k,.int .i64 j,.int .i64 (n - Cal.yst k - Cal.cum k j + 1)],.int .i64 0]) (by simp [results,Tryz.results64,go_sem]) rfl ⟨rfl,?_⟩
      repeat (first | exact Below.refl _ _ | refine below_drewN ?_ _ | refine Below.setCell ?_ (by simp) _ | refine Below.alloc ?_ (by simp) _)
   ·have hk3 : k + 1 <= 2099:=by
     by_cases e : k = 2099
     ·subst e
      have : Cal.yst (2099 + 1) = 36525:=hend
      omega
     ·omega
    have HS : Hid (n - Cal.yst k - 365 = n - Cal.yst (k + 1)):=by show _ = _; omega
    have hr2 : 0 <= n - Cal.yst (k + 1):=by omega
    clear hd'
    go_wp2_with (go_at_call 100; refine (rleap_at k false _ HL.out).mono ?_; rintro e w' ⟨rfl,rfl⟩)
    go_round
    case rel => exact ⟨k + 1,by omega,by omega,rfl,hr2,by rw [HS.out]⟩
    case measure => simp [intOf]; omega
  ·rw [hl] at hd
   have hd' : Cal.yst (k + 1) = Cal.yst k + 366:=hd
   have HL:=hide hl
   clear hl hd
   by_cases hlt : n - Cal.yst k < 366
   ·have hyk:=year_at n k h1 h2 hk1 hk2 (by omega) (by omega)
    have hhi : n - Cal.yst k < Cal.cum k 13:=by have:=Cal.yst_succ k hk1 hk2; omega
    clear hd'
    go_wp2_with (go_at_call 100; refine (rleap_at k true _ HL.out).mono ?_; rintro e w' ⟨rfl,rfl⟩)
    go_loop [5,7] (fun r i => ∃ j : Int,1 <= j /\ j <= 12 /\ i = .int .i64 j /\ 0 <= n - Cal.yst k - Cal.cum k j /\ r = .int .i64 (n - Cal.yst k - Cal.cum k j)) (fun _ i => (12 - intOf i).toNat)
    case atStart => exact ⟨1,by omega,by omega,rfl,by rw [Cal.cum_one]; omega,by rw [Cal.cum_one,Int.sub_zero]⟩
    case round =>
     obtain ⟨j,hj1,hj2,rfl,hrj,rfl⟩:=hrel
     have hc:=Cal.cum_bd k j hj1 (by omega)
     have hdm:=Cal.dim_bd k j
     by_cases hdj : Cal.dim k j <= n - Cal.yst k - Cal.cum k j
     ·have hst:=month_step k _ j hhi hj1 hj2 hdj
      have HN:=hide (month_next k (n - Cal.yst k) j hj1 hj2)
      go_wp2_with (go_at_call 101; refine (rlength_any _ _ _).mono ?_; rintro e w' ⟨rfl,rfl⟩)
      go_round
      case rel => exact ⟨j + 1,by omega,by omega,rfl,hst.2,by rw [HN.out]⟩
      case measure => simp [intOf]; omega
     ·have HM:=hide (month_at k (n - Cal.yst k) j hj1 hj2 hrj hdj)
      have HYK:=hide hyk
      clear hyk
      go_wp2_with (go_at_call 101; refine (rlength_any _ _ _).mono ?_; rintro e w' ⟨rfl,rfl⟩)
      have em : Cal.mOf n = j:=by unfold Cal.mOf; rw [HYK.out,HM.out]
      have ed : Cal.dOf n = n - Cal.yst k - Cal.cum k j + 1:=by unfold Cal.dOf; rw [em,HYK.out]
      rw [em,ed,HYK.out]
      refine bodyPost_ret (v:=.tuple #[.agg #[.int .i64 k,.int .i64 j,.int .i64 (n - Cal.yst k - Cal.cum k j + 1)],.int .i64 0]) (by simp [results,Tryz.results64,go_sem]) rfl ⟨rfl,?_⟩
      repeat (first | exact Below.refl _ _ | refine below_drewN ?_ _ | refine Below.setCell ?_ (by simp) _ | refine Below.alloc ?_ (by simp) _)
   ·have hk3 : k + 1 <= 2099:=by
     by_cases e : k = 2099
     ·subst e
      have : Cal.yst (2099 + 1) = 36525:=hend
      omega
     ·omega
    have HS : Hid (n - Cal.yst k - 366 = n - Cal.yst (k + 1)):=by show _ = _; omega
    have hr2 : 0 <= n - Cal.yst (k + 1):=by omega
    clear hd'
    go_wp2_with (go_at_call 100; refine (rleap_at k true _ HL.out).mono ?_; rintro e w' ⟨rfl,rfl⟩)
    go_round
    case rel => exact ⟨k + 1,by omega,by omega,rfl,hr2,by rw [HS.out]⟩
    case measure => simp [intOf]; omega
end Go.Proofs.YtfecnkhoojnkbaaGreatDoor

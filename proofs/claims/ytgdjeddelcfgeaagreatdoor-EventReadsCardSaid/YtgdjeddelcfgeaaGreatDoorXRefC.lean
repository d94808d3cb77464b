/- Put together: RefA RefB RefC. -/
import Derived.Test.YtgdjeddelcfgeaaGreatDoorXW1
namespace Go.Proofs.YtgdjeddelcfgeaaGreatDoor
open Go.RowKit

set_option maxHeartbeats 400000 in
theorem rleap_any (y : Int) (w : World) :
  Calls Tryz.prog 111 #[.int .i64 y] w fun e w' => e = .returned (.bool (Cal.lpB y)) ∧ w = w':=by
 by_cases h4 : (y.tmod 4 == 0) = true
 all_goals
  go_enter Tryz.func111,Tryz.ntmps111
  go_wp2
  all_goals
   go_ret
   exact ⟨ret_bool (by simp_all [Cal.lpB]),rfl⟩

theorem idx_1 (w : World) : (Instr.index 181 (.agg #[.int .i64 31,.int .i64 28,.int .i64 31,.int .i64 30,.int .i64 31,.int .i64 30,.int .i64 31,.int .i64 31,.int .i64 30,.int .i64 31,.int .i64 30,.int .i64 31]) (.int .i64 0)).run Tryz.prog w = .ok (.int .i64 31) w:=by kernel_rfl
theorem idx_2 (w : World) : (Instr.index 181 (.agg #[.int .i64 31,.int .i64 28,.int .i64 31,.int .i64 30,.int .i64 31,.int .i64 30,.int .i64 31,.int .i64 31,.int .i64 30,.int .i64 31,.int .i64 30,.int .i64 31]) (.int .i64 1)).run Tryz.prog w = .ok (.int .i64 28) w:=by kernel_rfl
theorem idx_3 (w : World) : (Instr.index 181 (.agg #[.int .i64 31,.int .i64 28,.int .i64 31,.int .i64 30,.int .i64 31,.int .i64 30,.int .i64 31,.int .i64 31,.int .i64 30,.int .i64 31,.int .i64 30,.int .i64 31]) (.int .i64 2)).run Tryz.prog w = .ok (.int .i64 31) w:=by kernel_rfl
theorem idx_4 (w : World) : (Instr.index 181 (.agg #[.int .i64 31,.int .i64 28,.int .i64 31,.int .i64 30,.int .i64 31,.int .i64 30,.int .i64 31,.int .i64 31,.int .i64 30,.int .i64 31,.int .i64 30,.int .i64 31]) (.int .i64 3)).run Tryz.prog w = .ok (.int .i64 30) w:=by kernel_rfl
theorem idx_5 (w : World) : (Instr.index 181 (.agg #[.int .i64 31,.int .i64 28,.int .i64 31,.int .i64 30,.int .i64 31,.int .i64 30,.int .i64 31,.int .i64 31,.int .i64 30,.int .i64 31,.int .i64 30,.int .i64 31]) (.int .i64 4)).run Tryz.prog w = .ok (.int .i64 31) w:=by kernel_rfl
theorem idx_6 (w : World) : (Instr.index 181 (.agg #[.int .i64 31,.int .i64 28,.int .i64 31,.int .i64 30,.int .i64 31,.int .i64 30,.int .i64 31,.int .i64 31,.int .i64 30,.int .i64 31,.int .i64 30,.int .i64 31]) (.int .i64 5)).run Tryz.prog w = .ok (.int .i64 30) w:=by kernel_rfl
theorem idx_7 (w : World) : (Instr.index 181 (.agg #[.int .i64 31,.int .i64 28,.int .i64 31,.int .i64 30,.int .i64 31,.int .i64 30,.int .i64 31,.int .i64 31,.int .i64 30,.int .i64 31,.int .i64 30,.int .i64 31]) (.int .i64 6)).run Tryz.prog w = .ok (.int .i64 31) w:=by kernel_rfl
theorem idx_8 (w : World) : (Instr.index 181 (.agg #[.int .i64 31,.int .i64 28,.int .i64 31,.int .i64 30,.int .i64 31,.int .i64 30,.int .i64 31,.int .i64 31,.int .i64 30,.int .i64 31,.int .i64 30,.int .i64 31]) (.int .i64 7)).run Tryz.prog w = .ok (.int .i64 31) w:=by kernel_rfl
theorem idx_9 (w : World) : (Instr.index 181 (.agg #[.int .i64 31,.int .i64 28,.int .i64 31,.int .i64 30,.int .i64 31,.int .i64 30,.int .i64 31,.int .i64 31,.int .i64 30,.int .i64 31,.int .i64 30,.int .i64 31]) (.int .i64 8)).run Tryz.prog w = .ok (.int .i64 30) w:=by kernel_rfl
theorem idx_10 (w : World) : (Instr.index 181 (.agg #[.int .i64 31,.int .i64 28,.int .i64 31,.int .i64 30,.int .i64 31,.int .i64 30,.int .i64 31,.int .i64 31,.int .i64 30,.int .i64 31,.int .i64 30,.int .i64 31]) (.int .i64 9)).run Tryz.prog w = .ok (.int .i64 31) w:=by kernel_rfl
theorem idx_11 (w : World) : (Instr.index 181 (.agg #[.int .i64 31,.int .i64 28,.int .i64 31,.int .i64 30,.int .i64 31,.int .i64 30,.int .i64 31,.int .i64 31,.int .i64 30,.int .i64 31,.int .i64 30,.int .i64 31]) (.int .i64 10)).run Tryz.prog w = .ok (.int .i64 30) w:=by kernel_rfl
theorem idx_12 (w : World) : (Instr.index 181 (.agg #[.int .i64 31,.int .i64 28,.int .i64 31,.int .i64 30,.int .i64 31,.int .i64 30,.int .i64 31,.int .i64 31,.int .i64 30,.int .i64 31,.int .i64 30,.int .i64 31]) (.int .i64 11)).run Tryz.prog w = .ok (.int .i64 31) w:=by kernel_rfl
theorem idx_run (y m : Int) (h1 : 1 ≤ m) (h2 : m ≤ 12) (h : ¬ (m = 2 ∧ Cal.lpB y = true)) (w : World) :
  (Instr.index 181 (.agg #[.int .i64 31,.int .i64 28,.int .i64 31,.int .i64 30,.int .i64 31,.int .i64 30,.int .i64 31,.int .i64 31,.int .i64 30,.int .i64 31,.int .i64 30,.int .i64 31]) (.int .i64 (m - 1))).run Tryz.prog w = .ok (.int .i64 (Cal.dim y m)) w:=by
 have hm : m = 1 ∨ m = 2 ∨ m = 3 ∨ m = 4 ∨ m = 5 ∨ m = 6 ∨ m = 7 ∨ m = 8 ∨ m = 9 ∨ m = 10 ∨ m = 11 ∨ m = 12:=by omega
 rcases hm with e | e | e | e | e | e | e | e | e | e | e | e
 ·subst e; rw [← dim_31 y 1 (by omega)]; exact idx_1 w
 ·subst e; rw [← dim_28 y (by simpa using h)]; exact idx_2 w
 ·subst e; rw [← dim_31 y 3 (by omega)]; exact idx_3 w
 ·subst e; rw [← dim_30 y 4 (by omega)]; exact idx_4 w
 ·subst e; rw [← dim_31 y 5 (by omega)]; exact idx_5 w
 ·subst e; rw [← dim_30 y 6 (by omega)]; exact idx_6 w
 ·subst e; rw [← dim_31 y 7 (by omega)]; exact idx_7 w
 ·subst e; rw [← dim_31 y 8 (by omega)]; exact idx_8 w
 ·subst e; rw [← dim_30 y 9 (by omega)]; exact idx_9 w
 ·subst e; rw [← dim_31 y 10 (by omega)]; exact idx_10 w
 ·subst e; rw [← dim_30 y 11 (by omega)]; exact idx_11 w
 ·subst e; rw [← dim_31 y 12 (by omega)]; exact idx_12 w
theorem rleap_at (y : Int) (b : Bool) (w : World) (h : Cal.lpB y = b) :
  Calls Tryz.prog 111 #[.int .i64 y] w fun e w' => e = .returned (.bool b) ∧ w = w':=by
 subst h; exact rleap_any y w

set_option maxHeartbeats 1000000 in
theorem rlength_any (y m : Int) (w : World) :
  Calls Tryz.prog 112 #[.int .i64 y,.int .i64 m] w fun e w' => e = .returned (.int .i64 (Cal.dim y m)) ∧ w = w':=by
 by_cases h1 : m < 1
 ·rw [Cal.dim_out y m (.inl h1)]
  go_enter Tryz.func112,Tryz.ntmps112
  go_wp2_with fail
  go_ret
  exact ⟨rfl,rfl⟩
 by_cases h12 : 12 < m
 ·rw [Cal.dim_out y m (.inr h12)]
  go_enter Tryz.func112,Tryz.ntmps112
  go_wp2_with fail
  go_ret
  exact ⟨rfl,rfl⟩
 by_cases h2 : m = 2
 ·subst h2
  cases hb : Cal.lpB y
  ·have hix:=idx_2
   rw [← dim_28 y hb]
   have HB:=hide hb
   clear hb
   go_enter Tryz.func112,Tryz.ntmps112
   go_wp2_with fail
   refine (rleap_at y false _ HB.out).mono ?_
   rintro e w' ⟨rfl,rfl⟩
   go_wp2_with fail
   go_ret
   exact ⟨rfl,rfl⟩
  ·rw [← dim_29 y hb]
   have HB:=hide hb
   clear hb
   go_enter Tryz.func112,Tryz.ntmps112
   go_wp2_with fail
   refine (rleap_at y true _ HB.out).mono ?_
   rintro e w' ⟨rfl,rfl⟩
   go_wp2_with fail
   go_ret
   exact ⟨rfl,rfl⟩
 ·have hix:=idx_run y m (by omega) (by omega) (fun h => h2 h.1)
  have h2' : (m == 2) = false:=by rw [beq_eq_false_iff_ne]; exact h2
  generalize Cal.dim y m = D at *
  clear h2
  go_enter Tryz.func112,Tryz.ntmps112
  go_wp2_with fail
  go_ret
  exact ⟨rfl,rfl⟩

theorem risB_yes (y m d : Int) (h : 1 ≤ d) : decide (d ≤ Cal.dim y m) = Cal.isB y m d:=by simp [Cal.isB,h]
theorem risB_no (y m d : Int) (h : m < 1 ∨ 12 < m ∨ d < 1) : Cal.isB y m d = false:=by
 rw [Bool.eq_false_iff]
 intro hb
 have:=Cal.isB_month hb
 rw [Cal.isB_iff] at hb
 omega

set_option maxHeartbeats 400000 in
theorem ris_any (y m d : Int) (w : World) :
  Calls Tryz.prog 189 #[.agg #[.int .i64 y,.int .i64 m,.int .i64 d]] w fun e w' => e = .returned (.bool (Cal.isB y m d)) ∧ Below w.heap.size w w':=by
 by_cases h1 : 1 ≤ m
 ·by_cases h2 : m ≤ 12
  ·by_cases h3 : 1 ≤ d
   ·go_enter Tryz.func189,Tryz.ntmps189
    go_wp2_with fail
    go_quiet ((go_at_call 112; exact quiet_left (rlength_any _ _ _)))
    go_wp2
    go_ret
    exact ⟨ret_bool (risB_yes y m d h3),below_drewN ((Below.refl _ _).alloc (Nat.le_refl _) _) _⟩
   ·rw [risB_no y m d (by omega)]
    have hd : decide (1 ≤ d) = false:=by simpa using h3
    go_enter Tryz.func189,Tryz.ntmps189
    go_wp2_with fail
    go_quiet ((go_at_call 112; exact quiet_left (rlength_any _ _ _)))
    go_wp2
    go_ret
    exact ⟨rfl,below_drewN ((Below.refl _ _).alloc (Nat.le_refl _) _) _⟩
  ·rw [risB_no y m d (by omega)]
   have hd : decide (m ≤ 12) = false:=by simpa using h2
   go_enter Tryz.func189,Tryz.ntmps189
   go_wp2_with fail
   go_quiet ((go_at_call 112; exact quiet_left (rlength_any _ _ _)))
   go_wp2
   go_ret
   exact ⟨rfl,below_drewN ((Below.refl _ _).alloc (Nat.le_refl _) _) _⟩
 ·rw [risB_no y m d (by omega)]
  have hd : decide (1 ≤ m) = false:=by simpa using h1
  go_enter Tryz.func189,Tryz.ntmps189
  go_wp2_with fail
  go_quiet ((go_at_call 112; exact quiet_left (rlength_any _ _ _)))
  go_wp2
  go_ret
  exact ⟨rfl,below_drewN ((Below.refl _ _).alloc (Nat.le_refl _) _) _⟩

end Go.Proofs.YtgdjeddelcfgeaaGreatDoor

namespace Go.Proofs.YtgdjeddelcfgeaaGreatDoor
open Go.RowKit

theorem ris_at (b : Bool) (y m d : Int) (w : World) (h : Cal.isB y m d = b) :
  Calls Tryz.prog 189 #[.agg #[.int .i64 y,.int .i64 m,.int .i64 d]] w fun e w' => e = .returned (.bool b) ∧ Below w.heap.size w w':=by
 subst h; exact ris_any y m d w

theorem yst_2000 : Cal.yst 2000 = 0:=by decide +kernel
theorem yst_leap (k : Int) (h1 : 2000 ≤ k) (h2 : k ≤ 2099) (h : Cal.lpB k = true) : Cal.yst k + 365 + 1 = Cal.yst (k + 1):=by
 rw [Cal.lp_in k h1 h2,decide_eq_true_eq] at h
 unfold Cal.yst; omega
theorem yst_plain (k : Int) (h1 : 2000 ≤ k) (h2 : k ≤ 2099) (h : Cal.lpB k = false) : Cal.yst k + 365 = Cal.yst (k + 1):=by
 rw [Cal.lp_in k h1 h2,decide_eq_false_iff_not] at h
 unfold Cal.yst; omega
theorem rnum_one (y : Int) : Cal.yst y = Cal.yst y + Cal.cum y 1:=by rw [Cal.cum_one]; omega
theorem rnum_step (y k : Int) (h1 : 1 ≤ k) (h2 : k ≤ 12) : Cal.yst y + Cal.cum y k + Cal.dim y k = Cal.yst y + Cal.cum y (k + 1):=by
 rw [Cal.cum_succ y k h1 h2]; omega
theorem rnum_end (y m d : Int) : Cal.yst y + Cal.cum y m + d - 1 = Cal.num y m d:=by unfold Cal.num; omega

set_option maxHeartbeats 1000000 in
theorem rnum_err (y m d c : Int) (w : World) (h : numE y m d = (0,c)) (hc : c = 10 ∨ c = 11) :
  Calls Tryz.prog 155 #[.agg #[.int .i64 y,.int .i64 m,.int .i64 d]] w fun e w' => e = .returned (.tuple #[.int .i64 0,.int .i64 c]) ∧ Below w.heap.size w w':=by
 cases hb : Cal.isB y m d
 ·have e:=numE_11 y m d hb
  rw [h] at e
  obtain rfl : c = 11:=by simpa using e
  have HB:=hide hb
  clear hb h hc e
  go_enter Tryz.func155,Tryz.ntmps155
  go_wp2_with fail
  refine (ris_at false _ _ _ _ HB.out).mono ?_
  rintro e w1 ⟨rfl,hb1⟩
  go_wp2_with fail
  go_ret2
  exact ⟨rfl,((Below.refl _ _).alloc (Nat.le_refl _) _).trans (hb1.mono (by simp))⟩
 ·by_cases h1 : y < 2000
  ·have e:=numE_10 y m d hb (.inl h1)
   rw [h] at e
   obtain rfl : c = 10:=by simpa using e
   have HB:=hide hb
   clear hb h hc e
   go_enter Tryz.func155,Tryz.ntmps155
   go_wp2_with fail
   refine (ris_at true _ _ _ _ HB.out).mono ?_
   rintro e w1 ⟨rfl,hb1⟩
   obtain ⟨hc,hf⟩:=bcell hb1
   go_wp2_with fail
   go_ret2
   exact ⟨rfl,((Below.refl _ _).alloc (Nat.le_refl _) _).trans (hb1.mono (by simp))⟩
  ·by_cases h2 : 2099 < y
   ·have e:=numE_10 y m d hb (.inr h2)
    rw [h] at e
    obtain rfl : c = 10:=by simpa using e
    have HB:=hide hb
    clear hb h hc e
    go_enter Tryz.func155,Tryz.ntmps155
    go_wp2_with fail
    refine (ris_at true _ _ _ _ HB.out).mono ?_
    rintro e w1 ⟨rfl,hb1⟩
    obtain ⟨hc,hf⟩:=bcell hb1
    go_wp2_with fail
    go_ret2
    exact ⟨rfl,((Below.refl _ _).alloc (Nat.le_refl _) _).trans (hb1.mono (by simp))⟩
   ·have e:=numE_0 y m d hb (by omega) (by omega)
    rw [h] at e
    have : c = 0:=by simpa using congrArg Prod.snd e
    omega

set_option maxRecDepth 100000 in
set_option maxHeartbeats 1000000 in
theorem rnum_ok (y m d : Int) (w : World) (hb : Cal.isB y m d = true) (h1 : 2000 ≤ y) (h2 : y ≤ 2099) (m1 : 1 ≤ m) (m2 : m ≤ 12) (d1 : 1 ≤ d) (d2 : d ≤ 31) :
  Calls Tryz.prog 155 #[.agg #[.int .i64 y,.int .i64 m,.int .i64 d]] w fun e w' => e = .returned (.tuple #[.int .i64 (Cal.num y m d),.int .i64 0]) ∧ Below w.heap.size w w':=by
 have HB:=hide hb
 clear hb
 go_enter Tryz.func155,Tryz.ntmps155
 go_wp2_with fail
 refine (ris_at true _ _ _ _ HB.out).mono ?_
 rintro e w1 ⟨rfl,hb1⟩
 have c0 : w1.cell? ⟨w.heap.size,0,none⟩ = some (.int .i64 y):=by rw [(bcell hb1).1 _ _ (by simp)]; simp
 have c1 : w1.cell? ⟨w.heap.size,1,none⟩ = some (.int .i64 m):=by rw [(bcell hb1).1 _ _ (by simp)]; simp
 have c2 : w1.cell? ⟨w.heap.size,2,none⟩ = some (.int .i64 d):=by rw [(bcell hb1).1 _ _ (by simp)]; simp
 go_wp2_with fail
 go_loop [4,5] (fun n i => ∃ k : Int,2000 ≤ k ∧ k ≤ y ∧ i = .int .i64 k ∧ n = .int .i64 (Cal.yst k)) (fun _ i => (2099 - intOf i).toNat)
 case atStart => exact ⟨2000,by omega,h1,rfl,by rw [yst_2000]⟩
 case round =>
  obtain ⟨k,hk1,hk2,rfl,rfl⟩:=hrel
  have hy:=Cal.yst_bd k hk1 (by omega)
  by_cases hlt : k < y
  ·cases hl : Cal.lpB k
   ·have HS:=hide (yst_plain k hk1 (by omega) hl)
    have HL:=hide hl
    clear hl
    go_wp2_with (go_at_call 111; refine (rleap_at k false _ HL.out).mono ?_; rintro e w' ⟨rfl,rfl⟩)
    go_round
    case rel => exact ⟨k + 1,by omega,by omega,rfl,by rw [HS.out]⟩
    case measure => simp [intOf]; omega
   ·have HS:=hide (yst_leap k hk1 (by omega) hl)
    have HL:=hide hl
    clear hl
    go_wp2_with (go_at_call 111; refine (rleap_at k true _ HL.out).mono ?_; rintro e w' ⟨rfl,rfl⟩)
    go_round
    case rel => exact ⟨k + 1,by omega,by omega,rfl,by rw [HS.out]⟩
    case measure => simp [intOf]; omega
  ·obtain rfl : k = y:=by omega
   go_wp2_with fail
   go_loop [4,6] (fun n i => ∃ j : Int,1 ≤ j ∧ j ≤ m ∧ i = .int .i64 j ∧ n = .int .i64 (Cal.yst k + Cal.cum k j)) (fun _ i => (12 - intOf i).toNat)
   case atStart => exact ⟨1,by omega,m1,rfl,by rw [← rnum_one]⟩
   case round =>
    obtain ⟨j,hj1,hj2,rfl,rfl⟩:=hrel
    have hc:=Cal.cum_bd k j hj1 (by omega)
    have hl:=Cal.dim_bd k j
    by_cases hlt2 : j < m
    ·have HS:=hide (rnum_step k j hj1 (by omega))
     go_wp2_with (go_at_call 112; refine (rlength_any _ _ _).mono ?_; rintro e w' ⟨rfl,rfl⟩)
     go_round
     case rel => exact ⟨j + 1,by omega,by omega,rfl,by rw [HS.out]⟩
     case measure => simp [intOf]; omega
    ·obtain rfl : j = m:=by omega
     have HE:=hide (rnum_end k j d)
     go_wp2_with fail
     go_ret2
     exact ⟨by rw [← HE.out]; rfl,((Below.refl _ _).alloc (Nat.le_refl _) _).trans (hb1.mono (by simp))⟩

theorem rnumber_any (y m d : Int) (w : World) :
  Calls Tryz.prog 155 #[.agg #[.int .i64 y,.int .i64 m,.int .i64 d]] w fun e w' => e = .returned (.tuple #[.int .i64 (numE y m d).1,.int .i64 (numE y m d).2]) ∧ Below w.heap.size w w':=by
 cases hb : Cal.isB y m d
 ·have e:=numE_11 y m d hb
  rw [e]; exact rnum_err y m d 11 w e (.inr rfl)
 ·by_cases h1 : y < 2000 ∨ 2099 < y
  ·have e:=numE_10 y m d hb h1
   rw [e]; exact rnum_err y m d 10 w e (.inl rfl)
  ·have e:=numE_0 y m d hb (by omega) (by omega)
   have hm:=Cal.isB_month hb
   have hd:=(Cal.isB_iff y m d).1 hb
   have hd2:=(Cal.dim_bd y m).2
   rw [e]; exact rnum_ok y m d w hb (by omega) (by omega) hm.1 hm.2 hd.1 (by omega)
theorem rnumber_is (y m d a c : Int) (w : World) (h : numE y m d = (a,c)) :
  Calls Tryz.prog 155 #[.agg #[.int .i64 y,.int .i64 m,.int .i64 d]] w fun e w' => e = .returned (.tuple #[.int .i64 a,.int .i64 c]) ∧ Below w.heap.size w w':=by
 have:=rnumber_any y m d w
 rw [h] at this
 exact this

end Go.Proofs.YtgdjeddelcfgeaaGreatDoor

namespace Go.Proofs.YtgdjeddelcfgeaaGreatDoor
open Go.RowKit

set_option maxHeartbeats 400000 in
theorem rMinute_err (y mo d h m c : Int) (w : World) (hn : numE y mo d = (0,c)) (hc : (c == 0) = false) :
  Calls Tryz.prog 119 #[.agg #[.int .i64 y,.int .i64 mo,.int .i64 d],.int .i64 h,.int .i64 m] w fun e w' => e = .returned (.tuple #[.int .i64 0,.int .i64 c]) ∧ Below w.heap.size w w':=by
 have H:=hide hn
 clear hn
 have hc' : (c != 0) = true:=by simp [bne,hc]
 go_enter Tryz.func119,Tryz.ntmps119
 go_wp2_with fail
 refine (rnumber_is y mo d 0 c _ H.out).mono ?_
 rintro e w1 ⟨rfl,hb1⟩
 go_wp2_with fail
 go_ret2
 refine ⟨rfl,?_⟩
 repeat (first | exact Below.refl _ _ | refine Below.trans ?_ (hb1.mono (by simp)) | refine below_drewN ?_ _ | refine Below.setCell ?_ (by simp) _ | refine Below.alloc ?_ (by simp) _)

set_option maxHeartbeats 400000 in
theorem rMinute_time (y mo d h m a : Int) (w : World) (hn : numE y mo d = (a,0)) (ht : h < 0 ∨ 23 < h ∨ m < 0 ∨ 59 < m) :
    Calls Tryz.prog 119 #[.agg #[.int .i64 y,.int .i64 mo,.int .i64 d],.int .i64 h,.int .i64 m] w fun e w' => e = .returned (.tuple #[.int .i64 0,.int .i64 11]) ∧ Below w.heap.size w w':=by
  have H:=hide hn
  clear hn
  by_cases c1 : h < 0 <;> by_cases c2 : 23 < h <;> by_cases c3 : m < 0 <;> by_cases c4 : 59 < m
  all_goals first
    | omega
    | (clear ht
       go_enter Tryz.func119,Tryz.ntmps119
       go_wp2_with fail
       refine (rnumber_is y mo d a 0 _ H.out).mono ?_
       rintro e w1 ⟨rfl,hb1⟩
       go_wp2_with fail
       go_ret2
       refine ⟨rfl,?_⟩
       repeat (first | exact Below.refl _ _ | refine Below.trans ?_ (hb1.mono (by simp)) | refine below_drewN ?_ _ | refine Below.setCell ?_ (by simp) _ | refine Below.alloc ?_ (by simp) _))

set_option maxHeartbeats 400000 in
theorem rMinute_ok (y mo d h m a : Int) (w : World) (hn : numE y mo d = (a,0)) (ha : 0 ≤ a) (ha2 : a < 36525) (hh : 0 ≤ h) (hh2 : h ≤ 23) (hm : 0 ≤ m) (hm2 : m ≤ 59) :
  Calls Tryz.prog 119 #[.agg #[.int .i64 y,.int .i64 mo,.int .i64 d],.int .i64 h,.int .i64 m] w fun e w' => e = .returned (.tuple #[.int .i64 (a * 1440 + h * 60 + m),.int .i64 0]) ∧ Below w.heap.size w w':=by
 have H:=hide hn
 clear hn
 go_enter Tryz.func119,Tryz.ntmps119
 go_wp2_with fail
 refine (rnumber_is y mo d a 0 _ H.out).mono ?_
 rintro e w1 ⟨rfl,hb1⟩
 go_wp2_with fail
 go_ret2
 refine ⟨rfl,?_⟩
 repeat (first | exact Below.refl _ _ | refine Below.trans ?_ (hb1.mono (by simp)) | refine below_drewN ?_ _ | refine Below.setCell ?_ (by simp) _ | refine Below.alloc ?_ (by simp) _)

theorem rMinute_any (y mo d h m : Int) (w : World) :
  Calls Tryz.prog 119 #[.agg #[.int .i64 y,.int .i64 mo,.int .i64 d],.int .i64 h,.int .i64 m] w fun e w' => e = .returned (.tuple #[.int .i64 (minE y mo d h m).1,.int .i64 (minE y mo d h m).2]) ∧ Below w.heap.size w w':=by
 rcases numE_cases y mo d with ⟨c,hn,hc⟩ | ⟨a,hn,ha,ha2⟩
 ·have e : minE y mo d h m = (0,c):=by unfold minE; rw [hn]; simp only; rw [if_neg (by omega)]
  rw [e]
  exact rMinute_err y mo d h m c w hn (by rcases hc with rfl | rfl <;> rfl)
 ·by_cases ht : timeB h m = true
  ·have e : minE y mo d h m = (a * 1440 + h * 60 + m,0):=by unfold minE; rw [hn]; simp only; rw [if_pos trivial,if_pos ht]
   rw [e]
   rw [timeB_iff] at ht
   exact rMinute_ok y mo d h m a w hn ha ha2 ht.1 ht.2.1 ht.2.2.1 ht.2.2.2
  ·have e : minE y mo d h m = (0,11):=by unfold minE; rw [hn]; simp only; rw [if_pos trivial,if_neg ht]
   rw [e]
   rw [timeB_iff] at ht
   exact rMinute_time y mo d h m a w hn (by omega)

end Go.Proofs.YtgdjeddelcfgeaaGreatDoor

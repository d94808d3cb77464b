/- CivH; CivTxt of the recipes, what is needed of them. -/
import Derived.Test.YtfecnkhoojnkbaaGreatDoorProg
import Derived.WalkKit
import Derived.WalkSpells
import Derived.WalkLawsBesides
import Derived.Deep.QuietTactic
import Derived.BigQuiet
import Derived.WalkSmall
import Derived.Lib.LaidTab
import Derived.Deep.RegionHeld3
import Derived.Lib.IndexBytes
import Derived.Test.YtfecnkhoojnkbaaGreatDoorZM1
import Derived.Test.YtfecnkhoojnkbaaGreatDoorZW4
set_option maxHeartbeats 8000000
set_option maxRecDepth 100000
namespace Go.Proofs.YtfecnkhoojnkbaaGreatDoor
open Go.RowKit
theorem hide {p : Prop} (h : p) : Hid p:=h
theorem ret_bool {a b : Bool} (h : a = b) : Ending.returned (.bool a) = .returned (.bool b):=by rw [h]
theorem ret_int {k : IntKind} {a b : Int} (h : a = b) : Ending.returned (.int k a) = .returned (.int k b):=by rw [h]
theorem leap_any (y : Int) (w : World) :
  Calls Tryz.prog 176 #[.int .i64 y] w fun e w' => e = .returned (.bool (Cal.lpB y)) /\ w = w':=by
 by_cases h4 : (y.tmod 4 == 0) = true
 all_goals
  go_enter Tryz.func176,Tryz.ntmps176
  go_wp2
  all_goals
   go_ret
   exact ⟨ret_bool (by simp_all [Cal.lpB]),rfl⟩
theorem dim_31 (y m : Int) (h : m = 1 ∨ m = 3 ∨ m = 5 ∨ m = 7 ∨ m = 8 ∨ m = 10 ∨ m = 12) : 31 = Cal.dim y m:=by
 unfold Cal.dim; rw [if_pos h]
theorem dim_30 (y m : Int) (h : m = 4 ∨ m = 6 ∨ m = 9 ∨ m = 11) : 30 = Cal.dim y m:=by
 unfold Cal.dim; rw [if_neg (by omega),if_pos h]
theorem dim_29 (y : Int) (h : Cal.lpB y = true) : 29 = Cal.dim y 2:=by simp [Cal.dim,h]
theorem dim_28 (y : Int) (h : Cal.lpB y = false) : 28 = Cal.dim y 2:=by simp [Cal.dim,h]
theorem dim_0 (y m : Int) (h : m < 1 ∨ 12 < m) : 0 = Cal.dim y m:=(Cal.dim_out y m h).symm
theorem length_any (y m : Int) (w : World) :
  Calls Tryz.prog 153 #[.int .i64 y,.int .i64 m] w fun e w' => e = .returned (.int .i64 (Cal.dim y m)) /\ w = w':=by
 by_cases hm : m = 2
 ·subst hm
  cases hb : Cal.lpB y
  all_goals
   go_enter Tryz.func153,Tryz.ntmps153
   go_wp2_with (go_at_call 176; refine (leap_any _ _).mono ?_; rintro e w' ⟨rfl,rfl⟩)
   go_ret
   exact ⟨ret_int (by first | exact dim_28 y hb | exact dim_29 y hb),rfl⟩
 ·go_enter Tryz.func153,Tryz.ntmps153
  go_wp2_with fail
  all_goals
   go_ret
   exact ⟨ret_int (by simp only [beq_iff_eq,beq_eq_false_iff_ne,ne_eq] at *; first | exact dim_31 y m (by omega) | exact dim_30 y m (by omega) | exact dim_0 y m (by omega)),rfl⟩
theorem below_drewN {B : Nat} {a w : World} (h : Below B a w) (n : Nat) : Below B a (w.drewN n):=⟨h.os,h.tape,h.output,h.size,h.block⟩
theorem quiet_left {P : Program} {f : FuncId} {args : Array Value} {w : World} {n : Nat} {v : Value}
  (h : Calls P f args (w.drewN n) fun e w' => e = .returned v /\ w.drewN n = w') : Calls P f args (w.drewN n) fun e w'' => e = .returned v /\ ∃ m,w'' = w.drewN m :=
 h.mono fun _ _ ⟨he,hm⟩ => ⟨he,n,hm.symm⟩
theorem bcell {W w1 : World} (hb : Below W.heap.size W w1) : (∀ b o,b < W.heap.size -> w1.cell? ⟨b,o,none⟩ = W.cell? ⟨b,o,none⟩) /\ (∀ b o,b < W.heap.size -> w1.frozen? ⟨b,o,none⟩ = W.frozen? ⟨b,o,none⟩) :=
 ⟨fun b o h => hb.cell (p:=⟨b,o,none⟩) h,fun b o h => hb.frozen (p:=⟨b,o,none⟩) h⟩
theorem isB_yes (y m d : Int) (h : 1 <= d) : decide (d <= Cal.dim y m) = Cal.isB y m d:=by simp [Cal.isB,h]
theorem isB_no (y m d : Int) (h : decide (1 <= d) = false) : false = Cal.isB y m d:=by simp [Cal.isB,h]
theorem is_any (y m d : Int) (w : World) :
  Calls Tryz.prog 269 #[.agg #[.int .i64 y,.int .i64 m,.int .i64 d]] w fun e w' => e = .returned (.bool (Cal.isB y m d)) /\ Below w.heap.size w w':=by
 by_cases h : 1 <= d
 ·go_enter Tryz.func269,Tryz.ntmps269
  go_wp2_with fail
  go_quiet ((go_at_call 153; exact quiet_left (length_any _ _ _)))
  go_wp2
  go_ret
  exact ⟨ret_bool (isB_yes y m d h),below_drewN ((Below.refl _ _).alloc (Nat.le_refl _) _) _⟩
 ·have hd : decide (1 <= d) = false:=by simpa using h
  go_enter Tryz.func269,Tryz.ntmps269
  go_wp2_with fail
  go_quiet ((go_at_call 153; exact quiet_left (length_any _ _ _)))
  go_wp2
  go_ret
  exact ⟨ret_bool (isB_no y m d hd),below_drewN ((Below.refl _ _).alloc (Nat.le_refl _) _) _⟩
theorem yst_wrap (y : Int) (_h1 : 2000 <= y) (_h2 : y <= 2099) : (y - 2000) * 365 + (y - 2000 + 3) / 4 = Cal.yst y:=by unfold Cal.yst; rfl
theorem yearStart_any (y : Int) (w : World) (h1 : 2000 <= y) (h2 : y <= 2099) :
  Calls Tryz.prog 152 #[.int .i64 y] w fun e w' => e = .returned (.int .i64 (Cal.yst y)) /\ w = w':=by
 go_enter Tryz.func152,Tryz.ntmps152
 go_wp2
 go_ret
 exact ⟨ret_int (yst_wrap y h1 h2),rfl⟩
theorem num_one (y d : Int) : Cal.yst y + d - 1 = Cal.yst y + d - 1 + Cal.cum y 1:=by rw [Cal.cum_one]; omega
theorem num_step (y d k : Int) (h1 : 1 <= k) (h2 : k <= 12) : Cal.yst y + d - 1 + Cal.cum y k + Cal.dim y k = Cal.yst y + d - 1 + Cal.cum y (k + 1):=by
 rw [Cal.cum_succ y k h1 h2]; omega
theorem num_end (y m d : Int) : Cal.yst y + d - 1 + Cal.cum y m = Cal.num y m d:=by unfold Cal.num; omega
theorem dayOf_any (y m d : Int) (w : World) (h1 : 2000 <= y) (h2 : y <= 2099) (hm1 : 1 <= m) (hm2 : m <= 12) (hd1 : 1 <= d) (hd2 : d <= 31) :
  Calls Tryz.prog 270 #[.agg #[.int .i64 y,.int .i64 m,.int .i64 d]] w fun e w' => e = .returned (.agg #[.int .i64 (Cal.num y m d)]) /\ Below w.heap.size w w':=by
 have hy:=Cal.yst_bd y h1 h2
 go_enter Tryz.func270,Tryz.ntmps270
 go_wp2_with fail
 go_quiet ((go_at_call 152; exact quiet_left (yearStart_any _ _ h1 h2)))
 go_wp2_with fail
 go_loop [3,4] (fun n i => ∃ k : Int,1 <= k /\ k <= m /\ i = .int .i64 k /\ n = .int .i64 (Cal.yst y + d - 1 + Cal.cum y k)) (fun _ i => (12 - intOf i).toNat)
 case atStart => exact ⟨1,by omega,hm1,rfl,by rw [<- num_one]⟩
 case round =>
  obtain ⟨k,hk1,hk2,rfl,rfl⟩:=hrel
  have hc:=Cal.cum_bd y k hk1 (by omega)
  have hl:=Cal.dim_bd y k
  by_cases hlt : k < m
  ·have HS:=hide (num_step y d k hk1 (by omega))
   go_wp2_with (go_at_call 153; refine (length_any _ _ _).mono ?_; rintro e w' ⟨rfl,rfl⟩)
   go_round
   case rel => exact ⟨k + 1,by omega,by omega,rfl,by rw [HS.out]⟩
   case measure => simp [intOf]; omega
  ·obtain rfl : k = m:=by omega
   go_wp2
   refine bodyPost_ret (v:=.agg #[.int .i64 (Cal.yst y + d - 1 + Cal.cum y k)]) (by simp [results,Tryz.results270,go_sem]) rfl ⟨by rw [num_end],?_⟩
   exact (below_drewN (((Below.refl _ _).alloc (Nat.le_refl _) _).alloc (by simp) _) _).setCell (by simp) _
def numE (y m d : Int) : Int × Int:=if Cal.isB y m d then (if 2000 <= y /\ y <= 2099 then (Cal.num y m d,0) else (0,10)) else (0,11)
theorem numE_11 (y m d : Int) (h : Cal.isB y m d = false) : numE y m d = (0,11):=by simp [numE,h]
theorem numE_10 (y m d : Int) (h : Cal.isB y m d = true) (hy : y < 2000 ∨ 2099 < y) : numE y m d = (0,10):=by
 unfold numE; rw [if_pos h,if_neg (by omega)]
theorem numE_0 (y m d : Int) (h : Cal.isB y m d = true) (h1 : 2000 <= y) (h2 : y <= 2099) : numE y m d = (Cal.num y m d,0):=by
 unfold numE; rw [if_pos h,if_pos ⟨h1,h2⟩]
theorem is_at (b : Bool) (y m d : Int) (w : World) (h : Cal.isB y m d = b) :
  Calls Tryz.prog 269 #[.agg #[.int .i64 y,.int .i64 m,.int .i64 d]] w fun e w' => e = .returned (.bool b) /\ Below w.heap.size w w':=by
 subst h; exact is_any y m d w
theorem field_day (n : Int) (w : World) : (Instr.field 155 (.agg #[.int .i64 n]) 0).run Tryz.prog w = .ok (.int .i64 n) w:=by kernel_rfl
theorem field_minute (n : Int) (w : World) : (Instr.field 154 (.agg #[.int .i64 n]) 0).run Tryz.prog w = .ok (.int .i64 n) w:=by kernel_rfl
theorem number_any (y m d : Int) (w : World) :
  Calls Tryz.prog 249 #[.agg #[.int .i64 y,.int .i64 m,.int .i64 d]] w fun e w' => e = .returned (.tuple #[.int .i64 (numE y m d).1,.int .i64 (numE y m d).2]) /\ Below w.heap.size w w':=by
 cases hb : Cal.isB y m d
 ·rw [numE_11 y m d hb]
  have HB:=hide hb
  clear hb
  go_enter Tryz.func249,Tryz.ntmps249
  go_wp2_with (go_at_call 269; refine (is_at false _ _ _ _ HB.out).mono ?_; rintro e w' ⟨rfl,hb1⟩)
  go_ret2
  exact ⟨rfl,((Below.refl _ _).alloc (Nat.le_refl _) _).trans (hb1.mono (by simp))⟩
 ·have hm:=Cal.isB_month hb
  have hd:=(Cal.isB_iff y m d).1 hb
  have hd2:=Cal.dim_bd y m
  have HB:=hide hb
  by_cases h1 : y < 2000
  ·rw [numE_10 y m d hb (.inl h1)]
   clear hb
   go_enter Tryz.func249,Tryz.ntmps249
   go_wp2_with (go_at_call 269; refine (is_at true _ _ _ _ HB.out).mono ?_; rintro e w' ⟨rfl,hb1⟩; obtain ⟨hc,hf⟩:=bcell hb1)
   go_ret2
   exact ⟨rfl,((Below.refl _ _).alloc (Nat.le_refl _) _).trans (hb1.mono (by simp))⟩
  ·by_cases h2 : 2099 < y
   ·rw [numE_10 y m d hb (.inr h2)]
    clear hb
    go_enter Tryz.func249,Tryz.ntmps249
    go_wp2_with (go_at_call 269; refine (is_at true _ _ _ _ HB.out).mono ?_; rintro e w' ⟨rfl,hb1⟩; obtain ⟨hc,hf⟩:=bcell hb1)
    go_ret2
    exact ⟨rfl,((Below.refl _ _).alloc (Nat.le_refl _) _).trans (hb1.mono (by simp))⟩
   ·rw [numE_0 y m d hb (by omega) (by omega)]
    clear hb
    go_enter Tryz.func249,Tryz.ntmps249
    go_wp2_with fail
    refine (is_at true _ _ _ _ HB.out).mono ?_
    rintro e w' ⟨rfl,hb1⟩
    obtain ⟨hc,hf⟩:=bcell hb1
    go_wp2_with fail
    refine (dayOf_any y m d _ (by omega) (by omega) (by omega) (by omega) (by omega) (by omega)).mono ?_
    rintro e w2 ⟨rfl,hb2⟩
    clear hc hf hd hd2 hm h1 h2 HB
    have hfd:=field_day
    go_wp2_with fail
    go_ret2
    exact ⟨rfl,(((Below.refl _ _).alloc (Nat.le_refl _) _).trans (hb1.mono (by simp))).trans (hb2.mono (by have:=hb1.size; simp at this; omega))⟩
theorem month_at (y r k : Int) (hk1 : 1 <= k) (hk2 : k <= 12) (h1 : 0 <= r - Cal.cum y k) (h2 : ¬ Cal.dim y k <= r - Cal.cum y k) : Cal.mAt y r = k:=by
 have hs:=Cal.cum_succ y k hk1 hk2
 exact Cal.mAt_of _ _ k hk1 hk2 (by omega) (by omega)
theorem month_step (y r k : Int) (hhi : r < Cal.cum y 13) (hk1 : 1 <= k) (hk2 : k <= 12) (h : Cal.dim y k <= r - Cal.cum y k) : k + 1 <= 12 /\ 0 <= r - Cal.cum y (k + 1):=by
 have hs:=Cal.cum_succ y k hk1 hk2
 refine ⟨?_,by omega⟩
 by_cases e : k = 12
 ·subst e
  have : Cal.cum y (12 + 1) = Cal.cum y 13:=rfl
  omega
 ·omega
theorem month_next (y r k : Int) (hk1 : 1 <= k) (hk2 : k <= 12) : r - Cal.cum y k - Cal.dim y k = r - Cal.cum y (k + 1):=by
 rw [Cal.cum_succ _ _ hk1 hk2]; omega
theorem date_walk (n y : Int) (w : World) (h1 : 0 <= n) (h2 : n < 36525) (hy : 2000 + n * 4 / 1461 = y) (hy1 : 2000 <= y) (hy2 : y <= 2099) (hlo : Cal.yst y <= n) (hhi : n - Cal.yst y < Cal.cum y 13) :
  Calls Tryz.prog 122 #[.agg #[.int .i64 n]] w fun e w' => e = .returned (.agg #[.int .i64 y,.int .i64 (Cal.mAt y (n - Cal.yst y)),.int .i64 (n - Cal.yst y - Cal.cum y (Cal.mAt y (n - Cal.yst y)) + 1)]) /\ Below w.heap.size w w':=by
 have hyb:=Cal.yst_bd y hy1 hy2
 have HY:=hide hy
 clear hy
 go_enter Tryz.func122,Tryz.ntmps122
 go_wp2_with fail
 rw [HY.out]
 go_quiet ((go_at_call 152; exact quiet_left (yearStart_any _ _ hy1 hy2)))
 go_wp2_with fail
 go_loop [4,5] (fun r i => ∃ k : Int,1 <= k /\ k <= 12 /\ i = .int .i64 k /\ 0 <= n - Cal.yst y - Cal.cum y k /\ r = .int .i64 (n - Cal.yst y - Cal.cum y k)) (fun _ i => (12 - intOf i).toNat)
 case atStart => exact ⟨1,by omega,by omega,rfl,by rw [Cal.cum_one]; omega,by rw [Cal.cum_one,Int.sub_zero]⟩
 case round =>
  obtain ⟨k,hk1,hk2,rfl,hr,rfl⟩:=hrel
  have hc:=Cal.cum_bd y k hk1 (by omega)
  have hl:=Cal.dim_bd y k
  by_cases hd : Cal.dim y k <= n - Cal.yst y - Cal.cum y k
  ·have hst:=month_step y _ k hhi hk1 hk2 hd
   have HN:=hide (month_next y (n - Cal.yst y) k hk1 hk2)
   go_wp2_with (go_at_call 153; refine (length_any _ _ _).mono ?_; rintro e w' ⟨rfl,rfl⟩)
   go_round
   case rel => exact ⟨k + 1,by omega,by omega,rfl,hst.2,by rw [HN.out]⟩
   case measure => simp [intOf]; omega
  ·have HM:=hide (month_at y (n - Cal.yst y) k hk1 hk2 hr hd)
   go_wp2_with (go_at_call 153; refine (length_any _ _ _).mono ?_; rintro e w' ⟨rfl,rfl⟩)
   rw [HM.out]
   refine bodyPost_ret (v:=.agg #[.int .i64 y,.int .i64 k,.int .i64 (n - Cal.yst y - Cal.cum y k + 1)]) (by simp [results,Tryz.results122,go_sem]) rfl ⟨rfl,?_⟩
   repeat (first | exact Below.refl _ _ | refine below_drewN ?_ _ | refine Below.setCell ?_ (by simp) _ | refine Below.alloc ?_ (by simp) _)
theorem date_any (n : Int) (w : World) (h1 : 0 <= n) (h2 : n < 36525) :
  Calls Tryz.prog 122 #[.agg #[.int .i64 n]] w fun e w' => e = .returned (.agg #[.int .i64 (Cal.yOf n),.int .i64 (Cal.mOf n),.int .i64 (Cal.dOf n)]) /\ Below w.heap.size w w':=by
 have hb:=Cal.yOf_bd n h1 h2
 have hy:=Cal.yOf_yst n h1 h2
 have hs:=Cal.yst_succ (Cal.yOf n) hb.1 hb.2
 exact date_walk n (Cal.yOf n) w h1 h2 rfl hb.1 hb.2 hy.1 (by omega)
def I64 (n : Int) : Prop:=-9223372036854775808 <= n /\ n <= 9223372036854775807
theorem quo_any (n s : Int) (hn : I64 n) (h1 : 0 < s) : I64 (n.tdiv s):=by
 unfold I64 at *
 rcases Int.lt_or_le n 0 with g | g
 ·have e : n.tdiv s = -((-n).tdiv s):=by rw [Int.neg_tdiv]; omega
  rw [e,Int.tdiv_eq_ediv_of_nonneg (by omega)]
  have a:=Int.ediv_nonneg (a:=-n) (b:=s) (by omega) (by omega)
  have b:=Int.ediv_le_self (a:=-n) s (by omega)
  omega
 ·rw [Int.tdiv_eq_ediv_of_nonneg g]
  have a:=Int.ediv_nonneg (a:=n) (b:=s) (by omega) (by omega)
  have b:=Int.ediv_le_self (a:=n) s (by omega)
  omega
theorem split_pos (n s : Int) (h1 : 0 < s) (h : ¬ n.tmod s < 0) : n.tmod s = n % s /\ n.tdiv s = n / s:=by
 have hm : n.tmod s = n % s:=by
  rcases Int.lt_or_le n 0 with g | g
  ·have h0 : n.tmod s <= 0:=by
    have e : n.tmod s = -((-n).tmod s):=by rw [Int.neg_tmod]; omega
    rw [e,Int.tmod_eq_emod_of_nonneg (by omega)]
    have:=Int.emod_nonneg (-n) (b:=s) (by omega)
    omega
   have h0' : n.tmod s = 0:=by omega
   have hd : s ∣ n:=Int.dvd_of_tmod_eq_zero h0'
   rw [h0',Int.emod_eq_zero_of_dvd hd]
  ·exact Int.tmod_eq_emod_of_nonneg g
 refine ⟨hm,?_⟩
 have a:=Int.mul_tdiv_add_tmod n s
 have b:=Int.mul_ediv_add_emod n s
 rw [hm] at a
 have c : s * n.tdiv s = s * (n / s):=by omega
 exact Int.eq_of_mul_eq_mul_left (by omega) c
theorem split_neg (n s : Int) (h1 : 0 < s) (h : n.tmod s < 0) : n.tmod s + s = n % s /\ n.tdiv s - 1 = n / s:=by
 have hl : -s < n.tmod s:=by
  have:=Int.lt_tmod_of_pos n h1
  omega
 have a:=Int.mul_tdiv_add_tmod n s
 have e : n = s * (n.tdiv s - 1) + (n.tmod s + s):=by rw [Int.mul_sub]; omega
 have hr : 0 <= n.tmod s + s:=by omega
 have hr2 : n.tmod s + s < s:=by omega
 have u:=(Int.ediv_emod_unique (a:=n) (b:=s) (r:=n.tmod s + s) (q:=n.tdiv s - 1) h1).2 ⟨by rw [Int.add_comm]; exact e.symm,hr,hr2⟩
 exact ⟨u.2.symm,u.1.symm⟩
theorem wrap64_id (n : Int) (h : I64 n) : wrap64 n = n:=by
 unfold I64 at h
 unfold wrap64
 omega
theorem tdiv_pred (n s : Int) (hn : I64 n) (h1 : 0 < s) (h2 : s < 1000000) (hq : I64 (n / s)) (h : n.tmod s < 0) : wrap64 (wrap64 (n.tdiv s) - 1) = n / s /\ wrap64 (n.tmod s + s) = n % s:=by
 have a:=split_neg n s h1 h
 have b0:=Int.emod_nonneg n (b:=s) (by omega)
 have b1:=Int.emod_lt_of_pos n h1
 rw [wrap64_id _ (quo_any n s hn h1),a.2,a.1]
 exact ⟨wrap64_id _ hq,wrap64_id _ (by unfold I64; omega)⟩
theorem tdiv_same (n s : Int) (hn : I64 n) (h1 : 0 < s) (h : 0 <= n.tmod s) : wrap64 (n.tdiv s) = n / s /\ n.tmod s = n % s:=by
 have a:=split_pos n s h1 (by omega)
 have q:=quo_any n s hn h1
 rw [wrap64_id _ q]
 exact ⟨a.2,a.1⟩
theorem ret_two {k : IntKind} {a b c d : Int} (h : a = b /\ c = d) : Ending.returned (.tuple #[.int k a,.int k c]) = .returned (.tuple #[.int k b,.int k d]):=by rw [h.1,h.2]
theorem split_day (n : Int) (w : World) (hn : I64 n) :
  Calls Tryz.prog 151 #[.int .i64 n,.int .i64 1440] w fun e w' => e = .returned (.tuple #[.int .i64 (n / 1440),.int .i64 (n % 1440)]) /\ ∃ q,w' = w.drewN q:=by
 go_enter Tryz.func151,Tryz.ntmps151
 go_wp2_with fail
 go_quiet (fail)
 go_wp2_with fail
 ·have h : n.tmod 1440 < 0:=by assumption
  go_ret2
  exact ⟨ret_two (tdiv_pred n 1440 hn (by omega) (by omega) (by unfold I64 at *; omega) h),_,rfl⟩
 ·have h : 0 <= n.tmod 1440:=by assumption
  go_ret2
  exact ⟨ret_two (tdiv_same n 1440 hn (by omega) h),_,rfl⟩
theorem among_yes (n c : Int) (w : World) (h1 : 0 <= n) (h2 : n < c) :
  Calls Tryz.prog 150 #[.int .i64 n,.int .i64 c] w fun e w' => e = .returned (.bool true) /\ w = w':=by
 go_enter Tryz.func150,Tryz.ntmps150
 go_wp2_with fail
 go_ret
 exact ⟨ret_bool (by simp),rfl⟩
theorem among_no (n c : Int) (w : World) (h : n < 0 ∨ c <= n) :
  Calls Tryz.prog 150 #[.int .i64 n,.int .i64 c] w fun e w' => e = .returned (.bool false) /\ w = w':=by
 rcases h with h | h
 ·go_enter Tryz.func150,Tryz.ntmps150
  go_wp2_with fail
  go_ret
  exact ⟨ret_bool (by simp),rfl⟩
 ·go_enter Tryz.func150,Tryz.ntmps150
  go_wp2_with fail
  all_goals
   go_ret
   exact ⟨ret_bool (by simp [h]),rfl⟩
theorem minute_yes (n : Int) (w : World) (h1 : 0 <= n) (h2 : n < 52596000) :
  Calls Tryz.prog 120 #[.agg #[.int .i64 n]] w fun e w' => e = .returned (.bool true) /\ Below w.heap.size w w':=by
 go_enter Tryz.func120,Tryz.ntmps120
 go_wp2_with (go_at_call 150; refine (among_yes _ _ _ (by omega) (by omega)).mono ?_; rintro e w' ⟨rfl,rfl⟩)
 go_ret
 exact ⟨rfl,(Below.refl _ _).alloc (Nat.le_refl _) _⟩
theorem minute_no (n : Int) (w : World) (h : n < 0 ∨ 52596000 <= n) :
  Calls Tryz.prog 120 #[.agg #[.int .i64 n]] w fun e w' => e = .returned (.bool false) /\ Below w.heap.size w w':=by
 have H:=hide h
 clear h
 go_enter Tryz.func120,Tryz.ntmps120
 go_wp2_with (go_at_call 150; refine (among_no _ _ _ H.out).mono ?_; rintro e w' ⟨rfl,rfl⟩)
 go_ret
 exact ⟨rfl,(Below.refl _ _).alloc (Nat.le_refl _) _⟩
theorem minuteOf_any (a h m : Int) (w : World) (ha : 0 <= a) (ha2 : a < 36525) (hh : 0 <= h) (hh2 : h <= 23) (hm : 0 <= m) (hm2 : m <= 59) :
  Calls Tryz.prog 250 #[.int .i64 a,.int .i64 h,.int .i64 m] w fun e w' => e = .returned (.agg #[.int .i64 (a * 1440 + h * 60 + m)]) /\ Below w.heap.size w w':=by
 go_enter Tryz.func250,Tryz.ntmps250
 go_wp2_with fail
 refine bodyPost_ret (v:=.agg #[.int .i64 (a * 1440 + h * 60 + m)]) (by simp [results,Tryz.results250,go_sem]) rfl ⟨rfl,?_⟩
 repeat (first | exact Below.refl _ _ | refine below_drewN ?_ _ | refine Below.setCell ?_ (by simp) _ | refine Below.alloc ?_ (by simp) _)
theorem number_is (y m d a c : Int) (w : World) (h : numE y m d = (a,c)) :
  Calls Tryz.prog 249 #[.agg #[.int .i64 y,.int .i64 m,.int .i64 d]] w fun e w' => e = .returned (.tuple #[.int .i64 a,.int .i64 c]) /\ Below w.heap.size w w':=by
 have:=number_any y m d w
 rw [h] at this
 exact this
def timeB (h m : Int) : Bool:=decide (0 <= h) && decide (h <= 23) && decide (0 <= m) && decide (m <= 59)
theorem timeB_iff (h m : Int) : timeB h m = true ↔ 0 <= h /\ h <= 23 /\ 0 <= m /\ m <= 59:=by simp [timeB,and_assoc]
def minE (y mo d h m : Int) : Int × Int:=if (numE y mo d).2 = 0 then (if timeB h m then ((numE y mo d).1 * 1440 + h * 60 + m,0) else (0,11)) else (0,(numE y mo d).2)
theorem Minute_err (y mo d h m c : Int) (w : World) (hn : numE y mo d = (0,c)) (hc : (c == 0) = false) :
  Calls Tryz.prog 236 #[.agg #[.int .i64 y,.int .i64 mo,.int .i64 d],.int .i64 h,.int .i64 m] w fun e w' => e = .returned (.tuple #[.int .i64 0,.int .i64 c]) /\ Below w.heap.size w w':=by
 have H:=hide hn
 clear hn
 have hc' : (c != 0) = true:=by simp [bne,hc]
 go_enter Tryz.func236,Tryz.ntmps236
 go_wp2_with fail
 refine (number_is y mo d 0 c _ H.out).mono ?_
 rintro e w1 ⟨rfl,hb1⟩
 go_wp2_with fail
 go_ret2
 refine ⟨rfl,?_⟩
 repeat (first | exact Below.refl _ _ | refine Below.trans ?_ (hb1.mono (by simp)) | refine below_drewN ?_ _ | refine Below.setCell ?_ (by simp) _ | refine Below.alloc ?_ (by simp) _)
theorem Minute_time (y mo d h m a : Int) (w : World) (hn : numE y mo d = (a,0)) (ht : h < 0 ∨ 23 < h ∨ m < 0 ∨ 59 < m) :
    Calls Tryz.prog 236 #[.agg #[.int .i64 y,.int .i64 mo,.int .i64 d],.int .i64 h,.int .i64 m] w fun e w' => e = .returned (.tuple #[.int .i64 0,.int .i64 11]) /\ Below w.heap.size w w':=by
  have H:=hide hn
  clear hn
  by_cases c1 : h < 0 <;> by_cases c2 : 23 < h <;> by_cases c3 : m < 0 <;> by_cases c4 : 59 < m
  all_goals first
    | omega
    | (clear ht
       go_enter Tryz.func236,Tryz.ntmps236
       go_wp2_with fail
       refine (number_is y mo d a 0 _ H.out).mono ?_
       rintro e w1 ⟨rfl,hb1⟩
       go_wp2_with fail
       go_ret2
       refine ⟨rfl,?_⟩
       repeat (first | exact Below.refl _ _ | refine Below.trans ?_ (hb1.mono (by simp)) | refine below_drewN ?_ _ | refine Below.setCell ?_ (by simp) _ | refine Below.alloc ?_ (by simp) _))
theorem Minute_ok (y mo d h m a : Int) (w : World) (hn : numE y mo d = (a,0)) (ha : 0 <= a) (ha2 : a < 36525) (hh : 0 <= h) (hh2 : h <= 23) (hm : 0 <= m) (hm2 : m <= 59) :
  Calls Tryz.prog 236 #[.agg #[.int .i64 y,.int .i64 mo,.int .i64 d],.int .i64 h,.int .i64 m] w fun e w' => e = .returned (.tuple #[.int .i64 (a * 1440 + h * 60 + m),.int .i64 0]) /\ Below w.heap.size w w':=by
 have H:=hide hn
 clear hn
 have hfd:=field_minute
 go_enter Tryz.func236,Tryz.ntmps236
 go_wp2_with fail
 refine (number_is y mo d a 0 _ H.out).mono ?_
 rintro e w1 ⟨rfl,hb1⟩
 go_wp2_with fail
 refine (minuteOf_any a h m _ ha ha2 hh hh2 hm hm2).mono ?_
 rintro e w2 ⟨rfl,hb2⟩
 go_wp2_with fail
 go_ret2
 have hz:=hb1.size
 refine ⟨rfl,?_⟩
 repeat (first | exact Below.refl _ _ | refine Below.trans ?_ (hb2.mono (by simp at hz; omega)) | refine Below.trans ?_ (hb1.mono (by simp)) | refine below_drewN ?_ _ | refine Below.setCell ?_ (by simp) _ | refine Below.alloc ?_ (by simp) _)
theorem numE_cases (y m d : Int) : (∃ c,numE y m d = (0,c) /\ (c = 10 ∨ c = 11)) ∨ (∃ a,numE y m d = (a,0) /\ 0 <= a /\ a < 36525):=by
 cases hb : Cal.isB y m d
 ·exact .inl ⟨11,numE_11 y m d hb,.inr rfl⟩
 ·by_cases h1 : y < 2000 ∨ 2099 < y
  ·exact .inl ⟨10,numE_10 y m d hb h1,.inl rfl⟩
  ·have:=Cal.num_bd y m d (by omega) (by omega) hb
   exact .inr ⟨_,numE_0 y m d hb (by omega) (by omega),this.1,this.2⟩
theorem Minute_any (y mo d h m : Int) (w : World) :
  Calls Tryz.prog 236 #[.agg #[.int .i64 y,.int .i64 mo,.int .i64 d],.int .i64 h,.int .i64 m] w fun e w' => e = .returned (.tuple #[.int .i64 (minE y mo d h m).1,.int .i64 (minE y mo d h m).2]) /\ Below w.heap.size w w':=by
 rcases numE_cases y mo d with ⟨c,hn,hc⟩ | ⟨a,hn,ha,ha2⟩
 ·have e : minE y mo d h m = (0,c):=by unfold minE; rw [hn]; simp only; rw [if_neg (by omega)]
  rw [e]
  exact Minute_err y mo d h m c w hn (by rcases hc with rfl | rfl <;> rfl)
 ·by_cases ht : timeB h m = true
  ·have e : minE y mo d h m = (a * 1440 + h * 60 + m,0):=by unfold minE; rw [hn]; simp only; rw [if_pos trivial,if_pos ht]
   rw [e]
   rw [timeB_iff] at ht
   exact Minute_ok y mo d h m a w hn ha ha2 ht.1 ht.2.1 ht.2.2.1 ht.2.2.2
  ·have e : minE y mo d h m = (0,11):=by unfold minE; rw [hn]; simp only; rw [if_pos trivial,if_neg ht]
   rw [e]
   rw [timeB_iff] at ht
   exact Minute_time y mo d h m a w hn (by omega)
theorem clock_in (n : Int) (w : World) (h1 : 0 <= n) (h2 : n < 52596000) :
  Calls Tryz.prog 121 #[.agg #[.int .i64 n]] w fun e w' => e = .returned (.tuple #[.agg #[.int .i64 (n / 1440)],.int .i64 (n % 1440 / 60),.int .i64 (n % 60)]) /\ Below w.heap.size w w':=by
 go_enter Tryz.func121,Tryz.ntmps121
 go_wp2_with fail
 refine (split_day n _ (by unfold I64; omega)).mono ?_
 rintro e w1 ⟨rfl,q,rfl⟩
 go_wp2_with fail
 refine bodyPost_ret (v:=.tuple #[.agg #[.int .i64 (n / 1440)],.int .i64 (n % 1440 / 60),.int .i64 (n % 60)]) (by simp [results,Tryz.results121,go_sem]) rfl ⟨rfl,?_⟩
 repeat (first | exact Below.refl _ _ | refine below_drewN ?_ _ | refine Below.setCell ?_ (by simp) _ | refine Below.alloc ?_ (by simp) _)
theorem Clock_no (n : Int) (w : World) (h : n < 0 ∨ 52596000 <= n) :
  Calls Tryz.prog 85 #[.int .i64 n] w fun e w' => e = .returned (.tuple #[.agg #[.int .i64 0,.int .i64 0,.int .i64 0],.int .i64 0,.int .i64 0,.int .i64 10]) /\ Below w.heap.size w w':=by
 have H:=hide h
 clear h
 go_enter Tryz.func85,Tryz.ntmps85
 go_wp2_with fail
 refine (minute_no n _ H.out).mono ?_
 rintro e w1 ⟨rfl,hb1⟩
 obtain ⟨hc,hf⟩:=bcell hb1
 go_wp2_with fail
 have e0 : w1.cell? ⟨w.heap.size,0,none⟩ = some (.int .i64 0):=by rw [hc _ _ (by simp; omega)]; simp
 have e1 : w1.cell? ⟨w.heap.size,1,none⟩ = some (.int .i64 0):=by rw [hc _ _ (by simp; omega)]; simp
 have e2 : w1.cell? ⟨w.heap.size,2,none⟩ = some (.int .i64 0):=by rw [hc _ _ (by simp; omega)]; simp
 refine bodyPost_ret (v:=.tuple #[.agg #[.int .i64 0,.int .i64 0,.int .i64 0],.int .i64 0,.int .i64 0,.int .i64 10]) (by simp [results,Tryz.results85,go_sem,e0,e1,e2]) rfl ⟨rfl,?_⟩
 repeat (first | exact Below.refl _ _ | refine Below.trans ?_ (hb1.mono (by simp; omega)) | refine below_drewN ?_ _ | refine Below.setCell ?_ (by simp) _ | refine Below.alloc ?_ (by simp) _)
theorem Clock_yes (n : Int) (w : World) (h1 : 0 <= n) (h2 : n < 52596000) :
  Calls Tryz.prog 85 #[.int .i64 n] w fun e w' => e = .returned (.tuple #[.agg #[.int .i64 (Cal.yOf (n / 1440)),.int .i64 (Cal.mOf (n / 1440)),.int .i64 (Cal.dOf (n / 1440))],.int .i64 (n % 1440 / 60),.int .i64 (n % 60),.int .i64 0]) /\ Below w.heap.size w w':=by
 have hd1 : 0 <= n / 1440:=by omega
 have hd2 : n / 1440 < 36525:=by omega
 go_enter Tryz.func85,Tryz.ntmps85
 go_wp2_with fail
 refine (minute_yes n _ h1 h2).mono ?_
 rintro e w1 ⟨rfl,hb1⟩
 obtain ⟨hc,hf⟩:=bcell hb1
 have hz0 : w.heap.size < w1.heap.size:=by have:=hb1.size; simp at this; omega
 have hz1 : w.heap.size + 1 < w1.heap.size:=by have:=hb1.size; simp at this; omega
 go_wp2_with fail
 refine (clock_in n _ h1 h2).mono ?_
 rintro e w2 ⟨rfl,hb2⟩
 obtain ⟨hc2,hf2⟩:=bcell hb2
 have hz20 : w.heap.size < w2.heap.size:=by have:=hb2.size; omega
 go_wp2_with fail
 refine (date_any (n / 1440) _ hd1 hd2).mono ?_
 rintro e w3 ⟨rfl,hb3⟩
 obtain ⟨hc3,hf3⟩:=bcell hb3
 go_wp2_with fail
 have hz30 : w.heap.size < w3.heap.size:=by have:=hb3.size; simp at this; omega
 have e0 : w3.cell? ⟨w.heap.size,0,none⟩ = some (.int .i64 0):=by rw [hc3 _ _ (by simp; omega),World.cell?_alloc_past _ _ _ hz20,hc2 _ _ hz0,hc _ _ (by simp; omega)]; simp
 have e1 : w3.cell? ⟨w.heap.size,1,none⟩ = some (.int .i64 0):=by rw [hc3 _ _ (by simp; omega),World.cell?_alloc_past _ _ _ hz20,hc2 _ _ hz0,hc _ _ (by simp; omega)]; simp
 have e2 : w3.cell? ⟨w.heap.size,2,none⟩ = some (.int .i64 0):=by rw [hc3 _ _ (by simp; omega),World.cell?_alloc_past _ _ _ hz20,hc2 _ _ hz0,hc _ _ (by simp; omega)]; simp
 refine bodyPost_ret (v:=.tuple #[.agg #[.int .i64 (Cal.yOf (n / 1440)),.int .i64 (Cal.mOf (n / 1440)),.int .i64 (Cal.dOf (n / 1440))],.int .i64 (n % 1440 / 60),.int .i64 (n % 60),.int .i64 0]) (by simp [results,Tryz.results85,go_sem,e0,e1,e2]) rfl ⟨rfl,?_⟩
 repeat (first | exact Below.refl _ _ | refine Below.trans ?_ (hb3.mono (by simp; omega)) | refine Below.trans ?_ (hb2.mono (by omega)) | refine Below.trans ?_ (hb1.mono (by simp; omega)) | refine below_drewN ?_ _ | refine Below.setCell ?_ (by simp) _ | refine Below.alloc ?_ (by first | (simp; done) | omega) _)
def Tab (w : World) : Prop := Lib.TabIs Tryz.prog w "internal/strconv.uint64pow10" .u64 Lib.pow10Tab
theorem dec_1 (u : Nat) (h : u < 10) : Lib.decDigits u = [dg u]:=by
 rw [Lib.decDigits,dif_pos h]; rfl
theorem dec_2 (u : Nat) (h1 : 10 <= u) (h2 : u < 100) : Lib.decDigits u = two u:=by
 rw [Lib.decDigits,dif_neg (by omega),dec_1 (u / 10) (by omega)]; rfl
theorem dec_4 (u : Nat) (h1 : 2000 <= u) (h2 : u < 2100) : Lib.decDigits u = [50,48] ++ two (u - 2000):=by
 rw [Lib.decDigits,dif_neg (by omega),Lib.decDigits,dif_neg (by omega),dec_2 (u / 10 / 10) (by omega) (by omega)]
 unfold two
 have e1 : u / 10 / 10 / 10 = 2:=by omega
 have e2 : u / 10 / 10 % 10 = 0:=by omega
 have e3 : u / 10 % 10 = (u - 2000) / 10:=by omega
 have e4 : u % 10 = (u - 2000) % 10:=by omega
 rw [e1,e2,e3,e4]; rfl
theorem two_1 (u : Nat) (h : u < 10) : [48] ++ [dg u] = two u:=by
 unfold two
 rw [Nat.div_eq_of_lt h,Nat.mod_eq_of_lt h]; rfl
theorem itoa_1 (u : Nat) (h : u < 10) (w : World) :
  Calls Tryz.prog 58 #[.int .i64 u] w fun e w' => e = .returned (.string (str [dg u])) /\ w = w' :=
 (Tryz.strconv_Itoa_small u (by omega) w).mono fun e w' ⟨he,hw⟩ => ⟨by rw [he,dec_1 u h]; rfl,hw.symm⟩
theorem itoa_2 (u : Nat) (h1 : 10 <= u) (h2 : u < 100) (w : World) :
  Calls Tryz.prog 58 #[.int .i64 u] w fun e w' => e = .returned (.string (str (two u))) /\ w = w' :=
 (Tryz.strconv_Itoa_small u (by omega) w).mono fun e w' ⟨he,hw⟩ => ⟨by rw [he,dec_2 u h1 h2]; rfl,hw.symm⟩
theorem below_growN (w : World) (k : Nat) (os : Array Obj) : Below w.heap.size w (Sort.grow (w.drewN k) os):=by
 refine ⟨rfl,rfl,rfl,?_,?_⟩
 ·simp [Sort.grow]
 ·intro i hi
  simp only [Sort.grow]
  exact Array.getElem?_append_left (by simpa using hi)
theorem itoa_4 (u : Nat) (h1 : 2000 <= u) (h2 : u < 2100) (w : World) (ht : Tab w) :
  Calls Tryz.prog 58 #[.int .i64 u] w fun e w' => e = .returned (.string (str ([50,48] ++ two (u - 2000)))) /\ Below w.heap.size w w' :=
 (Tryz.strconv_Itoa u (by omega) (by omega) w ht).mono fun e w' ⟨he,k,os,hw⟩ => ⟨by
  have e1 : Lib.itoa (u : Int) = Lib.decDigits u:=Lib.itoa_nonneg u
  rw [he,e1,dec_4 u h1 h2]; rfl,by rw [hw]; exact below_growN w k os⟩
theorem repeat_0 (s : ByteArray) (n : Int) (w : World) (h : n = 0) :
  Calls Tryz.prog 123 #[.string s,.int .i64 n] w fun e w' => e = .returned (.string (str [])) /\ w = w':=by
 subst h; exact (Tryz.strings_Repeat_zero s w).mono fun _ _ ⟨he,hw⟩ => ⟨he,hw.symm⟩
theorem repeat_1 (s : ByteArray) (n : Int) (w : World) (h : n = 1) :
  Calls Tryz.prog 123 #[.string s,.int .i64 n] w fun e w' => e = .returned (.string s) /\ w = w':=by
 subst h; exact (Tryz.strings_Repeat_one s w).mono fun _ _ ⟨he,hw⟩ => ⟨he,hw.symm⟩
theorem zero_str : (⟨#[48]⟩ : ByteArray) = str [48]:=rfl
theorem digits_1 (u : Nat) (h : u < 10) (w : World) :
  Calls Tryz.prog 86 #[.int .i64 u,.int .i64 2] w fun e w' => e = .returned (.string (str (two u))) /\ w = w':=by
 have hs : (str [dg u]).size = 1:=by rw [str_size]; rfl
 go_enter Tryz.func86,Tryz.ntmps86
 go_wp2_with fail
 refine (itoa_1 u h _).mono ?_
 rintro e w1 ⟨rfl,rfl⟩
 go_wp2_with fail
 refine (repeat_1 _ _ _ (by decide)).mono ?_
 rintro e w1 ⟨rfl,rfl⟩
 go_wp2_with fail
 go_ret
 exact ⟨ret_str (by rw [zero_str,str_app,two_1 u h]),rfl⟩
theorem digits_2 (u : Nat) (h1 : 10 <= u) (h2 : u < 100) (w : World) :
  Calls Tryz.prog 86 #[.int .i64 u,.int .i64 2] w fun e w' => e = .returned (.string (str (two u))) /\ w = w':=by
 have hs : (str (two u)).size = 2:=by rw [str_size]; rfl
 go_enter Tryz.func86,Tryz.ntmps86
 go_wp2_with fail
 refine (itoa_2 u h1 h2 _).mono ?_
 rintro e w1 ⟨rfl,rfl⟩
 go_wp2_with fail
 refine (repeat_0 _ _ _ (by decide)).mono ?_
 rintro e w1 ⟨rfl,rfl⟩
 go_wp2_with fail
 go_ret
 exact ⟨ret_str (by rw [str_app]; rfl),rfl⟩
theorem digits_4 (u : Nat) (h1 : 2000 <= u) (h2 : u < 2100) (w : World) (ht : Tab w) :
  Calls Tryz.prog 86 #[.int .i64 u,.int .i64 4] w fun e w' => e = .returned (.string (str ([50,48] ++ two (u - 2000)))) /\ Below w.heap.size w w':=by
 have hs : (str ([50,48] ++ two (u - 2000))).size = 4:=by rw [str_size]; rfl
 generalize hl : [50,48] ++ two (u - 2000) = l at *
 have HL:=hide hl
 clear hl
 go_enter Tryz.func86,Tryz.ntmps86
 go_wp2_with fail
 refine (itoa_4 u h1 h2 _ ht).mono ?_
 rw [HL.out]
 rintro e w1 ⟨rfl,hb⟩
 go_wp2_with fail
 refine (repeat_0 _ _ _ (by decide)).mono ?_
 rintro e w2 ⟨rfl,rfl⟩
 go_wp2_with fail
 go_ret
 exact ⟨ret_str (by rw [str_app]; rfl),hb⟩
theorem digits_any (n : Int) (w : World) (h1 : 0 <= n) (h2 : n < 100) :
  Calls Tryz.prog 86 #[.int .i64 n,.int .i64 2] w fun e w' => e = .returned (.string (str (two n.toNat))) /\ w = w':=by
 obtain ⟨u,rfl⟩:=Int.eq_ofNat_of_zero_le h1
 rw [Int.toNat_natCast]
 by_cases h : u < 10
 ·exact digits_1 u h w
 ·exact digits_2 u (by omega) (by omega) w
theorem digits_year (n : Int) (w : World) (h1 : 2000 <= n) (h2 : n <= 2099) (ht : Tab w) :
  Calls Tryz.prog 86 #[.int .i64 n,.int .i64 4] w fun e w' => e = .returned (.string (str ([50,48] ++ two (n - 2000).toNat))) /\ Below w.heap.size w w':=by
 obtain ⟨u,rfl⟩:=Int.eq_ofNat_of_zero_le (a:=n) (by omega)
 rw [show ((u : Int) - 2000).toNat = u - 2000 from by omega]
 exact digits_4 u (by omega) (by omega) w ht
theorem tab_global : Tryz.prog.globalNamed "internal/strconv.uint64pow10" = some 5 := by kernel_rfl
theorem Tab.lt {w : World} (h : Tab w) : 5 < w.heap.size:=by
 unfold Tab Lib.TabIs World.var? at h
 rw [tab_global] at h
 simp only [Option.bind_some] at h
 apply Classical.byContradiction
 intro hn
 rw [Array.getElem?_eq_none (by omega)] at h
 cases h
theorem Tab.below {B : Nat} {w w' : World} (h : Tab w) (hb : Below B w w') (hB : w.heap.size <= B) : Tab w' :=
 var?_below hb tab_global (Nat.lt_of_lt_of_le h.lt hB) h
theorem Tab.alloc {w : World} (h : Tab w) (o : Obj) : Tab (w.alloc o):=h.below ((Below.refl _ _).alloc (Nat.le_refl _) o) (Nat.le_refl _)
theorem Tab.drewN {w : World} (h : Tab w) (n : Nat) : Tab (w.drewN n):=h.below (below_drewN (Below.refl _ _) n) (Nat.le_refl _)
theorem Tab.drew {w : World} (h : Tab w) : Tab w.drew:=h.below (Below.refl _ _).drew (Nat.le_refl _)
theorem held_step {W w2 w1 : World} {y mo d : Value} (hb : Below W.heap.size W w2)
  (h : W.cell? ⟨w1.heap.size,0,none⟩ = some y /\ W.cell? ⟨w1.heap.size,1,none⟩ = some mo /\ W.cell? ⟨w1.heap.size,2,none⟩ = some d /\ Tab W /\ w1.heap.size < W.heap.size /\ Below w1.heap.size w1 W) :
  w2.cell? ⟨w1.heap.size,0,none⟩ = some y /\ w2.cell? ⟨w1.heap.size,1,none⟩ = some mo /\ w2.cell? ⟨w1.heap.size,2,none⟩ = some d /\ Tab w2 /\ w1.heap.size < w2.heap.size /\ Below w1.heap.size w1 w2:=by
 obtain ⟨a,b,c,t,l,k⟩:=h
 have hc:=(bcell hb).1
 exact ⟨by rw [hc _ _ l,a],by rw [hc _ _ l,b],by rw [hc _ _ l,c],t.below hb (Nat.le_refl _),Nat.lt_of_lt_of_le l hb.size,k.trans (hb.mono (by omega))⟩
def yr (n : Int) : ByteArray:=str ([50,48] ++ two (n - 2000).toNat)
def tw (n : Int) : ByteArray:=str (two n.toNat)
theorem yr_size (n : Int) : (yr n).size = 4:=by unfold yr; rw [str_size]; rfl
theorem tw_size (n : Int) : (tw n).size = 2:=by unfold tw; rw [str_size]; rfl
theorem digits_yr (n : Int) (w : World) (h1 : 2000 <= n) (h2 : n <= 2099) (ht : Tab w) :
  Calls Tryz.prog 86 #[.int .i64 n,.int .i64 4] w fun e w' => e = .returned (.string (yr n)) /\ Below w.heap.size w w':=digits_year n w h1 h2 ht
theorem digits_tw (n : Int) (w : World) (h1 : 0 <= n) (h2 : n < 100) :
  Calls Tryz.prog 86 #[.int .i64 n,.int .i64 2] w fun e w' => e = .returned (.string (tw n)) /\ w = w':=digits_any n w h1 h2
def txt (y m d h mi : Int) : List UInt8:=[50,48] ++ two (y - 2000).toNat ++ two m.toNat ++ two d.toNat ++ [84] ++ two h.toNat ++ two mi.toNat ++ [48,48]
theorem T_str : (⟨#[84]⟩ : ByteArray) = str [84]:=rfl
theorem Z_str : (⟨#[48,48]⟩ : ByteArray) = str [48,48]:=rfl
theorem txt_go (y m d h mi : Int) : yr y ++ tw m ++ tw d ++ ⟨#[84]⟩ ++ tw h ++ tw mi ++ ⟨#[48,48]⟩ = str (txt y m d h mi):=by
 unfold yr tw txt
 simp only [T_str,Z_str,str_app]
theorem Text_no (n : Int) (w : World) (h : n < 0 ∨ 52596000 <= n) :
  Calls Tryz.prog 57 #[.int .i64 n] w fun e w' => e = .returned (.string (str [])) /\ Below w.heap.size w w':=by
 go_enter Tryz.func57,Tryz.ntmps57
 go_wp2_with fail
 refine (Clock_no n _ h).mono ?_
 rintro e w1 ⟨rfl,hb1⟩
 go_wp2_with fail
 go_ret
 refine ⟨rfl,?_⟩
 repeat (first | exact Below.refl _ _ | exact hb1 | refine below_drewN ?_ _ | refine Below.setCell ?_ (by simp) _ | refine Below.alloc ?_ (by first | (simp; done) | (have:=hb1.size; omega)) _)
theorem Text_yes (n y mo d h mi : Int) (w : World) (h1 : 0 <= n) (h2 : n < 52596000) (ht : Tab w)
  (hy : Cal.yOf (n / 1440) = y) (hmo : Cal.mOf (n / 1440) = mo) (hd : Cal.dOf (n / 1440) = d) (hh : n % 1440 / 60 = h) (hmi : n % 60 = mi)
  (y1 : 2000 <= y) (y2 : y <= 2099) (mo1 : 0 <= mo) (mo2 : mo < 100) (d1 : 0 <= d) (d2 : d < 100) (hh1 : 0 <= h) (hh2 : h < 100) (mi1 : 0 <= mi) (mi2 : mi < 100) :
  Calls Tryz.prog 57 #[.int .i64 n] w fun e w' => e = .returned (.string (str (txt y mo d h mi))) /\ Below w.heap.size w w':=by
 have C:=Clock_yes n w h1 h2
 rw [hy,hmo,hd,hh,hmi] at C
 have HC:=hide C
 clear C hy hmo hd hh hmi
 have HT:=hide ht
 clear ht
 have ysz:=yr_size y
 have tsz:=tw_size
 go_enter Tryz.func57,Tryz.ntmps57
 go_wp2_with fail
 refine HC.out.mono ?_
 rintro e w1 ⟨rfl,hb1⟩
 have HT1:=hide (HT.out.below hb1 (Nat.le_refl _))
 go_wp2_with fail
 go_region_held3 (fun w' => w'.cell? ⟨w1.heap.size,0,none⟩ = some (.int .i64 y) /\ w'.cell? ⟨w1.heap.size,1,none⟩ = some (.int .i64 mo) /\ w'.cell? ⟨w1.heap.size,2,none⟩ = some (.int .i64 d) /\ Tab w' /\ w1.heap.size < w'.heap.size /\ Below w1.heap.size w1 w')
  (first | exact ⟨by simp,by simp,by simp,(HT1.out.alloc _).drew,by simp,((Below.refl _ _).alloc (Nat.le_refl _) _).drew⟩ | assumption | exact held_step (by assumption) (by assumption) | go_keep)
  (first | (go_at_call 86; with_reducible refine (digits_yr y _ y1 y2 ?_).mono ?_; (first | assumption | exact (HT1.out.alloc _).drew); rintro e w2 ⟨rfl,hb2⟩) | (go_at_call 86; with_reducible refine (digits_tw mo _ mo1 mo2).mono ?_; rintro e w2 ⟨rfl,rfl⟩) | (go_at_call 86; with_reducible refine (digits_tw d _ d1 d2).mono ?_; rintro e w2 ⟨rfl,rfl⟩))
 obtain ⟨_,_,_,_,hlt,hbel⟩ : _ /\ _ /\ _ /\ _ /\ _ /\ _:=by assumption
 go_wp2_with fail
 refine (digits_tw h _ hh1 hh2).mono ?_
 rintro e w3 ⟨rfl,rfl⟩
 go_wp2_with fail
 refine (digits_tw mi _ mi1 mi2).mono ?_
 rintro e w3 ⟨rfl,rfl⟩
 go_wp2_with fail
 go_ret
 exact ⟨ret_str (txt_go y mo d h mi),hb1.trans (hbel.mono hb1.size)⟩
def textOf (n : Int) : List UInt8:=if 0 <= n /\ n < 52596000 then txt (Cal.yOf (n / 1440)) (Cal.mOf (n / 1440)) (Cal.dOf (n / 1440)) (n % 1440 / 60) (n % 60) else []
theorem Text_any (n : Int) (w : World) (ht : Tab w) :
  Calls Tryz.prog 57 #[.int .i64 n] w fun e w' => e = .returned (.string (str (textOf n))) /\ Below w.heap.size w w':=by
 by_cases h : 0 <= n /\ n < 52596000
 ·have e : textOf n = txt (Cal.yOf (n / 1440)) (Cal.mOf (n / 1440)) (Cal.dOf (n / 1440)) (n % 1440 / 60) (n % 60):=if_pos h
  have hy:=Cal.yOf_bd (n / 1440) (by omega) (by omega)
  have hm:=Cal.mOf_bd (n / 1440)
  have hd:=Cal.dOf_bd (n / 1440) (by omega) (by omega)
  rw [e]
  exact Text_yes n _ _ _ _ _ w h.1 h.2 ht rfl rfl rfl rfl rfl hy.1 hy.2 (by omega) (by omega) (by omega) (by omega) (by omega) (by omega) (by omega) (by omega)
 ·have e : textOf n = []:=if_neg h
  rw [e]
  exact Text_no n w (by omega)
def digit (c : UInt8) : Bool:=decide (48 <= (c.toNat : Int)) && decide ((c.toNat : Int) <= 57)
def digitsB (l : List UInt8) : Bool:=l.all digit
def val (l : List UInt8) : Int:=l.foldl (fun n c => n * 10 + ((c.toNat : Int) - 48)) 0
theorem val_snoc (l : List UInt8) (c : UInt8) : val (l ++ [c]) = val l * 10 + ((c.toNat : Int) - 48):=by simp [val]
theorem digitsB_snoc (l : List UInt8) (c : UInt8) : digitsB (l ++ [c]) = (digitsB l && digit c):=by simp [digitsB]
theorem take_snoc (s : ByteArray) (k : Nat) (h : k < s.size) : s.data.toList.take (k + 1) = s.data.toList.take k ++ [s[k]]:=by
 rw [List.take_succ_eq_append_getElem (by simpa using h)]; rfl
theorem digit_iff (c : UInt8) : digit c = true ↔ 48 <= (c.toNat : Int) /\ (c.toNat : Int) <= 57:=by simp [digit]
theorem digit_low (c : UInt8) (h : (c.toNat : Int) < 48) : digit c = false:=by unfold digit; simp only [Bool.and_eq_false_iff,decide_eq_false_iff_not]; omega
theorem digit_high (c : UInt8) (h : 57 < (c.toNat : Int)) : digit c = false:=by unfold digit; simp only [Bool.and_eq_false_iff,decide_eq_false_iff_not]; omega
theorem digit_in (c : UInt8) (h1 : ¬ (c.toNat : Int) < 48) (h2 : ¬ 57 < (c.toNat : Int)) : digit c = true:=by rw [digit_iff]; omega
theorem digitsB_not (s : ByteArray) (k : Nat) (h : k < s.size) (hd : digit s[k] = false) : false = digitsB s.data.toList:=by
 symm
 unfold digitsB
 rw [Bool.eq_false_iff]
 intro ha
 rw [List.all_eq_true] at ha
 have:=ha s[k] (by simp [ByteArray.getElem_eq_getElem_data])
 rw [hd] at this
 cases this
theorem digitsB_next (s : ByteArray) (k : Nat) (h : k < s.size) (hp : digitsB (s.data.toList.take k) = true) (hd : digit s[k] = true) : digitsB (s.data.toList.take (k + 1)) = true:=by
 rw [take_snoc s k h,digitsB_snoc,hp,hd]; rfl
theorem digitsB_all (s : ByteArray) (k : Nat) (h : ¬ k < s.size) (hp : digitsB (s.data.toList.take k) = true) : true = digitsB s.data.toList:=by
 rw [List.take_of_length_le (by simp; omega)] at hp
 exact hp.symm
theorem areDigits_any (s : ByteArray) (w : World) (hs : s.size <= 1000000) :
  Calls Tryz.prog 248 #[.string s] w fun e w' => e = .returned (.bool (digitsB s.data.toList)) /\ w = w':=by
 go_enter Tryz.func248,Tryz.ntmps248
 go_wp2_with fail
 go_loop [6] (fun i => ∃ k : Nat,k <= s.size /\ i = .int .i64 k /\ Hid (digitsB (s.data.toList.take k) = true)) (fun i => s.size - (intOf i).toNat)
 case atStart => exact ⟨0,Nat.zero_le _,rfl,rfl⟩
 case round =>
  obtain ⟨k,hk,rfl,hd⟩:=hrel
  by_cases hlt : k < s.size
  ·by_cases c1 : (s[k].toNat : Int) < 48
   ·have HF:=hide (digitsB_not s k hlt (digit_low _ c1))
    go_wp2
    go_ret
    exact ⟨ret_bool HF.out,rfl⟩
   ·by_cases c2 : 57 < (s[k].toNat : Int)
    ·have HF:=hide (digitsB_not s k hlt (digit_high _ c2))
     go_wp2
     go_ret
     exact ⟨ret_bool HF.out,rfl⟩
    ·have HN:=hide (digitsB_next s k hlt hd.out (digit_in _ c1 c2))
     go_wp2
     go_round
     case rel => exact ⟨k + 1,by omega,by go_num,HN⟩
     case measure => simp [intOf]; omega
  ·have HF:=hide (digitsB_all s k hlt hd.out)
   go_wp2
   go_ret
   exact ⟨ret_bool HF.out,rfl⟩
theorem fold_bd (l : List UInt8) : ∀ a : Int,0 <= a -> digitsB l = true -> 0 <= l.foldl (fun n c => n * 10 + ((c.toNat : Int) - 48)) a /\ l.foldl (fun n c => n * 10 + ((c.toNat : Int) - 48)) a < (a + 1) * 10 ^ l.length:=by
 induction l with
 | nil => intro a h _; simp; omega
 | cons c l ih =>
  intro a h hd
  simp only [digitsB,List.all_cons,Bool.and_eq_true] at hd
  have hc:=(digit_iff c).1 hd.1
  have:=ih (a * 10 + ((c.toNat : Int) - 48)) (by omega) hd.2
  rw [List.foldl_cons,List.length_cons,Int.pow_succ]
  refine ⟨this.1,Int.lt_of_lt_of_le this.2 ?_⟩
  have hp : (0 : Int) <= 10 ^ l.length:=Int.le_of_lt (Int.pow_pos (by decide))
  have : (a * 10 + ((c.toNat : Int) - 48) + 1) * 10 ^ l.length <= ((a + 1) * 10) * 10 ^ l.length:=Int.mul_le_mul_of_nonneg_right (by omega) hp
  have e : (a + 1) * (10 ^ l.length * 10) = ((a + 1) * 10) * 10 ^ l.length:=by
   rw [Int.mul_assoc,Int.mul_comm 10]
  rw [e]
  exact this
theorem val_bd (l : List UInt8) (h : digitsB l = true) : 0 <= val l /\ val l < 10 ^ l.length:=by
 have:=fold_bd l 0 (by decide) h
 simpa [val] using this
theorem val_le (l : List UInt8) (h : digitsB l = true) (hl : l.length <= 3) : 0 <= val l /\ val l <= 999:=by
 have:=val_bd l h
 have h4 : l.length = 0 ∨ l.length = 1 ∨ l.length = 2 ∨ l.length = 3:=by omega
 rcases h4 with e | e | e | e <;> rw [e] at this <;> simp at this <;> omega
theorem digitsB_take (l : List UInt8) (k : Nat) (h : digitsB l = true) : digitsB (l.take k) = true:=by
 unfold digitsB at *
 rw [List.all_eq_true] at *
 exact fun x hx => h x (List.mem_of_mem_take hx)
theorem digitsB_drop (l : List UInt8) (k : Nat) (h : digitsB l = true) : digitsB (l.drop k) = true:=by
 unfold digitsB at *
 rw [List.all_eq_true] at *
 exact fun x hx => h x (List.mem_of_mem_drop hx)
theorem digitsB_at (s : ByteArray) (k : Nat) (h : k < s.size) (hd : digitsB s.data.toList = true) : 48 <= (s[k].toNat : Int) /\ (s[k].toNat : Int) <= 57:=by
 unfold digitsB at hd
 rw [List.all_eq_true] at hd
 exact (digit_iff _).1 (hd s[k] (by simp [ByteArray.getElem_eq_getElem_data]))
theorem value_any (s : ByteArray) (w : World) (hs : s.size <= 4) (hd : digitsB s.data.toList = true) :
  Calls Tryz.prog 235 #[.string s] w fun e w' => e = .returned (.int .i64 (val s.data.toList)) /\ w = w':=by
 have HD:=hide hd
 clear hd
 go_enter Tryz.func235,Tryz.ntmps235
 go_wp2_with fail
 go_loop [3,7] (fun n i => ∃ k : Nat,k <= s.size /\ i = .int .i64 k /\ n = .int .i64 (val (s.data.toList.take k))) (fun _ i => s.size - (intOf i).toNat)
 case atStart => exact ⟨0,Nat.zero_le _,rfl,rfl⟩
 case round =>
  obtain ⟨k,hk,rfl,rfl⟩:=hrel
  by_cases hlt : k < s.size
  ·have hc:=digitsB_at s k hlt HD.out
   have hv:=val_le _ (digitsB_take _ k HD.out) (by simp; omega)
   have HN : Hid (val (s.data.toList.take (k + 1)) = val (s.data.toList.take k) * 10 + ((s[k].toNat : Int) - 48)):=by rw [take_snoc s k hlt]; exact val_snoc _ _
   generalize val (s.data.toList.take k) = V at *
   go_wp2
   go_round
   case rel => exact ⟨k + 1,by omega,by go_num,by rw [HN.out]⟩
   case measure => simp [intOf]; omega
  ·have HF : Hid (val (s.data.toList.take k) = val s.data.toList):=by rw [List.take_of_length_le (by simp; omega)]; rfl
   go_wp2
   go_ret
   exact ⟨ret_int HF.out,rfl⟩
theorem suffix_any (s p : ByteArray) (w : World) (hs : s.size <= 1000000) :
  Calls Tryz.prog 247 #[.string s,.string p] w fun e w' => e = .returned (.bool (Lib.hasSuffix s.data.toList p.data.toList)) /\ w = w' :=
 (Tryz.strings_HasSuffix s p w (by omega)).mono fun _ _ ⟨he,hw⟩ => ⟨he,hw.symm⟩
def formB (l : List UInt8) : Bool:=decide (l.length = 15) && (l.getD 8 0 == 84) && (l.drop 13 == [48,48]) && digitsB (l.take 8) && digitsB (l.drop 9)
theorem suffix_at (b : Bool) (s p : ByteArray) (w : World) (hs : s.size <= 1000000) (h : Lib.hasSuffix s.data.toList p.data.toList = b) :
  Calls Tryz.prog 247 #[.string s,.string p] w fun e w' => e = .returned (.bool b) /\ w = w':=by
 subst h; exact suffix_any s p w hs
theorem areDigits_at (b : Bool) (s : ByteArray) (w : World) (hs : s.size <= 1000000) (h : digitsB s.data.toList = b) :
  Calls Tryz.prog 248 #[.string s] w fun e w' => e = .returned (.bool b) /\ w = w':=by
 subst h; exact areDigits_any s w hs
theorem hasForm_long (s : ByteArray) (w : World) (hn : s.size ≠ 15) :
  Calls Tryz.prog 234 #[.string s] w fun e w' => e = .returned (.bool false) /\ w = w':=by
 have h15 : ((s.size : Int) != 15) = true:=by rw [bne_iff_ne]; omega
 have h15' : ((s.size : Int) == 15) = false:=by rw [beq_eq_false_iff_ne]; omega
 go_enter Tryz.func234,Tryz.ntmps234
 go_wp2_with fail
 go_ret
 exact ⟨rfl,rfl⟩
theorem hasForm_mid (s : ByteArray) (w : World) (hn : s.size = 15) (ht : (((s[8]'(by omega)).toNat : Int) != 84) = true) :
  Calls Tryz.prog 234 #[.string s] w fun e w' => e = .returned (.bool false) /\ w = w':=by
 go_enter Tryz.func234,Tryz.ntmps234
 go_wp2_with fail
 go_ret
 exact ⟨rfl,rfl⟩
theorem hasForm_end (s : ByteArray) (w : World) (hn : s.size = 15) (ht : (((s[8]'(by omega)).toNat : Int) != 84) = false) (he : Lib.hasSuffix s.data.toList [48,48] = false) :
  Calls Tryz.prog 234 #[.string s] w fun e w' => e = .returned (.bool false) /\ w = w':=by
 have H:=hide he
 clear he
 go_enter Tryz.func234,Tryz.ntmps234
 go_wp2_with fail
 refine (suffix_at false _ _ _ (by omega) H.out).mono ?_
 rintro e w' ⟨rfl,rfl⟩
 go_wp2_with fail
 go_ret
 exact ⟨rfl,rfl⟩
theorem hasForm_a (s : ByteArray) (w : World) (hn : s.size = 15) (ht : (((s[8]'(by omega)).toNat : Int) != 84) = false) (he : Lib.hasSuffix s.data.toList [48,48] = true) (hd : digitsB (s.extract 0 8).data.toList = false) :
  Calls Tryz.prog 234 #[.string s] w fun e w' => e = .returned (.bool false) /\ w = w':=by
 have H:=hide he
 have HD:=hide hd
 have hsz : (s.extract 0 8).size = 8:=by simp [ByteArray.size_extract]; omega
 clear he hd
 go_enter Tryz.func234,Tryz.ntmps234
 go_wp2_with fail
 refine (suffix_at true _ _ _ (by omega) H.out).mono ?_
 rintro e w' ⟨rfl,rfl⟩
 go_wp2_with fail
 refine (areDigits_at false _ _ (by omega) HD.out).mono ?_
 rintro e w' ⟨rfl,rfl⟩
 go_wp2_with fail
 go_ret
 exact ⟨rfl,rfl⟩
theorem hasForm_b (b : Bool) (s : ByteArray) (w : World) (hn : s.size = 15) (ht : (((s[8]'(by omega)).toNat : Int) != 84) = false) (he : Lib.hasSuffix s.data.toList [48,48] = true) (hd : digitsB (s.extract 0 8).data.toList = true)
  (hd2 : digitsB (s.extract 9 15).data.toList = b) :
  Calls Tryz.prog 234 #[.string s] w fun e w' => e = .returned (.bool b) /\ w = w':=by
 have H:=hide he
 have HD:=hide hd
 have HD2:=hide hd2
 have hsz : (s.extract 0 8).size = 8:=by simp [ByteArray.size_extract]; omega
 have hsz2 : (s.extract 9 15).size = 6:=by simp [ByteArray.size_extract]; omega
 clear he hd hd2
 go_enter Tryz.func234,Tryz.ntmps234
 go_wp2_with fail
 refine (suffix_at true _ _ _ (by omega) H.out).mono ?_
 rintro e w' ⟨rfl,rfl⟩
 go_wp2_with fail
 refine (areDigits_at true _ _ (by omega) HD.out).mono ?_
 rintro e w' ⟨rfl,rfl⟩
 go_wp2_with fail
 refine (areDigits_at b _ _ (by omega) HD2.out).mono ?_
 rintro e w' ⟨rfl,rfl⟩
 go_wp2_with fail
 go_ret
 exact ⟨rfl,rfl⟩
theorem at_8 (s : ByteArray) (h : s.size = 15) : s.data.toList.getD 8 0 = s[8]'(by omega):=by
 rw [List.getD_eq_getElem?_getD,List.getElem?_eq_getElem (by simpa using (by omega : 8 < s.size))]
 rfl
theorem suffix_00 (l : List UInt8) (h : l.length = 15) : Lib.hasSuffix l [48,48] = (l.drop 13 == [48,48]):=by
 unfold Lib.hasSuffix
 rw [Bool.eq_iff_iff,List.isSuffixOf_iff_suffix,List.suffix_iff_eq_drop]
 simp only [h,List.length_cons,List.length_nil,beq_iff_eq]
 exact ⟨fun h => h.symm,fun h => h.symm⟩
theorem not_84 (c : UInt8) : ((c.toNat : Int) != 84) = !(c == 84):=by
 by_cases h : c = 84
 ·subst h; rfl
 ·have h1 : (c == 84) = false:=by simp [h]
  have h2 : ¬ c.toNat = 84:=fun e => h (UInt8.toNat_inj.1 e)
  rw [h1]
  simp only [Bool.not_false,bne_iff_ne]
  omega
theorem hasForm_any (s : ByteArray) (w : World) :
  Calls Tryz.prog 234 #[.string s] w fun e w' => e = .returned (.bool (formB s.data.toList)) /\ w = w':=by
 have hl : s.data.toList.length = s.size:=by simp
 unfold formB
 rw [hl]
 by_cases hn : s.size = 15
 ·rw [decide_eq_true hn,Bool.true_and,at_8 s hn]
  cases ht : ((s[8]'(by omega)) == 84)
  ·rw [Bool.false_and,Bool.false_and,Bool.false_and]
   exact hasForm_mid s w hn (by rw [not_84,ht]; rfl)
  ·have ht' : (((s[8]'(by omega)).toNat : Int) != 84) = false:=by rw [not_84,ht]; rfl
   rw [Bool.true_and]
   have hs:=suffix_00 s.data.toList (hl.trans hn)
   cases he : (s.data.toList.drop 13 == [48,48])
   ·rw [Bool.false_and,Bool.false_and]
    exact hasForm_end s w hn ht' (hs.trans he)
   ·rw [Bool.true_and]
    have e8 : (s.extract 0 8).data.toList = s.data.toList.take 8:=by rw [Lib.extract_data]; simp
    have e9 : (s.extract 9 15).data.toList = s.data.toList.drop 9:=by
     have:=Lib.extract_to_end s 9
     rw [hn] at this
     exact this
    cases hd : digitsB (s.data.toList.take 8)
    ·rw [Bool.false_and]
     exact hasForm_a s w hn ht' (hs.trans he) (by rw [e8,hd])
    ·rw [Bool.true_and]
     exact hasForm_b _ s w hn ht' (hs.trans he) (by rw [e8,hd]) (by rw [e9])
 ·rw [decide_eq_false hn,Bool.false_and,Bool.false_and,Bool.false_and,Bool.false_and]
  exact hasForm_long s w hn
theorem hasForm_at (b : Bool) (s : ByteArray) (w : World) (h : formB s.data.toList = b) :
  Calls Tryz.prog 234 #[.string s] w fun e w' => e = .returned (.bool b) /\ w = w':=by
 subst h; exact hasForm_any s w
theorem Parse_no (s : ByteArray) (w : World) (h : formB s.data.toList = false) :
  Calls Tryz.prog 226 #[.string s] w fun e w' => e = .returned (.tuple #[.int .i64 0,.int .i64 14]) /\ Below w.heap.size w w':=by
 have H:=hide h
 clear h
 go_enter Tryz.func226,Tryz.ntmps226
 go_wp2_with fail
 refine (hasForm_at false s _ H.out).mono ?_
 rintro e w' ⟨rfl,rfl⟩
 go_wp2_with fail
 go_ret2
 exact ⟨rfl,Below.refl _ _⟩
structure Part (s : ByteArray) (a b : Nat) : Prop where
 size : (s.extract a b).size = b - a
 small : b - a <= 4
 dig : digitsB (s.extract a b).data.toList = true
def pvc (s : ByteArray) (a b : Nat) : Int:=val (s.extract a b).data.toList
theorem value_part (s : ByteArray) (a b : Nat) (w : World) (h : Part s a b) :
  Calls Tryz.prog 235 #[.string (s.extract a b)] w fun e w' => e = .returned (.int .i64 (pvc s a b)) /\ w = w':=value_any _ w (by have:=h.size; have:=h.small; omega) h.dig
theorem held_step2 {W w2 w1 : World} {y mo d : Value} (hb : Below W.heap.size W w2)
  (h : W.cell? ⟨w1.heap.size,0,none⟩ = some y /\ W.cell? ⟨w1.heap.size,1,none⟩ = some mo /\ W.cell? ⟨w1.heap.size,2,none⟩ = some d /\ w1.heap.size < W.heap.size /\ Below w1.heap.size w1 W) :
  w2.cell? ⟨w1.heap.size,0,none⟩ = some y /\ w2.cell? ⟨w1.heap.size,1,none⟩ = some mo /\ w2.cell? ⟨w1.heap.size,2,none⟩ = some d /\ w1.heap.size < w2.heap.size /\ Below w1.heap.size w1 w2:=by
 obtain ⟨a,b,c,l,k⟩:=h
 have hc:=(bcell hb).1
 exact ⟨by rw [hc _ _ l,a],by rw [hc _ _ l,b],by rw [hc _ _ l,c],Nat.lt_of_lt_of_le l hb.size,k.trans (hb.mono (by omega))⟩
theorem Parse_yes (s : ByteArray) (w : World) (h : formB s.data.toList = true) (hn : s.size = 15) (p1 : Part s 0 4) (p2 : Part s 4 6) (p3 : Part s 6 8) (p4 : Part s 9 11) (p5 : Part s 11 13) :
  Calls Tryz.prog 226 #[.string s] w fun e w' => e = .returned (.tuple #[.int .i64 (minE (pvc s 0 4) (pvc s 4 6) (pvc s 6 8) (pvc s 9 11) (pvc s 11 13)).1,.int .i64 (minE (pvc s 0 4) (pvc s 4 6) (pvc s 6 8) (pvc s 9 11) (pvc s 11 13)).2]) /\ Below w.heap.size w w':=by
 have H:=hide h
 clear h
 go_enter Tryz.func226,Tryz.ntmps226
 go_wp2_with fail
 refine (hasForm_at true s _ H.out).mono ?_
 rintro e w' ⟨rfl,rfl⟩
 go_wp2_with fail
 go_region_held3 (fun _ => True) (first | exact trivial | go_keep)
  (first | (go_at_call 235; with_reducible refine (value_part s 0 4 _ p1).mono ?_; rintro e w2 ⟨rfl,rfl⟩) | (go_at_call 235; with_reducible refine (value_part s 4 6 _ p2).mono ?_; rintro e w2 ⟨rfl,rfl⟩) | (go_at_call 235; with_reducible refine (value_part s 6 8 _ p3).mono ?_; rintro e w2 ⟨rfl,rfl⟩))
 all_goals
  go_wp2_with fail
  go_region_held3 (fun w' => w'.cell? ⟨w.heap.size,0,none⟩ = some (.int .i64 (pvc s 0 4)) /\ w'.cell? ⟨w.heap.size,1,none⟩ = some (.int .i64 (pvc s 4 6)) /\ w'.cell? ⟨w.heap.size,2,none⟩ = some (.int .i64 (pvc s 6 8)) /\ w.heap.size < w'.heap.size /\ Below w.heap.size w w')
   (first | exact ⟨by simp,by simp,by simp,by simp,by repeat (first | exact Below.refl _ _ | refine Below.drew ?_ | refine Below.setCell ?_ (by simp) _ | refine Below.alloc ?_ (by simp) _)⟩ | assumption | exact held_step2 (by assumption) (by assumption) | go_keep)
   (first | (go_at_call 235; with_reducible refine (value_part s 9 11 _ p4).mono ?_; rintro e w2 ⟨rfl,rfl⟩) | (go_at_call 235; with_reducible refine (value_part s 11 13 _ p5).mono ?_; rintro e w2 ⟨rfl,rfl⟩) | (go_at_call 236; with_reducible refine (Minute_any _ _ _ _ _ _).mono ?_; rintro e w2 ⟨rfl,hb2⟩))
  obtain ⟨_,_,_,_,hbel⟩ : _ /\ _ /\ _ /\ _ /\ _:=by assumption
  go_wp2_with fail
  go_ret2
  exact ⟨rfl,hbel⟩
def parseE (l : List UInt8) : Int × Int:=if formB l then minE (val (l.take 4)) (val ((l.drop 4).take 2)) (val ((l.drop 6).take 2)) (val ((l.drop 9).take 2)) (val ((l.drop 11).take 2)) else (0,14)
theorem form_parts (l : List UInt8) (h : formB l = true) : l.length = 15 /\ digitsB (l.take 8) = true /\ digitsB (l.drop 9) = true:=by
 unfold formB at h
 simp only [Bool.and_eq_true,decide_eq_true_eq] at h
 exact ⟨h.1.1.1.1,h.1.2,h.2⟩
theorem part_low (s : ByteArray) (a b : Nat) (hn : s.size = 15) (h : digitsB (s.data.toList.take 8) = true) (hb : b <= 8) (hab : b - a <= 4) : Part s a b where
 size:=by rw [ByteArray.size_extract]; omega
 small:=hab
 dig:=by
  rw [Lib.extract_data]
  have e : (s.data.toList.drop a).take (b - a) = ((s.data.toList.take 8).drop a).take (b - a):=by
   rw [List.drop_take,List.take_take,Nat.min_eq_left (by omega)]
  rw [e]
  exact digitsB_take _ _ (digitsB_drop _ _ h)
theorem part_high (s : ByteArray) (a b : Nat) (hn : s.size = 15) (h : digitsB (s.data.toList.drop 9) = true) (ha : 9 <= a) (hb : b <= 15) (hab : b - a <= 4) : Part s a b where
 size:=by rw [ByteArray.size_extract]; omega
 small:=hab
 dig:=by
  rw [Lib.extract_data]
  have e : s.data.toList.drop a = (s.data.toList.drop 9).drop (a - 9):=by
   rw [List.drop_drop]; congr 1; omega
  rw [e]
  exact digitsB_take _ _ (digitsB_drop _ _ h)
theorem Parse_any (s : ByteArray) (w : World) :
  Calls Tryz.prog 226 #[.string s] w fun e w' => e = .returned (.tuple #[.int .i64 (parseE s.data.toList).1,.int .i64 (parseE s.data.toList).2]) /\ Below w.heap.size w w':=by
 cases hf : formB s.data.toList
 ·have e : parseE s.data.toList = (0,14):=by unfold parseE; rw [hf]; rfl
  rw [e]
  exact Parse_no s w hf
 ·obtain ⟨hl,hd1,hd2⟩:=form_parts _ hf
  have hn : s.size = 15:=by rw [<- hl]; simp
  have e : parseE s.data.toList = minE (pvc s 0 4) (pvc s 4 6) (pvc s 6 8) (pvc s 9 11) (pvc s 11 13):=by
   unfold parseE pvc
   rw [hf]
   simp only [Lib.extract_data,if_true,List.drop_zero]
  rw [e]
  exact Parse_yes s w hf hn (part_low s 0 4 hn hd1 (by omega) (by omega)) (part_low s 4 6 hn hd1 (by omega) (by omega)) (part_low s 6 8 hn hd1 (by omega) (by omega)) (part_high s 9 11 hn hd2 (by omega) (by omega) (by omega)) (part_high s 11 13 hn hd2 (by omega) (by omega) (by omega))
theorem dg_nat (d : Nat) (h : d < 10) : (dg d).toNat = 48 + d:=by
 unfold dg
 rw [UInt8.toNat_ofNat']
 omega
theorem dg_digit (d : Nat) (h : d < 10) : digit (dg d) = true:=by rw [digit_iff,dg_nat d h]; omega
theorem digits_two (u : Nat) (h : u < 100) : digitsB (two u) = true:=by
 simp only [two,digitsB,List.all_cons,List.all_nil,Bool.and_true,Bool.and_eq_true]
 exact ⟨dg_digit _ (by omega),dg_digit _ (by omega)⟩
theorem digitsB_app (a b : List UInt8) : digitsB (a ++ b) = (digitsB a && digitsB b):=by simp [digitsB]
theorem val_two (u : Nat) (h : u < 100) : val (two u) = u:=by
 simp only [two,val,List.foldl_cons,List.foldl_nil,dg_nat (u / 10) (by omega),dg_nat (u % 10) (by omega)]
 omega
theorem val_year (u : Nat) (h : u < 100) : val ([50,48] ++ two u) = 2000 + u:=by
 simp only [two,val,List.cons_append,List.nil_append,List.foldl_cons,List.foldl_nil,dg_nat (u / 10) (by omega),dg_nat (u % 10) (by omega)]
 have e1 : ((50 : UInt8).toNat : Int) = 50:=rfl
 have e2 : ((48 : UInt8).toNat : Int) = 48:=rfl
 rw [e1,e2]
 omega
structure Fields (y m d h mi : Int) : Prop where
 y1 : 2000 <= y
 y2 : y <= 2099
 m1 : 0 <= m
 m2 : m < 100
 d1 : 0 <= d
 d2 : d < 100
 h1 : 0 <= h
 h2 : h < 100
 i1 : 0 <= mi
 i2 : mi < 100
theorem txt_form (y m d h mi : Int) (f : Fields y m d h mi) : formB (txt y m d h mi) = true:=by
 obtain ⟨y1,y2,m1,m2,d1,d2,h1,h2,i1,i2⟩:=f
 have e8 : (txt y m d h mi).take 8 = [50,48] ++ two (y - 2000).toNat ++ two m.toNat ++ two d.toNat:=rfl
 have e9 : (txt y m d h mi).drop 9 = two h.toNat ++ two mi.toNat ++ [48,48]:=rfl
 have el : (txt y m d h mi).length = 15:=rfl
 have eg : (txt y m d h mi).getD 8 0 = 84:=rfl
 have ed : (txt y m d h mi).drop 13 = [48,48]:=rfl
 have z : digitsB [48,48] = true:=by decide
 have t : digitsB [50,48] = true:=by decide
 unfold formB
 rw [e8,e9,el,eg,ed]
 simp only [digitsB_app,digits_two _ (show (y - 2000).toNat < 100 by omega),digits_two _ (show m.toNat < 100 by omega),digits_two _ (show d.toNat < 100 by omega),digits_two _ (show h.toNat < 100 by omega),digits_two _ (show mi.toNat < 100 by omega),z,t]
 decide
theorem txt_parse (y m d h mi : Int) (f : Fields y m d h mi) : parseE (txt y m d h mi) = minE y m d h mi:=by
 have hf:=txt_form y m d h mi f
 obtain ⟨y1,y2,m1,m2,d1,d2,h1,h2,i1,i2⟩:=f
 unfold parseE
 rw [if_pos hf]
 have e1 : (txt y m d h mi).take 4 = [50,48] ++ two (y - 2000).toNat:=rfl
 have e2 : ((txt y m d h mi).drop 4).take 2 = two m.toNat:=rfl
 have e3 : ((txt y m d h mi).drop 6).take 2 = two d.toNat:=rfl
 have e4 : ((txt y m d h mi).drop 9).take 2 = two h.toNat:=rfl
 have e5 : ((txt y m d h mi).drop 11).take 2 = two mi.toNat:=rfl
 rw [e1,e2,e3,e4,e5,val_year _ (by omega),val_two _ (by omega),val_two _ (by omega),val_two _ (by omega),val_two _ (by omega)]
 congr 1 <;> omega
theorem fields_of (x : Int) (h1 : 0 <= x) (h2 : x < 52596000) : Fields (Cal.yOf (x / 1440)) (Cal.mOf (x / 1440)) (Cal.dOf (x / 1440)) (x % 1440 / 60) (x % 60):=by
 have hy:=Cal.yOf_bd (x / 1440) (by omega) (by omega)
 have hm:=Cal.mOf_bd (x / 1440)
 have hd:=Cal.dOf_bd (x / 1440) (by omega) (by omega)
 exact ⟨hy.1,hy.2,by omega,by omega,by omega,by omega,by omega,by omega,by omega,by omega⟩
theorem textOf_in (x : Int) (h1 : 0 <= x) (h2 : x < 52596000) : textOf x = txt (Cal.yOf (x / 1440)) (Cal.mOf (x / 1440)) (Cal.dOf (x / 1440)) (x % 1440 / 60) (x % 60):=if_pos ⟨h1,h2⟩
theorem numE_of (n : Int) (h1 : 0 <= n) (h2 : n < 36525) : numE (Cal.yOf n) (Cal.mOf n) (Cal.dOf n) = (n,0):=by
 have hy:=Cal.yOf_bd n h1 h2
 rw [numE_0 _ _ _ (Cal.of_is n h1 h2) hy.1 hy.2,Cal.of_num]
theorem minE_of (x : Int) (h1 : 0 <= x) (h2 : x < 52596000) : minE (Cal.yOf (x / 1440)) (Cal.mOf (x / 1440)) (Cal.dOf (x / 1440)) (x % 1440 / 60) (x % 60) = (x,0):=by
 unfold minE
 rw [numE_of (x / 1440) (by omega) (by omega)]
 simp only
 rw [if_pos trivial,if_pos ((timeB_iff _ _).2 (by omega))]
 have : x / 1440 * 1440 + x % 1440 / 60 * 60 + x % 60 = x:=by omega
 rw [this]
theorem parse_text (x : Int) (h1 : 0 <= x) (h2 : x < 52596000) : parseE (textOf x) = (x,0):=by
 rw [textOf_in x h1 h2,txt_parse _ _ _ _ _ (fields_of x h1 h2),minE_of x h1 h2]
end Go.Proofs.YtfecnkhoojnkbaaGreatDoor

/- BW1; BW2 of the recipes, what is needed of them. -/
import Derived.Test.YtgihekokbgggcaaGreatProg
import Derived.WalkKit
import Derived.WalkSpells
import Derived.WalkLawsBesides
import Derived.Deep.QuietTactic
import Derived.BigQuiet
import Derived.Test.YtgihekokbgggcaaGreatZBM1
set_option maxHeartbeats 8000000
set_option maxRecDepth 1000000
namespace Go.Proofs.YtgihekokbgggcaaGreat
open Go.RowKit
theorem hide {p : Prop} (h : p) : Hid p:=h
theorem ret_bool {a b : Bool} (h : a = b) : Ending.returned (.bool a) = .returned (.bool b):=by rw [h]
theorem ret_int {k : IntKind} {a b : Int} (h : a = b) : Ending.returned (.int k a) = .returned (.int k b):=by rw [h]
theorem leap_any (y : Int) (w : World) :
  Calls Tryz.prog 163 #[.int .i64 y] w fun e w' => e = .returned (.bool (Cal.lpB y)) /\ w = w':=by
 by_cases h4 : (y.tmod 4 == 0) = true
 all_goals
  go_enter Tryz.func163,Tryz.ntmps163
  go_wp2
  all_goals
   go_ret
   exact ⟨ret_bool (by simp_all [Cal.lpB]),rfl⟩
theorem dim_31 (y m : Int) (h : m = 1 ∨ m = 3 ∨ m = 5 ∨ m = 7 ∨ m = 8 ∨ m = 10 ∨ m = 12) : 31 = Cal.dim y m:=by
 unfold Cal.dim; rw [if_pos h]
theorem dim_30 (y m : Int) (h : m = 4 ∨ m = 6 ∨ m = 9 ∨ m = 11) : 30 = Cal.dim y m:=by
 unfold Cal.dim; rw [if_neg (by omega),if_pos h]
theorem dim_29 (y : Int) (h : Cal.lpB y = true) : 29 = Cal.dim y 2:=by simp [Cal.dim,h]
theorem dim_28 (y : Int) (h : Cal.lpB y = false) : 28 = Cal.dim y 2:=by simp [Cal.dim,h]
theorem dim_0 (y m : Int) (h : m < 1 ∨ 12 < m) : 0 = Cal.dim y m:=(Cal.dim_out y m h).symm
theorem length_any (y m : Int) (w : World) :
  Calls Tryz.prog 133 #[.int .i64 y,.int .i64 m] w fun e w' => e = .returned (.int .i64 (Cal.dim y m)) /\ w = w':=by
 by_cases hm : m = 2
 ·subst hm
  cases hb : Cal.lpB y
  all_goals
   go_enter Tryz.func133,Tryz.ntmps133
   go_wp2_with (go_at_call 163; refine (leap_any _ _).mono ?_; rintro e w' ⟨rfl,rfl⟩)
   go_ret
   exact ⟨ret_int (by first | exact dim_28 y hb | exact dim_29 y hb),rfl⟩
 ·go_enter Tryz.func133,Tryz.ntmps133
  go_wp2_with fail
  all_goals
   go_ret
   exact ⟨ret_int (by simp only [beq_iff_eq,beq_eq_false_iff_ne,ne_eq] at *; first | exact dim_31 y m (by omega) | exact dim_30 y m (by omega) | exact dim_0 y m (by omega)),rfl⟩
theorem below_drewN {B : Nat} {a w : World} (h : Below B a w) (n : Nat) : Below B a (w.drewN n):=⟨h.os,h.tape,h.output,h.size,h.block⟩
theorem quiet_left {P : Program} {f : FuncId} {args : Array Value} {w : World} {n : Nat} {v : Value}
  (h : Calls P f args (w.drewN n) fun e w' => e = .returned v /\ w.drewN n = w') : Calls P f args (w.drewN n) fun e w'' => e = .returned v /\ ∃ m,w'' = w.drewN m :=
 h.mono fun _ _ ⟨he,hm⟩ => ⟨he,n,hm.symm⟩
theorem bcell {W w1 : World} (hb : Below W.heap.size W w1) : (∀ b o,b < W.heap.size -> w1.cell? ⟨b,o,none⟩ = W.cell? ⟨b,o,none⟩) /\ (∀ b o,b < W.heap.size -> w1.frozen? ⟨b,o,none⟩ = W.frozen? ⟨b,o,none⟩) :=
 ⟨fun b o h => hb.cell (p:=⟨b,o,none⟩) h,fun b o h => hb.frozen (p:=⟨b,o,none⟩) h⟩
theorem isB_yes (y m d : Int) (h : 1 <= d) : decide (d <= Cal.dim y m) = Cal.isB y m d:=by simp [Cal.isB,h]
theorem isB_no (y m d : Int) (h : decide (1 <= d) = false) : false = Cal.isB y m d:=by simp [Cal.isB,h]
theorem is_any (y m d : Int) (w : World) :
  Calls Tryz.prog 192 #[.agg #[.int .i64 y,.int .i64 m,.int .i64 d]] w fun e w' => e = .returned (.bool (Cal.isB y m d)) /\ Below w.heap.size w w':=by
 by_cases h : 1 <= d
 ·go_enter Tryz.func192,Tryz.ntmps192
  go_wp2_with fail
  go_quiet ((go_at_call 133; exact quiet_left (length_any _ _ _)))
  go_wp2
  go_ret
  exact ⟨ret_bool (isB_yes y m d h),below_drewN ((Below.refl _ _).alloc (Nat.le_refl _) _) _⟩
 ·have hd : decide (1 <= d) = false:=by simpa using h
  go_enter Tryz.func192,Tryz.ntmps192
  go_wp2_with fail
  go_quiet ((go_at_call 133; exact quiet_left (length_any _ _ _)))
  go_wp2
  go_ret
  exact ⟨ret_bool (isB_no y m d hd),below_drewN ((Below.refl _ _).alloc (Nat.le_refl _) _) _⟩
theorem yst_wrap (y : Int) (_h1 : 2000 <= y) (_h2 : y <= 2099) : (y - 2000) * 365 + (y - 2000 + 3) / 4 = Cal.yst y:=by unfold Cal.yst; rfl
theorem yearStart_any (y : Int) (w : World) (h1 : 2000 <= y) (h2 : y <= 2099) :
  Calls Tryz.prog 132 #[.int .i64 y] w fun e w' => e = .returned (.int .i64 (Cal.yst y)) /\ w = w':=by
 go_enter Tryz.func132,Tryz.ntmps132
 go_wp2
 go_ret
 exact ⟨ret_int (yst_wrap y h1 h2),rfl⟩
theorem num_one (y d : Int) : Cal.yst y + d - 1 = Cal.yst y + d - 1 + Cal.cum y 1:=by rw [Cal.cum_one]; omega
theorem num_step (y d k : Int) (h1 : 1 <= k) (h2 : k <= 12) : Cal.yst y + d - 1 + Cal.cum y k + Cal.dim y k = Cal.yst y + d - 1 + Cal.cum y (k + 1):=by
 rw [Cal.cum_succ y k h1 h2]; omega
theorem num_end (y m d : Int) : Cal.yst y + d - 1 + Cal.cum y m = Cal.num y m d:=by unfold Cal.num; omega
theorem dayOf_any (y m d : Int) (w : World) (h1 : 2000 <= y) (h2 : y <= 2099) (hm1 : 1 <= m) (hm2 : m <= 12) (hd1 : 1 <= d) (hd2 : d <= 31) :
  Calls Tryz.prog 193 #[.agg #[.int .i64 y,.int .i64 m,.int .i64 d]] w fun e w' => e = .returned (.agg #[.int .i64 (Cal.num y m d)]) /\ Below w.heap.size w w':=by
 have hy:=Cal.yst_bd y h1 h2
 go_enter Tryz.func193,Tryz.ntmps193
 go_wp2_with fail
 go_quiet ((go_at_call 132; exact quiet_left (yearStart_any _ _ h1 h2)))
 go_wp2_with fail
 go_loop [3,4] (fun n i => ∃ k : Int,1 <= k /\ k <= m /\ i = .int .i64 k /\ n = .int .i64 (Cal.yst y + d - 1 + Cal.cum y k)) (fun _ i => (12 - intOf i).toNat)
 case atStart => exact ⟨1,by omega,hm1,rfl,by rw [<- num_one]⟩
 case round =>
  obtain ⟨k,hk1,hk2,rfl,rfl⟩:=hrel
  have hc:=Cal.cum_bd y k hk1 (by omega)
  have hl:=Cal.dim_bd y k
  by_cases hlt : k < m
  ·have HS:=hide (num_step y d k hk1 (by omega))
   go_wp2_with (go_at_call 133; refine (length_any _ _ _).mono ?_; rintro e w' ⟨rfl,rfl⟩)
   go_round
   case rel => exact ⟨k + 1,by omega,by omega,rfl,by rw [HS.out]⟩
   case measure => simp [intOf]; omega
  ·obtain rfl : k = m:=by omega
   go_wp2
   refine bodyPost_ret (v:=.agg #[.int .i64 (Cal.yst y + d - 1 + Cal.cum y k)]) (by simp [results,Tryz.results193,go_sem]) rfl ⟨by rw [num_end],?_⟩
   exact (below_drewN (((Below.refl _ _).alloc (Nat.le_refl _) _).alloc (by simp) _) _).setCell (by simp) _
def numE (y m d : Int) : Int × Int:=if Cal.isB y m d then (if 2000 <= y /\ y <= 2099 then (Cal.num y m d,0) else (0,10)) else (0,11)
theorem numE_11 (y m d : Int) (h : Cal.isB y m d = false) : numE y m d = (0,11):=by simp [numE,h]
theorem numE_10 (y m d : Int) (h : Cal.isB y m d = true) (hy : y < 2000 ∨ 2099 < y) : numE y m d = (0,10):=by
 unfold numE; rw [if_pos h,if_neg (by omega)]
theorem numE_0 (y m d : Int) (h : Cal.isB y m d = true) (h1 : 2000 <= y) (h2 : y <= 2099) : numE y m d = (Cal.num y m d,0):=by
 unfold numE; rw [if_pos h,if_pos ⟨h1,h2⟩]
theorem is_at (b : Bool) (y m d : Int) (w : World) (h : Cal.isB y m d = b) :
  Calls Tryz.prog 192 #[.agg #[.int .i64 y,.int .i64 m,.int .i64 d]] w fun e w' => e = .returned (.bool b) /\ Below w.heap.size w w':=by
 subst h; exact is_any y m d w
theorem field_day (n : Int) (w : World) : (Instr.field 135 (.agg #[.int .i64 n]) 0).run Tryz.prog w = .ok (.int .i64 n) w:=by kernel_rfl
theorem number_any (y m d : Int) (w : World) :
  Calls Tryz.prog 186 #[.agg #[.int .i64 y,.int .i64 m,.int .i64 d]] w fun e w' => e = .returned (.tuple #[.int .i64 (numE y m d).1,.int .i64 (numE y m d).2]) /\ Below w.heap.size w w':=by
 cases hb : Cal.isB y m d
 ·rw [numE_11 y m d hb]
  have HB:=hide hb
  clear hb
  go_enter Tryz.func186,Tryz.ntmps186
  go_wp2_with (go_at_call 192; refine (is_at false _ _ _ _ HB.out).mono ?_; rintro e w' ⟨rfl,hb1⟩)
  go_ret2
  exact ⟨rfl,((Below.refl _ _).alloc (Nat.le_refl _) _).trans (hb1.mono (by simp))⟩
 ·have hm:=Cal.isB_month hb
  have hd:=(Cal.isB_iff y m d).1 hb
  have hd2:=Cal.dim_bd y m
  have HB:=hide hb
  by_cases h1 : y < 2000
  ·rw [numE_10 y m d hb (.inl h1)]
   clear hb
   go_enter Tryz.func186,Tryz.ntmps186
   go_wp2_with (go_at_call 192; refine (is_at true _ _ _ _ HB.out).mono ?_; rintro e w' ⟨rfl,hb1⟩; obtain ⟨hc,hf⟩:=bcell hb1)
   go_ret2
   exact ⟨rfl,((Below.refl _ _).alloc (Nat.le_refl _) _).trans (hb1.mono (by simp))⟩
  ·by_cases h2 : 2099 < y
   ·rw [numE_10 y m d hb (.inr h2)]
    clear hb
    go_enter Tryz.func186,Tryz.ntmps186
    go_wp2_with (go_at_call 192; refine (is_at true _ _ _ _ HB.out).mono ?_; rintro e w' ⟨rfl,hb1⟩; obtain ⟨hc,hf⟩:=bcell hb1)
    go_ret2
    exact ⟨rfl,((Below.refl _ _).alloc (Nat.le_refl _) _).trans (hb1.mono (by simp))⟩
   ·rw [numE_0 y m d hb (by omega) (by omega)]
    clear hb
    go_enter Tryz.func186,Tryz.ntmps186
    go_wp2_with fail
    refine (is_at true _ _ _ _ HB.out).mono ?_
    rintro e w' ⟨rfl,hb1⟩
    obtain ⟨hc,hf⟩:=bcell hb1
    go_wp2_with fail
    refine (dayOf_any y m d _ (by omega) (by omega) (by omega) (by omega) (by omega) (by omega)).mono ?_
    rintro e w2 ⟨rfl,hb2⟩
    clear hc hf hd hd2 hm h1 h2 HB
    have hfd:=field_day
    go_wp2_with fail
    go_ret2
    exact ⟨rfl,(((Below.refl _ _).alloc (Nat.le_refl _) _).trans (hb1.mono (by simp))).trans (hb2.mono (by have:=hb1.size; simp at this; omega))⟩
theorem month_at (y r k : Int) (hk1 : 1 <= k) (hk2 : k <= 12) (h1 : 0 <= r - Cal.cum y k) (h2 : ¬ Cal.dim y k <= r - Cal.cum y k) : Cal.mAt y r = k:=by
 have hs:=Cal.cum_succ y k hk1 hk2
 exact Cal.mAt_of _ _ k hk1 hk2 (by omega) (by omega)
theorem month_step (y r k : Int) (hhi : r < Cal.cum y 13) (hk1 : 1 <= k) (hk2 : k <= 12) (h : Cal.dim y k <= r - Cal.cum y k) : k + 1 <= 12 /\ 0 <= r - Cal.cum y (k + 1):=by
 have hs:=Cal.cum_succ y k hk1 hk2
 refine ⟨?_,by omega⟩
 by_cases e : k = 12
 ·subst e
  have : Cal.cum y (12 + 1) = Cal.cum y 13:=rfl
  omega
 ·omega
theorem month_next (y r k : Int) (hk1 : 1 <= k) (hk2 : k <= 12) : r - Cal.cum y k - Cal.dim y k = r - Cal.cum y (k + 1):=by
 rw [Cal.cum_succ _ _ hk1 hk2]; omega
theorem date_walk (n y : Int) (w : World) (h1 : 0 <= n) (h2 : n < 36525) (hy : 2000 + n * 4 / 1461 = y) (hy1 : 2000 <= y) (hy2 : y <= 2099) (hlo : Cal.yst y <= n) (hhi : n - Cal.yst y < Cal.cum y 13) :
  Calls Tryz.prog 109 #[.agg #[.int .i64 n]] w fun e w' => e = .returned (.agg #[.int .i64 y,.int .i64 (Cal.mAt y (n - Cal.yst y)),.int .i64 (n - Cal.yst y - Cal.cum y (Cal.mAt y (n - Cal.yst y)) + 1)]) /\ Below w.heap.size w w':=by
 have hyb:=Cal.yst_bd y hy1 hy2
 have HY:=hide hy
 clear hy
 go_enter Tryz.func109,Tryz.ntmps109
 go_wp2_with fail
 rw [HY.out]
 go_quiet ((go_at_call 132; exact quiet_left (yearStart_any _ _ hy1 hy2)))
 go_wp2_with fail
 go_loop [4,5] (fun r i => ∃ k : Int,1 <= k /\ k <= 12 /\ i = .int .i64 k /\ 0 <= n - Cal.yst y - Cal.cum y k /\ r = .int .i64 (n - Cal.yst y - Cal.cum y k)) (fun _ i => (12 - intOf i).toNat)
 case atStart => exact ⟨1,by omega,by omega,rfl,by rw [Cal.cum_one]; omega,by rw [Cal.cum_one,Int.sub_zero]⟩
 case round =>
  obtain ⟨k,hk1,hk2,rfl,hr,rfl⟩:=hrel
  have hc:=Cal.cum_bd y k hk1 (by omega)
  have hl:=Cal.dim_bd y k
  by_cases hd : Cal.dim y k <= n - Cal.yst y - Cal.cum y k
  ·have hst:=month_step y _ k hhi hk1 hk2 hd
   have HN:=hide (month_next y (n - Cal.yst y) k hk1 hk2)
   go_wp2_with (go_at_call 133; refine (length_any _ _ _).mono ?_; rintro e w' ⟨rfl,rfl⟩)
   go_round
   case rel => exact ⟨k + 1,by omega,by omega,rfl,hst.2,by rw [HN.out]⟩
   case measure => simp [intOf]; omega
  ·have HM:=hide (month_at y (n - Cal.yst y) k hk1 hk2 hr hd)
   go_wp2_with (go_at_call 133; refine (length_any _ _ _).mono ?_; rintro e w' ⟨rfl,rfl⟩)
   rw [HM.out]
   refine bodyPost_ret (v:=.agg #[.int .i64 y,.int .i64 k,.int .i64 (n - Cal.yst y - Cal.cum y k + 1)]) (by simp [results,Tryz.results109,go_sem]) rfl ⟨rfl,?_⟩
   repeat (first | exact Below.refl _ _ | refine below_drewN ?_ _ | refine Below.setCell ?_ (by simp) _ | refine Below.alloc ?_ (by simp) _)
theorem date_any (n : Int) (w : World) (h1 : 0 <= n) (h2 : n < 36525) :
  Calls Tryz.prog 109 #[.agg #[.int .i64 n]] w fun e w' => e = .returned (.agg #[.int .i64 (Cal.yOf n),.int .i64 (Cal.mOf n),.int .i64 (Cal.dOf n)]) /\ Below w.heap.size w w':=by
 have hb:=Cal.yOf_bd n h1 h2
 have hy:=Cal.yOf_yst n h1 h2
 have hs:=Cal.yst_succ (Cal.yOf n) hb.1 hb.2
 exact date_walk n (Cal.yOf n) w h1 h2 rfl hb.1 hb.2 hy.1 (by omega)
def I64 (n : Int) : Prop:=-9223372036854775808 <= n /\ n <= 9223372036854775807
theorem wrap_i64 (n : Int) (h : I64 n) : IntKind.i64.wrap n = n:=by
 unfold I64 at h
 exact IntWalk.i64_in n (by omega)
theorem quo_any (n s : Int) (hn : I64 n) (h1 : 0 < s) : I64 (n.tdiv s):=by
 unfold I64 at *
 rcases Int.lt_or_le n 0 with g | g
 ·have e : n.tdiv s = -((-n).tdiv s):=by rw [Int.neg_tdiv]; omega
  rw [e,Int.tdiv_eq_ediv_of_nonneg (by omega)]
  have a:=Int.ediv_nonneg (a:=-n) (b:=s) (by omega) (by omega)
  have b:=Int.ediv_le_self (a:=-n) s (by omega)
  omega
 ·rw [Int.tdiv_eq_ediv_of_nonneg g]
  have a:=Int.ediv_nonneg (a:=n) (b:=s) (by omega) (by omega)
  have b:=Int.ediv_le_self (a:=n) s (by omega)
  omega
theorem split_pos (n s : Int) (h1 : 0 < s) (h : ¬ n.tmod s < 0) : n.tmod s = n % s /\ n.tdiv s = n / s:=by
 have hm : n.tmod s = n % s:=by
  rcases Int.lt_or_le n 0 with g | g
  ·have h0 : n.tmod s <= 0:=by
    have e : n.tmod s = -((-n).tmod s):=by rw [Int.neg_tmod]; omega
    rw [e,Int.tmod_eq_emod_of_nonneg (by omega)]
    have:=Int.emod_nonneg (-n) (b:=s) (by omega)
    omega
   have h0' : n.tmod s = 0:=by omega
   have hd : s ∣ n:=Int.dvd_of_tmod_eq_zero h0'
   rw [h0',Int.emod_eq_zero_of_dvd hd]
  ·exact Int.tmod_eq_emod_of_nonneg g
 refine ⟨hm,?_⟩
 have a:=Int.mul_tdiv_add_tmod n s
 have b:=Int.mul_ediv_add_emod n s
 rw [hm] at a
 have c : s * n.tdiv s = s * (n / s):=by omega
 exact Int.eq_of_mul_eq_mul_left (by omega) c
theorem split_neg (n s : Int) (h1 : 0 < s) (h : n.tmod s < 0) : n.tmod s + s = n % s /\ n.tdiv s - 1 = n / s:=by
 have hl : -s < n.tmod s:=by
  have:=Int.lt_tmod_of_pos n h1
  omega
 have a:=Int.mul_tdiv_add_tmod n s
 have e : n = s * (n.tdiv s - 1) + (n.tmod s + s):=by rw [Int.mul_sub]; omega
 have hr : 0 <= n.tmod s + s:=by omega
 have hr2 : n.tmod s + s < s:=by omega
 have u:=(Int.ediv_emod_unique (a:=n) (b:=s) (r:=n.tmod s + s) (q:=n.tdiv s - 1) h1).2 ⟨by rw [Int.add_comm]; exact e.symm,hr,hr2⟩
 exact ⟨u.2.symm,u.1.symm⟩
theorem wrap64_id (n : Int) (h : I64 n) : wrap64 n = n:=by
 unfold I64 at h
 unfold wrap64
 omega
theorem tdiv_pred (n s : Int) (hn : I64 n) (h1 : 0 < s) (h2 : s < 1000000) (hq : I64 (n / s)) (h : n.tmod s < 0) : wrap64 (wrap64 (n.tdiv s) - 1) = n / s /\ wrap64 (n.tmod s + s) = n % s:=by
 have a:=split_neg n s h1 h
 have b0:=Int.emod_nonneg n (b:=s) (by omega)
 have b1:=Int.emod_lt_of_pos n h1
 rw [wrap64_id _ (quo_any n s hn h1),a.2,a.1]
 exact ⟨wrap64_id _ hq,wrap64_id _ (by unfold I64; omega)⟩
theorem tdiv_same (n s : Int) (hn : I64 n) (h1 : 0 < s) (h : 0 <= n.tmod s) : wrap64 (n.tdiv s) = n / s /\ n.tmod s = n % s:=by
 have a:=split_pos n s h1 (by omega)
 have q:=quo_any n s hn h1
 rw [wrap64_id _ q]
 exact ⟨a.2,a.1⟩
theorem ret_two {k : IntKind} {a b c d : Int} (h : a = b /\ c = d) : Ending.returned (.tuple #[.int k a,.int k c]) = .returned (.tuple #[.int k b,.int k d]):=by rw [h.1,h.2]
theorem split_7 (n : Int) (w : World) (hn : I64 n) :
  Calls Tryz.prog 131 #[.int .i64 n,.int .i64 7] w fun e w' => e = .returned (.tuple #[.int .i64 (n / 7),.int .i64 (n % 7)]) /\ ∃ q,w' = w.drewN q:=by
 go_enter Tryz.func131,Tryz.ntmps131
 go_wp2_with fail
 go_quiet (fail)
 go_wp2_with fail
 ·have h : n.tmod 7 < 0:=by assumption
  go_ret2
  exact ⟨ret_two (tdiv_pred n 7 hn (by omega) (by omega) (by unfold I64 at *; omega) h),_,rfl⟩
 ·have h : 0 <= n.tmod 7:=by assumption
  go_ret2
  exact ⟨ret_two (tdiv_same n 7 hn (by omega) h),_,rfl⟩
theorem split_day (n : Int) (w : World) (hn : I64 n) :
  Calls Tryz.prog 131 #[.int .i64 n,.int .i64 1440] w fun e w' => e = .returned (.tuple #[.int .i64 (n / 1440),.int .i64 (n % 1440)]) /\ ∃ q,w' = w.drewN q:=by
 go_enter Tryz.func131,Tryz.ntmps131
 go_wp2_with fail
 go_quiet (fail)
 go_wp2_with fail
 ·have h : n.tmod 1440 < 0:=by assumption
  go_ret2
  exact ⟨ret_two (tdiv_pred n 1440 hn (by omega) (by omega) (by unfold I64 at *; omega) h),_,rfl⟩
 ·have h : 0 <= n.tmod 1440:=by assumption
  go_ret2
  exact ⟨ret_two (tdiv_same n 1440 hn (by omega) h),_,rfl⟩
theorem mod7_bd (n : Int) : 0 <= n % 7 /\ n % 7 <= 6:=by omega
theorem wday_go (n : Int) : (5 + n % 7) % 7 = Cal.wday n:=rfl
theorem weekday_in (n : Int) (w : World) (hn : I64 n) :
  Calls Tryz.prog 180 #[.agg #[.int .i64 n]] w fun e w' => e = .returned (.int .i64 (Cal.wday n)) /\ Below w.heap.size w w':=by
 have hb:=mod7_bd n
 go_enter Tryz.func180,Tryz.ntmps180
 go_wp2_with fail
 refine (split_7 n _ hn).mono ?_
 rintro e w' ⟨rfl,q,rfl⟩
 go_wp2_with fail
 go_ret
 exact ⟨ret_int (wday_go n),below_drewN ((Below.refl _ _).alloc (Nat.le_refl _) _) _⟩
theorem weekday_any (n : Int) (w : World) (hn : I64 n) :
  Calls Tryz.prog 165 #[.int .i64 n] w fun e w' => e = .returned (.int .i64 (Cal.wday n)) /\ Below w.heap.size w w':=by
 go_enter Tryz.func165,Tryz.ntmps165
 go_wp2_with fail
 refine (weekday_in n _ hn).mono ?_
 rintro e w' ⟨rfl,hb⟩
 go_wp2_with fail
 go_ret
 exact ⟨rfl,hb⟩
theorem among_yes (n c : Int) (w : World) (h1 : 0 <= n) (h2 : n < c) :
  Calls Tryz.prog 130 #[.int .i64 n,.int .i64 c] w fun e w' => e = .returned (.bool true) /\ w = w':=by
 go_enter Tryz.func130,Tryz.ntmps130
 go_wp2_with fail
 go_ret
 exact ⟨ret_bool (by simp),rfl⟩
theorem among_no (n c : Int) (w : World) (h : n < 0 ∨ c <= n) :
  Calls Tryz.prog 130 #[.int .i64 n,.int .i64 c] w fun e w' => e = .returned (.bool false) /\ w = w':=by
 rcases h with h | h
 ·go_enter Tryz.func130,Tryz.ntmps130
  go_wp2_with fail
  go_ret
  exact ⟨ret_bool (by simp),rfl⟩
 ·go_enter Tryz.func130,Tryz.ntmps130
  go_wp2_with fail
  all_goals
   go_ret
   exact ⟨ret_bool (by simp [h]),rfl⟩
theorem day_yes (n : Int) (w : World) (h1 : 0 <= n) (h2 : n < 36525) :
  Calls Tryz.prog 164 #[.agg #[.int .i64 n]] w fun e w' => e = .returned (.bool true) /\ Below w.heap.size w w':=by
 go_enter Tryz.func164,Tryz.ntmps164
 go_wp2_with (go_at_call 130; refine (among_yes _ _ _ (by omega) (by omega)).mono ?_; rintro e w' ⟨rfl,rfl⟩)
 go_ret
 exact ⟨rfl,(Below.refl _ _).alloc (Nat.le_refl _) _⟩
theorem day_no (n : Int) (w : World) (h : n < 0 ∨ 36525 <= n) :
  Calls Tryz.prog 164 #[.agg #[.int .i64 n]] w fun e w' => e = .returned (.bool false) /\ Below w.heap.size w w':=by
 have H:=hide h
 clear h
 go_enter Tryz.func164,Tryz.ntmps164
 go_wp2_with (go_at_call 130; refine (among_no _ _ _ H.out).mono ?_; rintro e w' ⟨rfl,rfl⟩)
 go_ret
 exact ⟨rfl,(Below.refl _ _).alloc (Nat.le_refl _) _⟩
theorem minute_yes (n : Int) (w : World) (h1 : 0 <= n) (h2 : n < 52596000) :
  Calls Tryz.prog 107 #[.agg #[.int .i64 n]] w fun e w' => e = .returned (.bool true) /\ Below w.heap.size w w':=by
 go_enter Tryz.func107,Tryz.ntmps107
 go_wp2_with (go_at_call 130; refine (among_yes _ _ _ (by omega) (by omega)).mono ?_; rintro e w' ⟨rfl,rfl⟩)
 go_ret
 exact ⟨rfl,(Below.refl _ _).alloc (Nat.le_refl _) _⟩
theorem minute_no (n : Int) (w : World) (h : n < 0 ∨ 52596000 <= n) :
  Calls Tryz.prog 107 #[.agg #[.int .i64 n]] w fun e w' => e = .returned (.bool false) /\ Below w.heap.size w w':=by
 have H:=hide h
 clear h
 go_enter Tryz.func107,Tryz.ntmps107
 go_wp2_with (go_at_call 130; refine (among_no _ _ _ H.out).mono ?_; rintro e w' ⟨rfl,rfl⟩)
 go_ret
 exact ⟨rfl,(Below.refl _ _).alloc (Nat.le_refl _) _⟩
theorem Date_yes (n : Int) (w : World) (h1 : 0 <= n) (h2 : n < 36525) :
  Calls Tryz.prog 134 #[.int .i64 n] w fun e w' => e = .returned (.tuple #[.agg #[.int .i64 (Cal.yOf n),.int .i64 (Cal.mOf n),.int .i64 (Cal.dOf n)],.int .i64 0]) /\ Below w.heap.size w w':=by
 go_enter Tryz.func134,Tryz.ntmps134
 go_wp2_with fail
 refine (day_yes n _ h1 h2).mono ?_
 rintro e w1 ⟨rfl,hb1⟩
 obtain ⟨hc,hf⟩:=bcell hb1
 have hz0 : w.heap.size < w1.heap.size:=by have:=hb1.size; simp at this; omega
 have hz1 : w.heap.size + 1 < w1.heap.size:=by have:=hb1.size; simp at this; omega
 go_wp2_with fail
 refine (date_any n _ h1 h2).mono ?_
 rintro e w2 ⟨rfl,hb2⟩
 obtain ⟨hc2,hf2⟩:=bcell hb2
 go_wp2_with fail
 have e0 : w2.cell? ⟨w.heap.size,0,none⟩ = some (.int .i64 0):=by rw [hc2 _ _ hz0,hc _ _ (by simp; omega)]; simp
 have e1 : w2.cell? ⟨w.heap.size,1,none⟩ = some (.int .i64 0):=by rw [hc2 _ _ hz0,hc _ _ (by simp; omega)]; simp
 have e2 : w2.cell? ⟨w.heap.size,2,none⟩ = some (.int .i64 0):=by rw [hc2 _ _ hz0,hc _ _ (by simp; omega)]; simp
 refine bodyPost_ret (v:=.tuple #[.agg #[.int .i64 (Cal.yOf n),.int .i64 (Cal.mOf n),.int .i64 (Cal.dOf n)],.int .i64 0]) (by simp [results,Tryz.results134,go_sem,e0,e1,e2]) rfl ⟨rfl,?_⟩
 repeat (first | exact Below.refl _ _ | refine Below.trans ?_ (hb2.mono (by omega)) | refine Below.trans ?_ (hb1.mono (by simp; omega)) | refine below_drewN ?_ _ | refine Below.setCell ?_ (by simp) _ | refine Below.alloc ?_ (by simp) _)
theorem Date_no (n : Int) (w : World) (h : n < 0 ∨ 36525 <= n) :
  Calls Tryz.prog 134 #[.int .i64 n] w fun e w' => e = .returned (.tuple #[.agg #[.int .i64 0,.int .i64 0,.int .i64 0],.int .i64 10]) /\ Below w.heap.size w w':=by
 have H:=hide h
 clear h
 go_enter Tryz.func134,Tryz.ntmps134
 go_wp2_with fail
 refine (day_no n _ H.out).mono ?_
 rintro e w1 ⟨rfl,hb1⟩
 obtain ⟨hc,hf⟩:=bcell hb1
 go_wp2_with fail
 have e0 : w1.cell? ⟨w.heap.size,0,none⟩ = some (.int .i64 0):=by rw [hc _ _ (by simp; omega)]; simp
 have e1 : w1.cell? ⟨w.heap.size,1,none⟩ = some (.int .i64 0):=by rw [hc _ _ (by simp; omega)]; simp
 have e2 : w1.cell? ⟨w.heap.size,2,none⟩ = some (.int .i64 0):=by rw [hc _ _ (by simp; omega)]; simp
 refine bodyPost_ret (v:=.tuple #[.agg #[.int .i64 0,.int .i64 0,.int .i64 0],.int .i64 10]) (by simp [results,Tryz.results134,go_sem,e0,e1,e2]) rfl ⟨rfl,?_⟩
 repeat (first | exact Below.refl _ _ | refine Below.trans ?_ (hb1.mono (by simp; omega)) | refine below_drewN ?_ _ | refine Below.setCell ?_ (by simp) _ | refine Below.alloc ?_ (by simp) _)
theorem number_is (y m d a c : Int) (w : World) (h : numE y m d = (a,c)) :
  Calls Tryz.prog 186 #[.agg #[.int .i64 y,.int .i64 m,.int .i64 d]] w fun e w' => e = .returned (.tuple #[.int .i64 a,.int .i64 c]) /\ Below w.heap.size w w':=by
 have:=number_any y m d w
 rw [h] at this
 exact this
theorem clock_in (n : Int) (w : World) (h1 : 0 <= n) (h2 : n < 52596000) :
  Calls Tryz.prog 108 #[.agg #[.int .i64 n]] w fun e w' => e = .returned (.tuple #[.agg #[.int .i64 (n / 1440)],.int .i64 (n % 1440 / 60),.int .i64 (n % 60)]) /\ Below w.heap.size w w':=by
 go_enter Tryz.func108,Tryz.ntmps108
 go_wp2_with fail
 refine (split_day n _ (by unfold I64; omega)).mono ?_
 rintro e w1 ⟨rfl,q,rfl⟩
 go_wp2_with fail
 refine bodyPost_ret (v:=.tuple #[.agg #[.int .i64 (n / 1440)],.int .i64 (n % 1440 / 60),.int .i64 (n % 60)]) (by simp [results,Tryz.results108,go_sem]) rfl ⟨rfl,?_⟩
 repeat (first | exact Below.refl _ _ | refine below_drewN ?_ _ | refine Below.setCell ?_ (by simp) _ | refine Below.alloc ?_ (by simp) _)
theorem Clock_no (n : Int) (w : World) (h : n < 0 ∨ 52596000 <= n) :
  Calls Tryz.prog 84 #[.int .i64 n] w fun e w' => e = .returned (.tuple #[.agg #[.int .i64 0,.int .i64 0,.int .i64 0],.int .i64 0,.int .i64 0,.int .i64 10]) /\ Below w.heap.size w w':=by
 have H:=hide h
 clear h
 go_enter Tryz.func84,Tryz.ntmps84
 go_wp2_with fail
 refine (minute_no n _ H.out).mono ?_
 rintro e w1 ⟨rfl,hb1⟩
 obtain ⟨hc,hf⟩:=bcell hb1
 go_wp2_with fail
 have e0 : w1.cell? ⟨w.heap.size,0,none⟩ = some (.int .i64 0):=by rw [hc _ _ (by simp; omega)]; simp
 have e1 : w1.cell? ⟨w.heap.size,1,none⟩ = some (.int .i64 0):=by rw [hc _ _ (by simp; omega)]; simp
 have e2 : w1.cell? ⟨w.heap.size,2,none⟩ = some (.int .i64 0):=by rw [hc _ _ (by simp; omega)]; simp
 refine bodyPost_ret (v:=.tuple #[.agg #[.int .i64 0,.int .i64 0,.int .i64 0],.int .i64 0,.int .i64 0,.int .i64 10]) (by simp [results,Tryz.results84,go_sem,e0,e1,e2]) rfl ⟨rfl,?_⟩
 repeat (first | exact Below.refl _ _ | refine Below.trans ?_ (hb1.mono (by simp; omega)) | refine below_drewN ?_ _ | refine Below.setCell ?_ (by simp) _ | refine Below.alloc ?_ (by simp) _)
theorem Clock_yes (n : Int) (w : World) (h1 : 0 <= n) (h2 : n < 52596000) :
  Calls Tryz.prog 84 #[.int .i64 n] w fun e w' => e = .returned (.tuple #[.agg #[.int .i64 (Cal.yOf (n / 1440)),.int .i64 (Cal.mOf (n / 1440)),.int .i64 (Cal.dOf (n / 1440))],.int .i64 (n % 1440 / 60),.int .i64 (n % 60),.int .i64 0]) /\ Below w.heap.size w w':=by
 have hd1 : 0 <= n / 1440:=by omega
 have hd2 : n / 1440 < 36525:=by omega
 go_enter Tryz.func84,Tryz.ntmps84
 go_wp2_with fail
 refine (minute_yes n _ h1 h2).mono ?_
 rintro e w1 ⟨rfl,hb1⟩
 obtain ⟨hc,hf⟩:=bcell hb1
 have hz0 : w.heap.size < w1.heap.size:=by have:=hb1.size; simp at this; omega
 have hz1 : w.heap.size + 1 < w1.heap.size:=by have:=hb1.size; simp at this; omega
 go_wp2_with fail
 refine (clock_in n _ h1 h2).mono ?_
 rintro e w2 ⟨rfl,hb2⟩
 obtain ⟨hc2,hf2⟩:=bcell hb2
 have hz20 : w.heap.size < w2.heap.size:=by have:=hb2.size; omega
 go_wp2_with fail
 refine (date_any (n / 1440) _ hd1 hd2).mono ?_
 rintro e w3 ⟨rfl,hb3⟩
 obtain ⟨hc3,hf3⟩:=bcell hb3
 go_wp2_with fail
 have hz30 : w.heap.size < w3.heap.size:=by have:=hb3.size; simp at this; omega
 have e0 : w3.cell? ⟨w.heap.size,0,none⟩ = some (.int .i64 0):=by rw [hc3 _ _ (by simp; omega),World.cell?_alloc_past _ _ _ hz20,hc2 _ _ hz0,hc _ _ (by simp; omega)]; simp
 have e1 : w3.cell? ⟨w.heap.size,1,none⟩ = some (.int .i64 0):=by rw [hc3 _ _ (by simp; omega),World.cell?_alloc_past _ _ _ hz20,hc2 _ _ hz0,hc _ _ (by simp; omega)]; simp
 have e2 : w3.cell? ⟨w.heap.size,2,none⟩ = some (.int .i64 0):=by rw [hc3 _ _ (by simp; omega),World.cell?_alloc_past _ _ _ hz20,hc2 _ _ hz0,hc _ _ (by simp; omega)]; simp
 refine bodyPost_ret (v:=.tuple #[.agg #[.int .i64 (Cal.yOf (n / 1440)),.int .i64 (Cal.mOf (n / 1440)),.int .i64 (Cal.dOf (n / 1440))],.int .i64 (n % 1440 / 60),.int .i64 (n % 60),.int .i64 0]) (by simp [results,Tryz.results84,go_sem,e0,e1,e2]) rfl ⟨rfl,?_⟩
 repeat (first | exact Below.refl _ _ | refine Below.trans ?_ (hb3.mono (by simp; omega)) | refine Below.trans ?_ (hb2.mono (by omega)) | refine Below.trans ?_ (hb1.mono (by simp; omega)) | refine below_drewN ?_ _ | refine Below.setCell ?_ (by simp) _ | refine Below.alloc ?_ (by first | (simp; done) | omega) _)
theorem rleap_any (y : Int) (w : World) :
  Calls Tryz.prog 140 #[.int .i64 y] w fun e w' => e = .returned (.bool (Cal.lpB y)) /\ w = w':=by
 by_cases h4 : (y.tmod 4 == 0) = true
 all_goals
  go_enter Tryz.func140,Tryz.ntmps140
  go_wp2
  all_goals
   go_ret
   exact ⟨ret_bool (by simp_all [Cal.lpB]),rfl⟩
theorem idx_1 (w : World) : (Instr.index 183 (.agg #[.int .i64 31,.int .i64 28,.int .i64 31,.int .i64 30,.int .i64 31,.int .i64 30,.int .i64 31,.int .i64 31,.int .i64 30,.int .i64 31,.int .i64 30,.int .i64 31]) (.int .i64 0)).run Tryz.prog w = .ok (.int .i64 31) w:=by kernel_rfl
theorem idx_2 (w : World) : (Instr.index 183 (.agg #[.int .i64 31,.int .i64 28,.int .i64 31,.int .i64 30,.int .i64 31,.int .i64 30,.int .i64 31,.int .i64 31,.int .i64 30,.int .i64 31,.int .i64 30,.int .i64 31]) (.int .i64 1)).run Tryz.prog w = .ok (.int .i64 28) w:=by kernel_rfl
theorem idx_3 (w : World) : (Instr.index 183 (.agg #[.int .i64 31,.int .i64 28,.int .i64 31,.int .i64 30,.int .i64 31,.int .i64 30,.int .i64 31,.int .i64 31,.int .i64 30,.int .i64 31,.int .i64 30,.int .i64 31]) (.int .i64 2)).run Tryz.prog w = .ok (.int .i64 31) w:=by kernel_rfl
theorem idx_4 (w : World) : (Instr.index 183 (.agg #[.int .i64 31,.int .i64 28,.int .i64 31,.int .i64 30,.int .i64 31,.int .i64 30,.int .i64 31,.int .i64 31,.int .i64 30,.int .i64 31,.int .i64 30,.int .i64 31]) (.int .i64 3)).run Tryz.prog w = .ok (.int .i64 30) w:=by kernel_rfl
theorem idx_5 (w : World) : (Instr.index 183 (.agg #[.int .i64 31,.int .i64 28,.int .i64 31,.int .i64 30,.int .i64 31,.int .i64 30,.int .i64 31,.int .i64 31,.int .i64 30,.int .i64 31,.int .i64 30,.int .i64 31]) (.int .i64 4)).run Tryz.prog w = .ok (.int .i64 31) w:=by kernel_rfl
theorem idx_6 (w : World) : (Instr.index 183 (.agg #[.int .i64 31,.int .i64 28,.int .i64 31,.int .i64 30,.int .i64 31,.int .i64 30,.int .i64 31,.int .i64 31,.int .i64 30,.int .i64 31,.int .i64 30,.int .i64 31]) (.int .i64 5)).run Tryz.prog w = .ok (.int .i64 30) w:=by kernel_rfl
theorem idx_7 (w : World) : (Instr.index 183 (.agg #[.int .i64 31,.int .i64 28,.int .i64 31,.int .i64 30,.int .i64 31,.int .i64 30,.int .i64 31,.int .i64 31,.int .i64 30,.int .i64 31,.int .i64 30,.int .i64 31]) (.int .i64 6)).run Tryz.prog w = .ok (.int .i64 31) w:=by kernel_rfl
theorem idx_8 (w : World) : (Instr.index 183 (.agg #[.int .i64 31,.int .i64 28,.int .i64 31,.int .i64 30,.int .i64 31,.int .i64 30,.int .i64 31,.int .i64 31,.int .i64 30,.int .i64 31,.int .i64 30,.int .i64 31]) (.int .i64 7)).run Tryz.prog w = .ok (.int .i64 31) w:=by kernel_rfl
theorem idx_9 (w : World) : (Instr.index 183 (.agg #[.int .i64 31,.int .i64 28,.int .i64 31,.int .i64 30,.int .i64 31,.int .i64 30,.int .i64 31,.int .i64 31,.int .i64 30,.int .i64 31,.int .i64 30,.int .i64 31]) (.int .i64 8)).run Tryz.prog w = .ok (.int .i64 30) w:=by kernel_rfl
theorem idx_10 (w : World) : (Instr.index 183 (.agg #[.int .i64 31,.int .i64 28,.int .i64 31,.int .i64 30,.int .i64 31,.int .i64 30,.int .i64 31,.int .i64 31,.int .i64 30,.int .i64 31,.int .i64 30,.int .i64 31]) (.int .i64 9)).run Tryz.prog w = .ok (.int .i64 31) w:=by kernel_rfl
theorem idx_11 (w : World) : (Instr.index 183 (.agg #[.int .i64 31,.int .i64 28,.int .i64 31,.int .i64 30,.int .i64 31,.int .i64 30,.int .i64 31,.int .i64 31,.int .i64 30,.int .i64 31,.int .i64 30,.int .i64 31]) (.int .i64 10)).run Tryz.prog w = .ok (.int .i64 30) w:=by kernel_rfl
theorem idx_12 (w : World) : (Instr.index 183 (.agg #[.int .i64 31,.int .i64 28,.int .i64 31,.int .i64 30,.int .i64 31,.int .i64 30,.int .i64 31,.int .i64 31,.int .i64 30,.int .i64 31,.int .i64 30,.int .i64 31]) (.int .i64 11)).run Tryz.prog w = .ok (.int .i64 31) w:=by kernel_rfl
theorem idx_run (y m : Int) (h1 : 1 <= m) (h2 : m <= 12) (h : ¬ (m = 2 /\ Cal.lpB y = true)) (w : World) :
  (Instr.index 183 (.agg #[.int .i64 31,.int .i64 28,.int .i64 31,.int .i64 30,.int .i64 31,.int .i64 30,.int .i64 31,.int .i64 31,.int .i64 30,.int .i64 31,.int .i64 30,.int .i64 31]) (.int .i64 (m - 1))).run Tryz.prog w = .ok (.int .i64 (Cal.dim y m)) w:=by
 have hm : m = 1 ∨ m = 2 ∨ m = 3 ∨ m = 4 ∨ m = 5 ∨ m = 6 ∨ m = 7 ∨ m = 8 ∨ m = 9 ∨ m = 10 ∨ m = 11 ∨ m = 12:=by omega
 rcases hm with e | e | e | e | e | e | e | e | e | e | e | e
 ·subst e; rw [<- dim_31 y 1 (by omega)]; exact idx_1 w
 ·subst e; rw [<- dim_28 y (by simpa using h)]; exact idx_2 w
 ·subst e; rw [<- dim_31 y 3 (by omega)]; exact idx_3 w
 ·subst e; rw [<- dim_30 y 4 (by omega)]; exact idx_4 w
 ·subst e; rw [<- dim_31 y 5 (by omega)]; exact idx_5 w
 ·subst e; rw [<- dim_30 y 6 (by omega)]; exact idx_6 w
 ·subst e; rw [<- dim_31 y 7 (by omega)]; exact idx_7 w
 ·subst e; rw [<- dim_31 y 8 (by omega)]; exact idx_8 w
 ·subst e; rw [<- dim_30 y 9 (by omega)]; exact idx_9 w
 ·subst e; rw [<- dim_31 y 10 (by omega)]; exact idx_10 w
 ·subst e; rw [<- dim_30 y 11 (by omega)]; exact idx_11 w
 ·subst e; rw [<- dim_31 y 12 (by omega)]; exact idx_12 w
theorem rleap_at (y : Int) (b : Bool) (w : World) (h : Cal.lpB y = b) :
  Calls Tryz.prog 140 #[.int .i64 y] w fun e w' => e = .returned (.bool b) /\ w = w':=by
 subst h; exact rleap_any y w
theorem rlength_any (y m : Int) (w : World) :
  Calls Tryz.prog 141 #[.int .i64 y,.int .i64 m] w fun e w' => e = .returned (.int .i64 (Cal.dim y m)) /\ w = w':=by
 by_cases h1 : m < 1
 ·rw [Cal.dim_out y m (.inl h1)]
  go_enter Tryz.func141,Tryz.ntmps141
  go_wp2_with fail
  go_ret
  exact ⟨rfl,rfl⟩
 by_cases h12 : 12 < m
 ·rw [Cal.dim_out y m (.inr h12)]
  go_enter Tryz.func141,Tryz.ntmps141
  go_wp2_with fail
  go_ret
  exact ⟨rfl,rfl⟩
 by_cases h2 : m = 2
 ·subst h2
  cases hb : Cal.lpB y
  ·have hix:=idx_2
   rw [<- dim_28 y hb]
   have HB:=hide hb
   clear hb
   go_enter Tryz.func141,Tryz.ntmps141
   go_wp2_with fail
   refine (rleap_at y false _ HB.out).mono ?_
   rintro e w' ⟨rfl,rfl⟩
   go_wp2_with fail
   go_ret
   exact ⟨rfl,rfl⟩
  ·rw [<- dim_29 y hb]
   have HB:=hide hb
   clear hb
   go_enter Tryz.func141,Tryz.ntmps141
   go_wp2_with fail
   refine (rleap_at y true _ HB.out).mono ?_
   rintro e w' ⟨rfl,rfl⟩
   go_wp2_with fail
   go_ret
   exact ⟨rfl,rfl⟩
 ·have hix:=idx_run y m (by omega) (by omega) (fun h => h2 h.1)
  have h2' : (m == 2) = false:=by rw [beq_eq_false_iff_ne]; exact h2
  generalize Cal.dim y m = D at *
  clear h2
  go_enter Tryz.func141,Tryz.ntmps141
  go_wp2_with fail
  go_ret
  exact ⟨rfl,rfl⟩
theorem rlength_at (y m v : Int) (w : World) (h : Cal.dim y m = v) :
  Calls Tryz.prog 141 #[.int .i64 y,.int .i64 m] w fun e w' => e = .returned (.int .i64 v) /\ w = w':=by
 subst h; exact rlength_any y m w
theorem risB_yes (y m d : Int) (h : 1 <= d) : decide (d <= Cal.dim y m) = Cal.isB y m d:=by simp [Cal.isB,h]
theorem risB_no (y m d : Int) (h : m < 1 ∨ 12 < m ∨ d < 1) : Cal.isB y m d = false:=by
 rw [Bool.eq_false_iff]
 intro hb
 have:=Cal.isB_month hb
 rw [Cal.isB_iff] at hb
 omega
theorem ris_any (y m d : Int) (w : World) :
  Calls Tryz.prog 170 #[.agg #[.int .i64 y,.int .i64 m,.int .i64 d]] w fun e w' => e = .returned (.bool (Cal.isB y m d)) /\ Below w.heap.size w w':=by
 by_cases h1 : 1 <= m
 ·by_cases h2 : m <= 12
  ·by_cases h3 : 1 <= d
   ·go_enter Tryz.func170,Tryz.ntmps170
    go_wp2_with fail
    go_quiet ((go_at_call 141; exact quiet_left (rlength_any _ _ _)))
    go_wp2
    go_ret
    exact ⟨ret_bool (risB_yes y m d h3),below_drewN ((Below.refl _ _).alloc (Nat.le_refl _) _) _⟩
   ·rw [risB_no y m d (by omega)]
    have hd : decide (1 <= d) = false:=by simpa using h3
    go_enter Tryz.func170,Tryz.ntmps170
    go_wp2_with fail
    go_quiet ((go_at_call 141; exact quiet_left (rlength_any _ _ _)))
    go_wp2
    go_ret
    exact ⟨rfl,below_drewN ((Below.refl _ _).alloc (Nat.le_refl _) _) _⟩
  ·rw [risB_no y m d (by omega)]
   have hd : decide (m <= 12) = false:=by simpa using h2
   go_enter Tryz.func170,Tryz.ntmps170
   go_wp2_with fail
   go_quiet ((go_at_call 141; exact quiet_left (rlength_any _ _ _)))
   go_wp2
   go_ret
   exact ⟨rfl,below_drewN ((Below.refl _ _).alloc (Nat.le_refl _) _) _⟩
 ·rw [risB_no y m d (by omega)]
  have hd : decide (1 <= m) = false:=by simpa using h1
  go_enter Tryz.func170,Tryz.ntmps170
  go_wp2_with fail
  go_quiet ((go_at_call 141; exact quiet_left (rlength_any _ _ _)))
  go_wp2
  go_ret
  exact ⟨rfl,below_drewN ((Below.refl _ _).alloc (Nat.le_refl _) _) _⟩
theorem ris_at (b : Bool) (y m d : Int) (w : World) (h : Cal.isB y m d = b) :
  Calls Tryz.prog 170 #[.agg #[.int .i64 y,.int .i64 m,.int .i64 d]] w fun e w' => e = .returned (.bool b) /\ Below w.heap.size w w':=by
 subst h; exact ris_any y m d w
theorem yst_2000 : Cal.yst 2000 = 0:=by decide +kernel
theorem yst_leap (k : Int) (h1 : 2000 <= k) (h2 : k <= 2099) (h : Cal.lpB k = true) : Cal.yst k + 365 + 1 = Cal.yst (k + 1):=by
 rw [Cal.lp_in k h1 h2,decide_eq_true_eq] at h
 unfold Cal.yst; omega
theorem yst_plain (k : Int) (h1 : 2000 <= k) (h2 : k <= 2099) (h : Cal.lpB k = false) : Cal.yst k + 365 = Cal.yst (k + 1):=by
 rw [Cal.lp_in k h1 h2,decide_eq_false_iff_not] at h
 unfold Cal.yst; omega
theorem rnum_one (y : Int) : Cal.yst y = Cal.yst y + Cal.cum y 1:=by rw [Cal.cum_one]; omega
theorem rnum_step (y k : Int) (h1 : 1 <= k) (h2 : k <= 12) : Cal.yst y + Cal.cum y k + Cal.dim y k = Cal.yst y + Cal.cum y (k + 1):=by
 rw [Cal.cum_succ y k h1 h2]; omega
theorem rnum_end (y m d : Int) : Cal.yst y + Cal.cum y m + d - 1 = Cal.num y m d:=by unfold Cal.num; omega
theorem rnum_err (y m d c : Int) (w : World) (h : numE y m d = (0,c)) (hc : c = 10 ∨ c = 11) :
  Calls Tryz.prog 142 #[.agg #[.int .i64 y,.int .i64 m,.int .i64 d]] w fun e w' => e = .returned (.tuple #[.int .i64 0,.int .i64 c]) /\ Below w.heap.size w w':=by
 cases hb : Cal.isB y m d
 ·have e:=numE_11 y m d hb
  rw [h] at e
  obtain rfl : c = 11:=by simpa using e
  have HB:=hide hb
  clear hb h hc e
  go_enter Tryz.func142,Tryz.ntmps142
  go_wp2_with fail
  refine (ris_at false _ _ _ _ HB.out).mono ?_
  rintro e w1 ⟨rfl,hb1⟩
  go_wp2_with fail
  go_ret2
  exact ⟨rfl,((Below.refl _ _).alloc (Nat.le_refl _) _).trans (hb1.mono (by simp))⟩
 ·by_cases h1 : y < 2000
  ·have e:=numE_10 y m d hb (.inl h1)
   rw [h] at e
   obtain rfl : c = 10:=by simpa using e
   have HB:=hide hb
   clear hb h hc e
   go_enter Tryz.func142,Tryz.ntmps142
   go_wp2_with fail
   refine (ris_at true _ _ _ _ HB.out).mono ?_
   rintro e w1 ⟨rfl,hb1⟩
   obtain ⟨hc,hf⟩:=bcell hb1
   go_wp2_with fail
   go_ret2
   exact ⟨rfl,((Below.refl _ _).alloc (Nat.le_refl _) _).trans (hb1.mono (by simp))⟩
  ·by_cases h2 : 2099 < y
   ·have e:=numE_10 y m d hb (.inr h2)
    rw [h] at e
    obtain rfl : c = 10:=by simpa using e
    have HB:=hide hb
    clear hb h hc e
    go_enter Tryz.func142,Tryz.ntmps142
    go_wp2_with fail
    refine (ris_at true _ _ _ _ HB.out).mono ?_
    rintro e w1 ⟨rfl,hb1⟩
    obtain ⟨hc,hf⟩:=bcell hb1
    go_wp2_with fail
    go_ret2
    exact ⟨rfl,((Below.refl _ _).alloc (Nat.le_refl _) _).trans (hb1.mono (by simp))⟩
   ·have e:=numE_0 y m d hb (by omega) (by omega)
    rw [h] at e
    have : c = 0:=by simpa using congrArg Prod.snd e
    omega
theorem rnum_ok (y m d : Int) (w : World) (hb : Cal.isB y m d = true) (h1 : 2000 <= y) (h2 : y <= 2099) (m1 : 1 <= m) (m2 : m <= 12) (d1 : 1 <= d) (d2 : d <= 31) :
  Calls Tryz.prog 142 #[.agg #[.int .i64 y,.int .i64 m,.int .i64 d]] w fun e w' => e = .returned (.tuple #[.int .i64 (Cal.num y m d),.int .i64 0]) /\ Below w.heap.size w w':=by
 have HB:=hide hb
 clear hb
 go_enter Tryz.func142,Tryz.ntmps142
 go_wp2_with fail
 refine (ris_at true _ _ _ _ HB.out).mono ?_
 rintro e w1 ⟨rfl,hb1⟩
 have c0 : w1.cell? ⟨w.heap.size,0,none⟩ = some (.int .i64 y):=by rw [(bcell hb1).1 _ _ (by simp)]; simp
 have c1 : w1.cell? ⟨w.heap.size,1,none⟩ = some (.int .i64 m):=by rw [(bcell hb1).1 _ _ (by simp)]; simp
 have c2 : w1.cell? ⟨w.heap.size,2,none⟩ = some (.int .i64 d):=by rw [(bcell hb1).1 _ _ (by simp)]; simp
 go_wp2_with fail
 go_loop [4,5] (fun n i => ∃ k : Int,2000 <= k /\ k <= y /\ i = .int .i64 k /\ n = .int .i64 (Cal.yst k)) (fun _ i => (2099 - intOf i).toNat)
 case atStart => exact ⟨2000,by omega,h1,rfl,by rw [yst_2000]⟩
 case round =>
  obtain ⟨k,hk1,hk2,rfl,rfl⟩:=hrel
  have hy:=Cal.yst_bd k hk1 (by omega)
  by_cases hlt : k < y
  ·cases hl : Cal.lpB k
   ·have HS:=hide (yst_plain k hk1 (by omega) hl)
    have HL:=hide hl
    clear hl
    go_wp2_with (go_at_call 140; refine (rleap_at k false _ HL.out).mono ?_; rintro e w' ⟨rfl,rfl⟩)
    go_round
    case rel => exact ⟨k + 1,by omega,by omega,rfl,by rw [HS.out]⟩
    case measure => simp [intOf]; omega
   ·have HS:=hide (yst_leap k hk1 (by omega) hl)
    have HL:=hide hl
    clear hl
    go_wp2_with (go_at_call 140; refine (rleap_at k true _ HL.out).mono ?_; rintro e w' ⟨rfl,rfl⟩)
    go_round
    case rel => exact ⟨k + 1,by omega,by omega,rfl,by rw [HS.out]⟩
    case measure => simp [intOf]; omega
  ·obtain rfl : k = y:=by omega
   go_wp2_with fail
   go_loop [4,6] (fun n i => ∃ j : Int,1 <= j /\ j <= m /\ i = .int .i64 j /\ n = .int .i64 (Cal.yst k + Cal.cum k j)) (fun _ i => (12 - intOf i).toNat)
   case atStart => exact ⟨1,by omega,m1,rfl,by rw [<- rnum_one]⟩
   case round =>
    obtain ⟨j,hj1,hj2,rfl,rfl⟩:=hrel
    have hc:=Cal.cum_bd k j hj1 (by omega)
    have hl:=Cal.dim_bd k j
    by_cases hlt2 : j < m
    ·have HS:=hide (rnum_step k j hj1 (by omega))
     go_wp2_with (go_at_call 141; refine (rlength_any _ _ _).mono ?_; rintro e w' ⟨rfl,rfl⟩)
     go_round
     case rel => exact ⟨j + 1,by omega,by omega,rfl,by rw [HS.out]⟩
     case measure => simp [intOf]; omega
    ·obtain rfl : j = m:=by omega
     have HE:=hide (rnum_end k j d)
     go_wp2_with fail
     go_ret2
     exact ⟨by rw [<- HE.out]; rfl,((Below.refl _ _).alloc (Nat.le_refl _) _).trans (hb1.mono (by simp))⟩
theorem rnumber_any (y m d : Int) (w : World) :
  Calls Tryz.prog 142 #[.agg #[.int .i64 y,.int .i64 m,.int .i64 d]] w fun e w' => e = .returned (.tuple #[.int .i64 (numE y m d).1,.int .i64 (numE y m d).2]) /\ Below w.heap.size w w':=by
 cases hb : Cal.isB y m d
 ·have e:=numE_11 y m d hb
  rw [e]; exact rnum_err y m d 11 w e (.inr rfl)
 ·by_cases h1 : y < 2000 ∨ 2099 < y
  ·have e:=numE_10 y m d hb h1
   rw [e]; exact rnum_err y m d 10 w e (.inl rfl)
  ·have e:=numE_0 y m d hb (by omega) (by omega)
   have hm:=Cal.isB_month hb
   have hd:=(Cal.isB_iff y m d).1 hb
   have hd2:=(Cal.dim_bd y m).2
   rw [e]; exact rnum_ok y m d w hb (by omega) (by omega) hm.1 hm.2 hd.1 (by omega)
theorem rnumber_is (y m d a c : Int) (w : World) (h : numE y m d = (a,c)) :
  Calls Tryz.prog 142 #[.agg #[.int .i64 y,.int .i64 m,.int .i64 d]] w fun e w' => e = .returned (.tuple #[.int .i64 a,.int .i64 c]) /\ Below w.heap.size w w':=by
 have:=rnumber_any y m d w
 rw [h] at this
 exact this
theorem tmod7_aux (t u : Int) (hb : 0 <= u /\ u <= 6) (h : (t < 0 /\ t + 7 = u) ∨ (¬ t < 0 /\ t = u)) : -7 <= t /\ t <= 6 /\ (t = u ∨ t + 7 = u):=by omega
theorem tmod7 (n : Int) : -7 <= n.tmod 7 /\ n.tmod 7 <= 6 /\ (n.tmod 7 = n % 7 ∨ n.tmod 7 + 7 = n % 7):=by
 have hb : 0 <= n % 7 /\ n % 7 <= 6:=by omega
 by_cases h : n.tmod 7 < 0
 ·exact tmod7_aux _ _ hb (.inl ⟨h,(split_neg n 7 (by omega) h).1⟩)
 ·exact tmod7_aux _ _ hb (.inr ⟨h,(split_pos n 7 (by omega) h).1⟩)
theorem rwday_go (n : Int) : (n.tmod 7 + 7 + 5).tmod 7 = Cal.wday n:=by
 have:=tmod7 n
 rw [Int.tmod_eq_emod_of_nonneg (by omega)]
 unfold Cal.wday
 omega
theorem rWeekday_any (n : Int) (w : World) :
  Calls Tryz.prog 118 #[.int .i64 n] w fun e w' => e = .returned (.int .i64 (Cal.wday n)) /\ w = w':=by
 have h7 : -7 <= n.tmod 7:=(tmod7 n).1
 have h7' : n.tmod 7 <= 6:=(tmod7 n).2.1
 have HW:=hide (rwday_go n)
 go_enter Tryz.func118,Tryz.ntmps118
 go_wp2_with fail
 go_ret
 exact ⟨ret_int (by first | exact HW.out | (rw [<- HW.out]; exact (Int.tmod_eq_emod_of_nonneg (by omega)).symm)),rfl⟩
theorem rDate_no (n : Int) (w : World) (h : n < 0 ∨ 36525 <= n) :
    Calls Tryz.prog 117 #[.int .i64 n] w fun e w' => e = .returned (.tuple #[.agg #[.int .i64 0,.int .i64 0,.int .i64 0],.int .i64 10]) /\ Below w.heap.size w w':=by
  rcases h with h | h
  all_goals
    by_cases h0 : n < 0
    all_goals first
      | omega
      | (go_enter Tryz.func117,Tryz.ntmps117
         go_wp2_with fail
         refine bodyPost_ret (v:=.tuple #[.agg #[.int .i64 0,.int .i64 0,.int .i64 0],.int .i64 10]) (by simp [results,Tryz.results117,go_sem]) rfl ⟨rfl,?_⟩
         repeat (first | exact Below.refl _ _ | refine below_drewN ?_ _ | refine Below.setCell ?_ (by simp) _ | refine Below.alloc ?_ (by simp) _))
theorem ydays (k : Int) (h1 : 2000 <= k) (h2 : k <= 2099) : Cal.yst (k + 1) = Cal.yst k + (if Cal.lpB k then 366 else 365):=by
 cases h : Cal.lpB k
 ·rw [<- yst_plain k h1 h2 h]; rfl
 ·rw [<- yst_leap k h1 h2 h]; simp; omega
theorem year_at (n k : Int) (h0 : 0 <= n) (h : n < 36525) (_k1 : 2000 <= k) (_k2 : k <= 2099) (a : Cal.yst k <= n) (b : n < Cal.yst (k + 1)) : Cal.yOf n = k:=by
 have hy:=Cal.yOf_yst n h0 h
 have hb:=Cal.yOf_bd n h0 h
 rcases Int.lt_trichotomy (Cal.yOf n) k with g | g | g
 ·have:=Cal.yst_le (Cal.yOf n + 1) k (by omega); omega
 ·exact g
 ·have:=Cal.yst_le (k + 1) (Cal.yOf n) (by omega); omega
theorem rDate_walk (n : Int) (w : World) (h1 : 0 <= n) (h2 : n < 36525) :
  Calls Tryz.prog 117 #[.int .i64 n] w fun e w' => e = .returned (.tuple #[.agg #[.int .i64 (Cal.yOf n),.int .i64 (Cal.mOf n),.int .i64 (Cal.dOf n)],.int .i64 0]) /\ Below w.heap.size w w':=by
 have hyb:=Cal.yOf_bd n h1 h2
 have hyy:=Cal.yOf_yst n h1 h2
 go_enter Tryz.func117,Tryz.ntmps117
 go_wp2_with fail
 go_loop [4,5] (fun y r => ∃ k : Int,2000 <= k /\ k <= 2099 /\ y = .int .i64 k /\ 0 <= n - Cal.yst k /\ r = .int .i64 (n - Cal.yst k)) (fun y _ => (2099 - intOf y).toNat)
 case atStart => exact ⟨2000,by omega,by omega,rfl,by rw [yst_2000]; omega,by rw [yst_2000,Int.sub_zero]⟩
 case round =>
  obtain ⟨k,hk1,hk2,rfl,hr,rfl⟩:=hrel
  have hy:=Cal.yst_bd k hk1 hk2
  have hd:=ydays k hk1 hk2
  have hend : Cal.yst 2100 = 36525:=by decide +kernel
  cases hl : Cal.lpB k
  ·rw [hl] at hd
   have hd' : Cal.yst (k + 1) = Cal.yst k + 365:=hd
   have HL:=hide hl
   clear hl hd
   by_cases hlt : n - Cal.yst k < 365
   ·have hyk:=year_at n k h1 h2 hk1 hk2 (by omega) (by omega)
    have hhi : n - Cal.yst k < Cal.cum k 13:=by have:=Cal.yst_succ k hk1 hk2; omega
    clear hd'
    go_wp2_with (go_at_call 140; refine (rleap_at k false _ HL.out).mono ?_; rintro e w' ⟨rfl,rfl⟩)
    go_loop [5,7] (fun r i => ∃ j : Int,1 <= j /\ j <= 12 /\ i = .int .i64 j /\ 0 <= n - Cal.yst k - Cal.cum k j /\ r = .int .i64 (n - Cal.yst k - Cal.cum k j)) (fun _ i => (12 - intOf i).toNat)
    case atStart => exact ⟨1,by omega,by omega,rfl,by rw [Cal.cum_one]; omega,by rw [Cal.cum_one,Int.sub_zero]⟩
    case round =>
     obtain ⟨j,hj1,hj2,rfl,hrj,rfl⟩:=hrel
     have hc:=Cal.cum_bd k j hj1 (by omega)
     have hdm:=Cal.dim_bd k j
     by_cases hdj : Cal.dim k j <= n - Cal.yst k - Cal.cum k j
     ·have hst:=month_step k _ j hhi hj1 hj2 hdj
      have HN:=hide (month_next k (n - Cal.yst k) j hj1 hj2)
      go_wp2_with (go_at_call 141; refine (rlength_any _ _ _).mono ?_; rintro e w' ⟨rfl,rfl⟩)
      go_round
      case rel => exact ⟨j + 1,by omega,by omega,rfl,hst.2,by rw [HN.out]⟩
      case measure => simp [intOf]; omega
     ·have HM:=hide (month_at k (n - Cal.yst k) j hj1 hj2 hrj hdj)
      have HYK:=hide hyk
      clear hyk
      go_wp2_with (go_at_call 141; refine (rlength_any _ _ _).mono ?_; rintro e w' ⟨rfl,rfl⟩)
      have em : Cal.mOf n = j:=by unfold Cal.mOf; rw [HYK.out,HM.out]
      have ed : Cal.dOf n = n - Cal.yst k - Cal.cum k j + 1:=by unfold Cal.dOf; rw [em,HYK.out]
      rw [em,ed,HYK.out]
      refine bodyPost_ret (v:=.tuple #[.agg #[.int .i64 k,.int .i64 j,.int .i64 (n - Cal.yst k - Cal.cum k j + 1)],.int .i64 0]) (by simp [results,Tryz.results117,go_sem]) rfl ⟨rfl,?_⟩
      repeat (first | exact Below.refl _ _ | refine below_drewN ?_ _ | refine Below.setCell ?_ (by simp) _ | refine Below.alloc ?_ (by simp) _)
   ·have hk3 : k + 1 <= 2099:=by
     by_cases e : k = 2099
     ·subst e
      have : Cal.yst (2099 + 1) = 36525:=hend
      omega
     ·omega
    have HS : Hid (n - Cal.yst k - 365 = n - Cal.yst (k + 1)):=by show _ = _; omega
    have hr2 : 0 <= n - Cal.yst (k + 1):=by omega
    clear hd'
    go_wp2_with (go_at_call 140; refine (rleap_at k false _ HL.out).mono ?_; rintro e w' ⟨rfl,rfl⟩)
    go_round
    case rel => exact ⟨k + 1,by omega,by omega,rfl,hr2,by rw [HS.out]⟩
    case measure => simp [intOf]; omega
  ·rw [hl] at hd
   have hd' : Cal.yst (k + 1) = Cal.yst k + 366:=hd
   have HL:=hide hl
   clear hl hd
   by_cases hlt : n - Cal.yst k < 366
   ·have hyk:=year_at n k h1 h2 hk1 hk2 (by omega) (by omega)
    have hhi : n - Cal.yst k < Cal.cum k 13:=by have:=Cal.yst_succ k hk1 hk2; omega
    clear hd'
    go_wp2_with (go_at_call 140; refine (rleap_at k true _ HL.out).mono ?_; rintro e w' ⟨rfl,rfl⟩)
    go_loop [5,7] (fun r i => ∃ j : Int,1 <= j /\ j <= 12 /\ i = .int .i64 j /\ 0 <= n - Cal.yst k - Cal.cum k j /\ r = .int .i64 (n - Cal.yst k - Cal.cum k j)) (fun _ i => (12 - intOf i).toNat)
    case atStart => exact ⟨1,by omega,by omega,rfl,by rw [Cal.cum_one]; omega,by rw [Cal.cum_one,Int.sub_zero]⟩
    case round =>
     obtain ⟨j,hj1,hj2,rfl,hrj,rfl⟩:=hrel
     have hc:=Cal.cum_bd k j hj1 (by omega)
     have hdm:=Cal.dim_bd k j
     by_cases hdj : Cal.dim k j <= n - Cal.yst k - Cal.cum k j
     ·have hst:=month_step k _ j hhi hj1 hj2 hdj
      have HN:=hide (month_next k (n - Cal.yst k) j hj1 hj2)
      go_wp2_with (go_at_call 141; refine (rlength_any _ _ _).mono ?_; rintro e w' ⟨rfl,rfl⟩)
      go_round
      case rel => exact ⟨j + 1,by omega,by omega,rfl,hst.2,by rw [HN.out]⟩
      case measure => simp [intOf]; omega
     ·have HM:=hide (month_at k (n - Cal.yst k) j hj1 hj2 hrj hdj)
      have HYK:=hide hyk
      clear hyk
      go_wp2_with (go_at_call 141; refine (rlength_any _ _ _).mono ?_; rintro e w' ⟨rfl,rfl⟩)
      have em : Cal.mOf n = j:=by unfold Cal.mOf; rw [HYK.out,HM.out]
      have ed : Cal.dOf n = n - Cal.yst k - Cal.cum k j + 1:=by unfold Cal.dOf; rw [em,HYK.out]
      rw [em,ed,HYK.out]
      refine bodyPost_ret (v:=.tuple #[.agg #[.int .i64 k,.int .i64 j,.int .i64 (n - Cal.yst k - Cal.cum k j + 1)],.int .i64 0]) (by simp [results,Tryz.results117,go_sem]) rfl ⟨rfl,?_⟩
      repeat (first | exact Below.refl _ _ | refine below_drewN ?_ _ | refine Below.setCell ?_ (by simp) _ | refine Below.alloc ?_ (by simp) _)
   ·have hk3 : k + 1 <= 2099:=by
     by_cases e : k = 2099
     ·subst e
      have : Cal.yst (2099 + 1) = 36525:=hend
      omega
     ·omega
    have HS : Hid (n - Cal.yst k - 366 = n - Cal.yst (k + 1)):=by show _ = _; omega
    have hr2 : 0 <= n - Cal.yst (k + 1):=by omega
    clear hd'
    go_wp2_with (go_at_call 140; refine (rleap_at k true _ HL.out).mono ?_; rintro e w' ⟨rfl,rfl⟩)
    go_round
    case rel => exact ⟨k + 1,by omega,by omega,rfl,hr2,by rw [HS.out]⟩
    case measure => simp [intOf]; omega
end Go.Proofs.YtgihekokbgggcaaGreat

/- DaC; DaA; DaB of the recipes, what is needed of them. -/
import Derived.Test.YtgihekokbgggcaaGreatZW5
import Derived.Test.YtgihekokbgggcaaGreatZBM3
import Derived.Test.YtgihekokbgggcaaGreatZW3
set_option maxHeartbeats 8000000
set_option maxRecDepth 1000000
namespace Go.Proofs.YtgihekokbgggcaaGreat
open Go.RowKit Rul Go.Sort
def GivesI (w : World) (l : List Int) (e : Ending) (w' : World) : Prop:=∃ v,e = .returned v /\ OwnI w' w.heap.size v l /\ Below w.heap.size w w'
theorem GivesI.is {w : World} {l k : List Int} {e : Ending} {w' : World} (h : GivesI w l e w') (he : l = k) : GivesI w k e w':=he ▸ h
theorem OwnI.low {w : World} {B B2 : Nat} {v : Value} {l : List Int} (h : OwnI w B v l) (hb : B2 <= B) : OwnI w B2 v l:=by
 refine ⟨h.1,?_⟩
 rcases h.2 with g | ⟨g,cap,cur,e,hg,r⟩
 ·exact Or.inl g
 ·exact Or.inr ⟨g,cap,cur,e,Nat.le_trans hb hg,r⟩
theorem wp_makeI {ops : Array Oper} {rest : List Oper} {o : Oper} {a : Act} {Q : Exit -> Act -> World -> Prop} {w : World} (hgd : o.guard = none) (l c : Operand)
  (ho : o.op = .makeSlice 36 l c) (hl : a.eval l = .int .i64 0) {C : Int} {n : Nat} (hc : a.eval c = .int .i64 C) (hC : C = (n : Int)) (hn : n <= 1000000)
  (h : ∀ v w',OwnI w' w.heap.size v [] -> Below w.heap.size w w' -> wpList Tryz.prog ops Q rest (a.put o.dst v) w') :
  wpList Tryz.prog ops Q (o :: rest) a w:=by
 obtain ⟨i0,hi,hz0,hz1,hz2⟩:=info_parts int_info
 refine wpList_make_own w hgd l c 36 ho w.heap.size 3 i0 _ 1 Tryz.underlying36 hi hz0 hz1 .i64 .i64 C n hl hc hC (by rw [hz2]; omega) (by unfold maxLen; omega) (Nat.le_refl _) ?_
 intro w' h2 h3
 exact h _ w' h2 ((Below.refl w.heap.size w).grown h3 (Nat.le_refl _) fun j hj => by cases hj)
theorem allFrom_any (a b : Int) (w : World) (h0 : 0 <= a) (h1 : a <= b) (h2 : b <= 36525) :
  Calls Tryz.prog 138 #[.int .i64 a,.int .i64 b] w (GivesI w (upto a b)):=by
 go_enter Tryz.func138,Tryz.ntmps138
 go_wp2_with (refine wp_makeI rfl _ _ rfl rfl (n:=(b - a).toNat) rfl (by omega) (by omega) ?_; intro v0 w0 hown0 hb0)
 go_loopw [5,6] (fun v i wr => ∃ d : Int,a <= d /\ d <= b /\ i = .int .i64 d /\ OwnI wr w.heap.size v (upto a d) /\ Below w.heap.size w wr) (fun _ i _ => (b - intOf i).toNat)
 case atStart => exact ⟨a,Int.le_refl _,h1,rfl,by rw [upto_nil]; exact hown0,hb0⟩
 case round =>
  obtain ⟨d,d1,d2,rfl,hown,hbw⟩:=hrel
  by_cases hlt : d < b
  ·have HN:=hide (upto_succ a d d1)
   have hsz:=hbw.size
   have hlen : (upto a d).length <= 1000000:=by rw [upto_len]; omega
   go_wp2_with (at_builtin; refine wp_oneI (l:=upto a d) (p:=d) rfl _ _ rfl rfl rfl rfl hown hsz hlen ?_; intro v1 w1 hown1 hb1)
   have HO:=hide hown1
   have HB:=hide (hbw.trans hb1)
   clear hown hown1 hb1 hbw
   go_wp2_with fail
   go_roundw
   case rel => exact ⟨d + 1,by omega,by omega,by go_num,by rw [HN.out]; exact HO.out,HB.out⟩
   case measure => simp [intOf]; omega
  ·obtain rfl : d = b:=by omega
   have HO:=hide hown
   have HB:=hide hbw
   clear hown hbw
   go_wp2_with fail
   go_ret
   exact ⟨_,rfl,HO.out,HB.out⟩
end Go.Proofs.YtgihekokbgggcaaGreat
namespace Go.Proofs.YtgihekokbgggcaaGreat
open Go.RowKit Rul
theorem fE_0 (y m : Int) (h0 : 2000 <= y) (h : y <= 2099) (h1 : 1 <= m) (h2 : m <= 12) : numE y m 1 = (fE y m,0):=by
 rw [fE_in y m h]; exact numE_0 y m 1 (isB_first y m h1 h2) h0 h
theorem fE_10 (y m : Int) (h : 2099 < y) (h1 : 1 <= m) (h2 : m <= 12) : numE y m 1 = (0,10):=numE_10 y m 1 (isB_first y m h1 h2) (Or.inr h)
theorem firstOf_any (y m : Int) (w : World) (h0 : 2000 <= y) (h1 : 1 <= m) (h2 : m <= 12) :
  Calls Tryz.prog 181 #[.int .i64 y,.int .i64 m] w (Ans w (.int .i64 (fE y m))):=by
 by_cases h : y <= 2099
 ·have H:=hide (fE_0 y m h0 h h1 h2)
  go_enter Tryz.func181,Tryz.ntmps181
  go_wp2_with fail
  refine (number_is y m 1 _ _ _ H.out).mono ?_
  rintro e w1 ⟨rfl,hb1⟩
  go_wp2_with fail
  go_ret
  exact ⟨rfl,hb1⟩
 ·have H:=hide (fE_10 y m (by omega) h1 h2)
  have e:=hide (fE_out y m (by omega))
  go_enter Tryz.func181,Tryz.ntmps181
  go_wp2_with fail
  refine (number_is y m 1 _ _ _ H.out).mono ?_
  rintro e w1 ⟨rfl,hb1⟩
  go_wp2_with fail
  go_ret
  exact ⟨ret_int (by rw [e.out]),hb1⟩
theorem firstOf_is (y m f : Int) (w : World) (h0 : 2000 <= y) (h1 : 1 <= m) (h2 : m <= 12) (h : fE y m = f) :
  Calls Tryz.prog 181 #[.int .i64 y,.int .i64 m] w (Ans w (.int .i64 f)):=by subst h; exact firstOf_any y m w h0 h1 h2
theorem length_at (y m v : Int) (w : World) (h : Cal.dim y m = v) :
  Calls Tryz.prog 133 #[.int .i64 y,.int .i64 m] w fun e w' => e = .returned (.int .i64 v) /\ w = w':=by subst h; exact length_any y m w
theorem leap_at (y : Int) (b : Bool) (w : World) (h : Cal.lpB y = b) :
  Calls Tryz.prog 163 #[.int .i64 y] w fun e w' => e = .returned (.bool b) /\ w = w':=by subst h; exact leap_any y w
theorem month_any (y m y2 m2 f d : Int) (w : World) (h0 : 2000 <= y) (hy : y <= 2099) (h1 : 1 <= m) (h2 : m <= 8000000) (e1 : y + (m - 1) / 12 = y2) (e2 : (m - 1) % 12 + 1 = m2) (hf : fE y2 m2 = f) (hd : Cal.dim y2 m2 = d) :
  Calls Tryz.prog 166 #[.int .i64 y,.int .i64 m] w (Ans w (.tuple #[.int .i64 f,.int .i64 (f + d)])):=by
 have fb:=fE_bd y2 m2 (by omega) (by omega) (by omega)
 rw [hf] at fb
 have db:=Cal.dim_bd y2 m2
 rw [hd] at db
 have t1 : (m - 1).tdiv 12 = (m - 1) / 12:=Int.tdiv_eq_ediv_of_nonneg (by omega)
 have t2 : (m - 1).tmod 12 = (m - 1) % 12:=Int.tmod_eq_emod_of_nonneg (by omega)
 have HF:=hide hf
 have HD:=hide hd
 clear hf hd
 go_enter Tryz.func166,Tryz.ntmps166
 go_wp2_with fail
 refine (firstOf_is y2 m2 f _ (by omega) (by omega) (by omega) HF.out).mono ?_
 rintro e w1 ⟨rfl,hb1⟩
 go_wp2_with fail
 refine (length_at y2 m2 d _ HD.out).mono ?_
 rintro e w2 ⟨rfl,rfl⟩
 go_wp2_with fail
 go_ret2
 exact ⟨rfl,hb1⟩
theorem year_any (y f d : Int) (b : Bool) (w : World) (h0 : 2000 <= y) (hf : fE y 1 = f) (hb : Cal.lpB y = b) (hd : (if b then 366 else 365) = d) :
  Calls Tryz.prog 167 #[.int .i64 y] w (Ans w (.tuple #[.int .i64 f,.int .i64 (f + d)])):=by
 have fb:=fE_bd y 1 (by omega) (by omega) (by omega)
 rw [hf] at fb
 have HF:=hide hf
 have HB:=hide hb
 clear hf hb
 cases b
 ·obtain rfl : d = 365:=by simpa using hd.symm
  go_enter Tryz.func167,Tryz.ntmps167
  go_wp2_with fail
  refine (firstOf_is y 1 f _ (by omega) (by omega) (by omega) HF.out).mono ?_
  rintro e w1 ⟨rfl,hb1⟩
  go_wp2_with fail
  refine (leap_at y _ _ HB.out).mono ?_
  rintro e w2 ⟨rfl,rfl⟩
  go_wp2_with fail
  go_ret2
  exact ⟨rfl,hb1⟩
 ·obtain rfl : d = 366:=by simpa using hd.symm
  go_enter Tryz.func167,Tryz.ntmps167
  go_wp2_with fail
  refine (firstOf_is y 1 f _ (by omega) (by omega) (by omega) HF.out).mono ?_
  rintro e w1 ⟨rfl,hb1⟩
  go_wp2_with fail
  refine (leap_at y _ _ HB.out).mono ?_
  rintro e w2 ⟨rfl,rfl⟩
  go_wp2_with fail
  go_ret2
  exact ⟨rfl,hb1⟩
theorem weekday_at (n v : Int) (w : World) (h1 : 0 <= n) (h2 : n < 36525) (h : Cal.wday n = v) :
  Calls Tryz.prog 165 #[.int .i64 n] w (Ans w (.int .i64 v)):=by subst h; exact weekday_any n w (by unfold I64; omega)
theorem bounds_1 (s y m d n : Int) (w : World) (s0 : 0 <= s) (s1 : s < 36525) (n0 : 0 <= n) (n1 : n <= 4000000) :
  Calls Tryz.prog 135 #[.int .i64 1,.int .i64 s,.agg #[.int .i64 y,.int .i64 m,.int .i64 d],.int .i64 n] w (Ans w (.tuple #[.int .i64 (s + n),.int .i64 (s + n + 1)])):=by
 go_enter Tryz.func135,Tryz.ntmps135
 go_wp2_with fail
 go_ret2
 exact ⟨rfl,more (start _) _⟩
theorem bounds_2 (s y m d n v : Int) (w : World) (s0 : 0 <= s) (s1 : s < 36525) (n0 : 0 <= n) (n1 : n <= 4000000) (hv : Cal.wday s = v) :
  Calls Tryz.prog 135 #[.int .i64 2,.int .i64 s,.agg #[.int .i64 y,.int .i64 m,.int .i64 d],.int .i64 n] w (Ans w (.tuple #[.int .i64 (s - v + n * 7),.int .i64 (s - v + n * 7 + 7)])):=by
 have vb:=Cal.wday_bd s
 rw [hv] at vb
 have HV:=hide hv
 clear hv
 go_enter Tryz.func135,Tryz.ntmps135
 go_wp2_with fail
 refine (weekday_at s v _ s0 s1 HV.out).mono ?_
 rintro e w1 ⟨rfl,hb1⟩
 go_wp2_with fail
 go_ret2
 exact ⟨rfl,andthen (more (start _) _) hb1⟩
theorem bounds_3 (s y m d n y2 m2 f v : Int) (w : World) (h0 : 2000 <= y) (hy : y <= 2099) (h1 : 1 <= m) (h2 : m <= 12) (n0 : 0 <= n) (n1 : n <= 4000000) (e1 : y + (m + n - 1) / 12 = y2) (e2 : (m + n - 1) % 12 + 1 = m2) (hf : fE y2 m2 = f) (hv : Cal.dim y2 m2 = v) :
  Calls Tryz.prog 135 #[.int .i64 3,.int .i64 s,.agg #[.int .i64 y,.int .i64 m,.int .i64 d],.int .i64 n] w (Ans w (.tuple #[.int .i64 f,.int .i64 (f + v)])):=by
 have HF:=hide hf
 have HV:=hide hv
 clear hf hv
 go_enter Tryz.func135,Tryz.ntmps135
 go_wp2_with fail
 refine (month_any y (m + n) y2 m2 f v _ h0 hy (by omega) (by omega) e1 e2 HF.out HV.out).mono ?_
 rintro e w1 ⟨rfl,hb1⟩
 go_wp2_with fail
 go_ret2
 exact ⟨rfl,andthen (more (start _) _) hb1⟩
theorem bounds_4 (s y m d n f v : Int) (b : Bool) (w : World) (h0 : 2000 <= y) (hy : y <= 2099) (n0 : 0 <= n) (n1 : n <= 4000000) (hf : fE (y + n) 1 = f) (hb : Cal.lpB (y + n) = b) (hv : (if b then 366 else 365) = v) :
  Calls Tryz.prog 135 #[.int .i64 4,.int .i64 s,.agg #[.int .i64 y,.int .i64 m,.int .i64 d],.int .i64 n] w (Ans w (.tuple #[.int .i64 f,.int .i64 (f + v)])):=by
 have HF:=hide hf
 have HV:=hide hv
 have HB:=hide hb
 clear hf hv hb
 go_enter Tryz.func135,Tryz.ntmps135
 go_wp2_with fail
 refine (year_any (y + n) f v b _ (by omega) HF.out HB.out HV.out).mono ?_
 rintro e w1 ⟨rfl,hb1⟩
 go_wp2_with fail
 go_ret2
 exact ⟨rfl,andthen (more (start _) _) hb1⟩
theorem bounds_any (fr s y m d n a : Int) (w : World) (f1 : 1 <= fr) (f2 : fr <= 4) (s0 : 0 <= s) (s1 : s < 36525) (hy : Cal.yOf s = y) (hm : Cal.mOf s = m) (n0 : 0 <= n) (n1 : n <= 4000000) (ha : pA fr s n = a) :
  Calls Tryz.prog 135 #[.int .i64 fr,.int .i64 s,.agg #[.int .i64 y,.int .i64 m,.int .i64 d],.int .i64 n] w fun e w' => ∃ b : Int,e = .returned (.tuple #[.int .i64 a,.int .i64 b]) /\ (a < 36525 -> b = pB fr s n) /\ Below w.heap.size w w':=by
 have yb:=Cal.yOf_bd s s0 s1
 have mb:=Cal.mOf_bd s
 rw [hy] at yb
 rw [hm] at mb
 rcases fr_cases fr f1 f2 with rfl | rfl | rfl | rfl
 ·refine (bounds_1 s y m d n w s0 s1 n0 n1).mono ?_
  rintro e w1 ⟨rfl,hb⟩
  rw [pA_1] at ha
  exact ⟨s + n + 1,by rw [ha],fun _ => by rw [pB_1],hb⟩
 ·refine (bounds_2 s y m d n _ w s0 s1 n0 n1 rfl).mono ?_
  rintro e w1 ⟨rfl,hb⟩
  rw [pA_2] at ha
  exact ⟨_,by rw [ha],fun _ => by rw [pB_2,<- ha],hb⟩
 ·rw [pA_3,hy,hm] at ha
  have q1 : (12 * (y - 2000) + (m - 1) + n) / 12 = y - 2000 + (m + n - 1) / 12:=by omega
  have q2 : (12 * (y - 2000) + (m - 1) + n) % 12 + 1 = (m + n - 1) % 12 + 1:=by omega
  have q3 : 2000 + (12 * (y - 2000) + (m - 1) + n) / 12 = y + (m + n - 1) / 12:=by omega
  refine (bounds_3 s y m d n _ _ a _ w yb.1 yb.2 mb.1 mb.2 n0 n1 rfl rfl (by rw [<- ha]; unfold fst; rw [q3,q2]) rfl).mono ?_
  rintro e w1 ⟨rfl,hb⟩
  refine ⟨_,rfl,fun h => ?_,hb⟩
  rw [pB_3,hy,hm]
  rw [<- ha] at h
  rw [fst_next _ (by omega) (fst_in _ (by omega) h),ha,q3,q2]
 ·rw [pA_4,hy] at ha
  have q3 : 2000 + (y - 2000 + n) = y + n:=by omega
  refine (bounds_4 s y m d n a _ _ w yb.1 yb.2 n0 n1 (by rw [<- ha,fst_jan,q3]) rfl rfl).mono ?_
  rintro e w1 ⟨rfl,hb⟩
  refine ⟨_,rfl,fun h => ?_,hb⟩
  rw [pB_4,hy]
  rw [<- ha] at h
  rw [fst_jan_next _ (by omega) h,ha,q3]
end Go.Proofs.YtgihekokbgggcaaGreat
namespace Go.Proofs.YtgihekokbgggcaaGreat
open Go.RowKit Rul Go.Sort
abbrev perV (r : Rul.T) (s k : Int) : Value:=.tuple #[.int .i64 (perA r s k),.int .i64 (perB r s k),.bool (perK r s k)]
theorem per_no (r : Rul.T) (s k : Int) (h : perK r s k = false) : Ending.returned (.tuple #[.int .i64 0,.int .i64 0,.bool false]) = .returned (perV r s k):=by
 unfold perV perA perB; rw [h]; rfl
theorem perK_day (r : Rul.T) (s k : Int) (h : dayB s = false) : perK r s k = false:=by unfold perK; rw [h]; rfl
theorem perK_rec (r : Rul.T) (s k : Int) (h : recB r = false) : perK r s k = false:=by unfold perK; rw [h]; simp
theorem perK_k (r : Rul.T) (s k : Int) (h : k < 0 ∨ 36525 <= k) : perK r s k = false:=by
 rw [Bool.eq_false_iff]; intro hc; have:=((perK_iff r s k).1 hc).2.2.1; omega
theorem perK_late (r : Rul.T) (s k : Int) (h : 36525 <= pA r.fr s (r.ev * k)) : perK r s k = false:=by
 rw [Bool.eq_false_iff]; intro hc; have:=((perK_iff r s k).1 hc).2.2.2; omega
theorem per_yes (r : Rul.T) (s k a b : Int) (h : perK r s k = true) (ha : pA r.fr s (r.ev * k) = a) (hb : b = pB r.fr s (r.ev * k)) : Ending.returned (.tuple #[.int .i64 (max a 0),.int .i64 (min b 36525),.bool true]) = .returned (perV r s k):=by
 unfold perV perA perB; rw [h,if_pos rfl,if_pos rfl,ha,hb]
theorem rec_isB0 (r : Rul.T) (h : isB r = false) : recB r = false:=by unfold isB at h; rw [Bool.or_eq_false_iff] at h; exact h.2
theorem once_rec (r : Rul.T) (h : sameB r once = true) : recB r = false:=by
 rw [sameB_iff] at h; subst h; decide +kernel
theorem rec_once (r : Rul.T) (h : recB r = true) : isB r = true /\ sameB r once = false:=by
 refine ⟨by unfold isB; rw [h,Bool.or_true],?_⟩
 rw [Bool.eq_false_iff]; intro hc; rw [once_rec r hc] at h; cases h
theorem period_any (fr ev ct un : Int) (D M Y : Option Addr) (dn dc mn mc yn yc : Nat) (ds : List Wd) (ms ys : List Int) (s k : Int) (w : World) (h : Lies w D dn M mn Y yn ds ms ys) :
  Calls Tryz.prog 112 #[.agg #[.int .i64 fr,.int .i64 ev,.int .i64 ct,.int .i64 un,.slice D dn dc,.slice M mn mc,.slice Y yn yc],.int .i64 s,.int .i64 k] w (Ans w (perV ⟨fr,ev,ct,un,ds,ms,ys⟩ s k)):=by
 have HBX:=hide (more (start w) (.cells #[.int .i64 fr,.int .i64 ev,.int .i64 ct,.int .i64 un,.slice D dn dc,.slice M mn mc,.slice Y yn yc] 39))
 have HL:=hide (h.keep HBX.out)
 have hAC : ∀ i v,(#[.int .i64 fr,.int .i64 ev,.int .i64 ct,.int .i64 un,.slice D dn dc,.slice M mn mc,.slice Y yn yc] : Array Value)[i]? = some v -> (w.alloc (.cells #[.int .i64 fr,.int .i64 ev,.int .i64 ct,.int .i64 un,.slice D dn dc,.slice M mn mc,.slice Y yn yc] 39)).cell? ⟨w.heap.size,i,none⟩ = some v:=fun i v h => by rw [World.cell?_alloc_at _ _ _ _ rfl]; exact h
 have s0:=hAC 0 _ rfl
 have s1:=hAC 1 _ rfl
 have s2:=hAC 2 _ rfl
 have s3:=hAC 3 _ rfl
 have s4:=hAC 4 _ rfl
 have s5:=hAC 5 _ rfl
 have s6:=hAC 6 _ rfl
 clear hAC
 clear h
 cases h1 : dayB s
 ·have HE:=hide (per_no ⟨fr,ev,ct,un,ds,ms,ys⟩ s k (perK_day _ _ _ h1))
  have H1:=hide (dayB_no s h1)
  clear h1
  clear s0 s1 s2 s3 s4 s5 s6 HL
  go_enter Tryz.func112,Tryz.ntmps112
  go_wp2_with fail
  refine (Date_no s _ H1.out).mono ?_
  rintro e u1 ⟨rfl,hb⟩
  replace HBX:=hide (more (andthen HBX.out hb) (.cells #[.int .i64 0,.int .i64 0,.int .i64 0] 110))
  clear hb
  go_wp2_with fail
  generalize u1.alloc (.cells #[.int .i64 0,.int .i64 0,.int .i64 0] 110) = VD at *
  have hbq:=fun d os => below_regrown VD d os
  refine wp_region_quiet_below (by kernel_rfl) (by kernel_rfl) ?_
  repeat (first | go_big_quiet_step ((first | (fail))) | quiet_step ((first | (fail))))
  refine wpQuiet_nil ?_
  intro _ hw'
  obtain ⟨⟨nq,osq⟩,hw''⟩:=hw'
  subst hw''
  have hb:=hbq nq osq
  replace HBX:=hide (andthen HBX.out hb)
  clear hb hbq
  go_wp2_with fail
  go_ret3
  exact ⟨HE.out,HBX.out⟩
 ·obtain ⟨s1',s2'⟩:=dayB_yes s h1
  clear h1
  obtain ⟨y,hy⟩ : ∃ y,Cal.yOf s = y:=⟨_,rfl⟩
  obtain ⟨m,hmo⟩ : ∃ m,Cal.mOf s = m:=⟨_,rfl⟩
  obtain ⟨d,hd⟩ : ∃ d,Cal.dOf s = d:=⟨_,rfl⟩
  have HD:=hide (And.intro hy (And.intro hmo hd))
  clear hy hmo hd
  cases hr : recB ⟨fr,ev,ct,un,ds,ms,ys⟩
  ·cases hi : isB ⟨fr,ev,ct,un,ds,ms,ys⟩
   ·have HE:=hide (per_no ⟨fr,ev,ct,un,ds,ms,ys⟩ s k (perK_rec _ _ _ hr))
    have HI:=hide hi
    have HS:=hide (show sameB ⟨fr,ev,ct,un,ds,ms,ys⟩ once = sameB ⟨fr,ev,ct,un,ds,ms,ys⟩ once from rfl)
    clear hr hi
    go_enter Tryz.func112,Tryz.ntmps112
    go_wp2_with fail
    generalize (w.alloc (.cells #[.int .i64 fr,.int .i64 ev,.int .i64 ct,.int .i64 un,.slice D dn dc,.slice M mn mc,.slice Y yn yc] 39)) = W at *
    refine (date_is s y m d _ s1' s2' HD.out.1 HD.out.2.1 HD.out.2.2).mono ?_
    rintro e u1 ⟨rfl,hb⟩
    replace HBX:=hide (andthen HBX.out hb)
    replace HL:=hide (HL.out.keep hb)
    replace s0:=cell_keep hb s0
    replace s1:=cell_keep hb s1
    replace s2:=cell_keep hb s2
    replace s3:=cell_keep hb s3
    replace s4:=cell_keep hb s4
    replace s5:=cell_keep hb s5
    replace s6:=cell_keep hb s6
    clear hb
    go_wp2_with fail
    have hb:=more (start u1) (.cells #[.int .i64 y,.int .i64 m,.int .i64 d] 110)
    replace HBX:=hide (andthen HBX.out hb)
    replace HL:=hide (HL.out.keep hb)
    replace s0:=cell_keep hb s0
    replace s1:=cell_keep hb s1
    replace s2:=cell_keep hb s2
    replace s3:=cell_keep hb s3
    replace s4:=cell_keep hb s4
    replace s5:=cell_keep hb s5
    replace s6:=cell_keep hb s6
    clear hb
    have d0 : (u1.alloc (.cells #[.int .i64 y,.int .i64 m,.int .i64 d] 110)).cell? ⟨u1.heap.size,0,none⟩ = some (.int .i64 y):=by rw [World.cell?_alloc_at _ _ _ _ rfl]; rfl
    have d1 : (u1.alloc (.cells #[.int .i64 y,.int .i64 m,.int .i64 d] 110)).cell? ⟨u1.heap.size,1,none⟩ = some (.int .i64 m):=by rw [World.cell?_alloc_at _ _ _ _ rfl]; rfl
    have d2 : (u1.alloc (.cells #[.int .i64 y,.int .i64 m,.int .i64 d] 110)).cell? ⟨u1.heap.size,2,none⟩ = some (.int .i64 d):=by rw [World.cell?_alloc_at _ _ _ _ rfl]; rfl
    generalize (u1.alloc (.cells #[.int .i64 y,.int .i64 m,.int .i64 d] 110)) = VD at *
    generalize u1.heap.size = XD at *
    have fs0:=fun d os => cell_regrown s0 d os
    have fs1:=fun d os => cell_regrown s1 d os
    have fs2:=fun d os => cell_regrown s2 d os
    have fs3:=fun d os => cell_regrown s3 d os
    have fs4:=fun d os => cell_regrown s4 d os
    have fs5:=fun d os => cell_regrown s5 d os
    have fs6:=fun d os => cell_regrown s6 d os
    have fd0:=fun d os => cell_regrown d0 d os
    have fd1:=fun d os => cell_regrown d1 d os
    have fd2:=fun d os => cell_regrown d2 d os
    have L1:=hide (fun d os => Lies.keep HL.out (below_regrown VD d os))
    have hbq:=fun d os => below_regrown VD d os
    refine wp_region_quiet_below (by kernel_rfl) (by kernel_rfl) ?_
    repeat (first | go_big_quiet_step ((first | (go_at_call 83; exact Calls.regrown_of (ans_is (ruleIs_any fr ev ct un D M Y dn dc mn mc yn yc ds ms ys _ (L1.out _ _)) HI.out)) | (go_at_call 101; exact Calls.regrown_of (once_any _)) | (go_at_call 100; exact Calls.regrown_of (ans_is (same_any fr ev ct un D M Y dn dc mn mc yn yc 0 0 0 (-1) none none none 0 0 0 0 0 0 ds ms ys [] [] [] _ (L1.out _ _) (lies_once _)) HS.out)))) | quiet_step ((first | (go_at_call 83; exact Calls.regrown_of (ans_is (ruleIs_any fr ev ct un D M Y dn dc mn mc yn yc ds ms ys _ (L1.out _ _)) HI.out)) | (go_at_call 101; exact Calls.regrown_of (once_any _)) | (go_at_call 100; exact Calls.regrown_of (ans_is (same_any fr ev ct un D M Y dn dc mn mc yn yc 0 0 0 (-1) none none none 0 0 0 0 0 0 ds ms ys [] [] [] _ (L1.out _ _) (lies_once _)) HS.out)))))
    refine wpQuiet_nil ?_
    intro _ hw'
    obtain ⟨⟨nq,osq⟩,hw''⟩:=hw'
    subst hw''
    have hb:=hbq nq osq
    replace HBX:=hide (andthen HBX.out hb)
    replace HL:=hide (HL.out.keep hb)
    replace s0:=cell_keep hb s0
    replace s1:=cell_keep hb s1
    replace s2:=cell_keep hb s2
    replace s3:=cell_keep hb s3
    replace s4:=cell_keep hb s4
    replace s5:=cell_keep hb s5
    replace s6:=cell_keep hb s6
    replace d0:=cell_keep hb d0
    replace d1:=cell_keep hb d1
    replace d2:=cell_keep hb d2
    clear hb hbq fs0 fs1 fs2 fs3 fs4 fs5 fs6 fd0 fd1 fd2 L1
    go_wp2_with fail
    go_ret3
    exact ⟨HE.out,HBX.out⟩
   ·have HE:=hide (per_no ⟨fr,ev,ct,un,ds,ms,ys⟩ s k (perK_rec _ _ _ hr))
    have hs : sameB ⟨fr,ev,ct,un,ds,ms,ys⟩ once = true:=by unfold isB at hi; rw [hr,Bool.or_false] at hi; exact hi
    have HI:=hide hi
    have HS:=hide hs
    clear hr hi hs
    go_enter Tryz.func112,Tryz.ntmps112
    go_wp2_with fail
    generalize (w.alloc (.cells #[.int .i64 fr,.int .i64 ev,.int .i64 ct,.int .i64 un,.slice D dn dc,.slice M mn mc,.slice Y yn yc] 39)) = W at *
    refine (date_is s y m d _ s1' s2' HD.out.1 HD.out.2.1 HD.out.2.2).mono ?_
    rintro e u1 ⟨rfl,hb⟩
    replace HBX:=hide (andthen HBX.out hb)
    replace HL:=hide (HL.out.keep hb)
    replace s0:=cell_keep hb s0
    replace s1:=cell_keep hb s1
    replace s2:=cell_keep hb s2
    replace s3:=cell_keep hb s3
    replace s4:=cell_keep hb s4
    replace s5:=cell_keep hb s5
    replace s6:=cell_keep hb s6
    clear hb
    go_wp2_with fail
    have hb:=more (start u1) (.cells #[.int .i64 y,.int .i64 m,.int .i64 d] 110)
    replace HBX:=hide (andthen HBX.out hb)
    replace HL:=hide (HL.out.keep hb)
    replace s0:=cell_keep hb s0
    replace s1:=cell_keep hb s1
    replace s2:=cell_keep hb s2
    replace s3:=cell_keep hb s3
    replace s4:=cell_keep hb s4
    replace s5:=cell_keep hb s5
    replace s6:=cell_keep hb s6
    clear hb
    have d0 : (u1.alloc (.cells #[.int .i64 y,.int .i64 m,.int .i64 d] 110)).cell? ⟨u1.heap.size,0,none⟩ = some (.int .i64 y):=by rw [World.cell?_alloc_at _ _ _ _ rfl]; rfl
    have d1 : (u1.alloc (.cells #[.int .i64 y,.int .i64 m,.int .i64 d] 110)).cell? ⟨u1.heap.size,1,none⟩ = some (.int .i64 m):=by rw [World.cell?_alloc_at _ _ _ _ rfl]; rfl
    have d2 : (u1.alloc (.cells #[.int .i64 y,.int .i64 m,.int .i64 d] 110)).cell? ⟨u1.heap.size,2,none⟩ = some (.int .i64 d):=by rw [World.cell?_alloc_at _ _ _ _ rfl]; rfl
    generalize (u1.alloc (.cells #[.int .i64 y,.int .i64 m,.int .i64 d] 110)) = VD at *
    generalize u1.heap.size = XD at *
    have fs0:=fun d os => cell_regrown s0 d os
    have fs1:=fun d os => cell_regrown s1 d os
    have fs2:=fun d os => cell_regrown s2 d os
    have fs3:=fun d os => cell_regrown s3 d os
    have fs4:=fun d os => cell_regrown s4 d os
    have fs5:=fun d os => cell_regrown s5 d os
    have fs6:=fun d os => cell_regrown s6 d os
    have fd0:=fun d os => cell_regrown d0 d os
    have fd1:=fun d os => cell_regrown d1 d os
    have fd2:=fun d os => cell_regrown d2 d os
    have L1:=hide (fun d os => Lies.keep HL.out (below_regrown VD d os))
    have hbq:=fun d os => below_regrown VD d os
    refine wp_region_quiet_below (by kernel_rfl) (by kernel_rfl) ?_
    repeat (first | go_big_quiet_step ((first | (go_at_call 83; exact Calls.regrown_of (ans_is (ruleIs_any fr ev ct un D M Y dn dc mn mc yn yc ds ms ys _ (L1.out _ _)) HI.out)) | (go_at_call 101; exact Calls.regrown_of (once_any _)) | (go_at_call 100; exact Calls.regrown_of (ans_is (same_any fr ev ct un D M Y dn dc mn mc yn yc 0 0 0 (-1) none none none 0 0 0 0 0 0 ds ms ys [] [] [] _ (L1.out _ _) (lies_once _)) HS.out)))) | quiet_step ((first | (go_at_call 83; exact Calls.regrown_of (ans_is (ruleIs_any fr ev ct un D M Y dn dc mn mc yn yc ds ms ys _ (L1.out _ _)) HI.out)) | (go_at_call 101; exact Calls.regrown_of (once_any _)) | (go_at_call 100; exact Calls.regrown_of (ans_is (same_any fr ev ct un D M Y dn dc mn mc yn yc 0 0 0 (-1) none none none 0 0 0 0 0 0 ds ms ys [] [] [] _ (L1.out _ _) (lies_once _)) HS.out)))))
    refine wpQuiet_nil ?_
    intro _ hw'
    obtain ⟨⟨nq,osq⟩,hw''⟩:=hw'
    subst hw''
    have hb:=hbq nq osq
    replace HBX:=hide (andthen HBX.out hb)
    replace HL:=hide (HL.out.keep hb)
    replace s0:=cell_keep hb s0
    replace s1:=cell_keep hb s1
    replace s2:=cell_keep hb s2
    replace s3:=cell_keep hb s3
    replace s4:=cell_keep hb s4
    replace s5:=cell_keep hb s5
    replace s6:=cell_keep hb s6
    replace d0:=cell_keep hb d0
    replace d1:=cell_keep hb d1
    replace d2:=cell_keep hb d2
    clear hb hbq fs0 fs1 fs2 fs3 fs4 fs5 fs6 fd0 fd1 fd2 L1
    go_wp2_with fail
    go_ret3
    exact ⟨HE.out,HBX.out⟩
  ·have HI:=hide (rec_once ⟨fr,ev,ct,un,ds,ms,ys⟩ hr).1
   have HS:=hide (rec_once ⟨fr,ev,ct,un,ds,ms,ys⟩ hr).2
   have fb:=recB_fr ⟨fr,ev,ct,un,ds,ms,ys⟩ hr
   have eb:=recB_ev ⟨fr,ev,ct,un,ds,ms,ys⟩ hr
   simp only at fb eb
   by_cases hk : k < 0 ∨ 36525 <= k
   ·have HE:=hide (per_no ⟨fr,ev,ct,un,ds,ms,ys⟩ s k (perK_k _ _ _ hk))
    clear hr
    by_cases hk1 : k < 0
    ·clear hk
     go_enter Tryz.func112,Tryz.ntmps112
     go_wp2_with fail
     generalize (w.alloc (.cells #[.int .i64 fr,.int .i64 ev,.int .i64 ct,.int .i64 un,.slice D dn dc,.slice M mn mc,.slice Y yn yc] 39)) = W at *
     refine (date_is s y m d _ s1' s2' HD.out.1 HD.out.2.1 HD.out.2.2).mono ?_
     rintro e u1 ⟨rfl,hb⟩
     replace HBX:=hide (andthen HBX.out hb)
     replace HL:=hide (HL.out.keep hb)
     replace s0:=cell_keep hb s0
     replace s1:=cell_keep hb s1
     replace s2:=cell_keep hb s2
     replace s3:=cell_keep hb s3
     replace s4:=cell_keep hb s4
     replace s5:=cell_keep hb s5
     replace s6:=cell_keep hb s6
     clear hb
     go_wp2_with fail
     have hb:=more (start u1) (.cells #[.int .i64 y,.int .i64 m,.int .i64 d] 110)
     replace HBX:=hide (andthen HBX.out hb)
     replace HL:=hide (HL.out.keep hb)
     replace s0:=cell_keep hb s0
     replace s1:=cell_keep hb s1
     replace s2:=cell_keep hb s2
     replace s3:=cell_keep hb s3
     replace s4:=cell_keep hb s4
     replace s5:=cell_keep hb s5
     replace s6:=cell_keep hb s6
     clear hb
     have d0 : (u1.alloc (.cells #[.int .i64 y,.int .i64 m,.int .i64 d] 110)).cell? ⟨u1.heap.size,0,none⟩ = some (.int .i64 y):=by rw [World.cell?_alloc_at _ _ _ _ rfl]; rfl
     have d1 : (u1.alloc (.cells #[.int .i64 y,.int .i64 m,.int .i64 d] 110)).cell? ⟨u1.heap.size,1,none⟩ = some (.int .i64 m):=by rw [World.cell?_alloc_at _ _ _ _ rfl]; rfl
     have d2 : (u1.alloc (.cells #[.int .i64 y,.int .i64 m,.int .i64 d] 110)).cell? ⟨u1.heap.size,2,none⟩ = some (.int .i64 d):=by rw [World.cell?_alloc_at _ _ _ _ rfl]; rfl
     generalize (u1.alloc (.cells #[.int .i64 y,.int .i64 m,.int .i64 d] 110)) = VD at *
     generalize u1.heap.size = XD at *
     have fs0:=fun d os => cell_regrown s0 d os
     have fs1:=fun d os => cell_regrown s1 d os
     have fs2:=fun d os => cell_regrown s2 d os
     have fs3:=fun d os => cell_regrown s3 d os
     have fs4:=fun d os => cell_regrown s4 d os
     have fs5:=fun d os => cell_regrown s5 d os
     have fs6:=fun d os => cell_regrown s6 d os
     have fd0:=fun d os => cell_regrown d0 d os
     have fd1:=fun d os => cell_regrown d1 d os
     have fd2:=fun d os => cell_regrown d2 d os
     have L1:=hide (fun d os => Lies.keep HL.out (below_regrown VD d os))
     have hbq:=fun d os => below_regrown VD d os
     refine wp_region_quiet_below (by kernel_rfl) (by kernel_rfl) ?_
     repeat (first | go_big_quiet_step ((first | (go_at_call 83; exact Calls.regrown_of (ans_is (ruleIs_any fr ev ct un D M Y dn dc mn mc yn yc ds ms ys _ (L1.out _ _)) HI.out)) | (go_at_call 101; exact Calls.regrown_of (once_any _)) | (go_at_call 100; exact Calls.regrown_of (ans_is (same_any fr ev ct un D M Y dn dc mn mc yn yc 0 0 0 (-1) none none none 0 0 0 0 0 0 ds ms ys [] [] [] _ (L1.out _ _) (lies_once _)) HS.out)))) | quiet_step ((first | (go_at_call 83; exact Calls.regrown_of (ans_is (ruleIs_any fr ev ct un D M Y dn dc mn mc yn yc ds ms ys _ (L1.out _ _)) HI.out)) | (go_at_call 101; exact Calls.regrown_of (once_any _)) | (go_at_call 100; exact Calls.regrown_of (ans_is (same_any fr ev ct un D M Y dn dc mn mc yn yc 0 0 0 (-1) none none none 0 0 0 0 0 0 ds ms ys [] [] [] _ (L1.out _ _) (lies_once _)) HS.out)))))
     refine wpQuiet_nil ?_
     intro _ hw'
     obtain ⟨⟨nq,osq⟩,hw''⟩:=hw'
     subst hw''
     have hb:=hbq nq osq
     replace HBX:=hide (andthen HBX.out hb)
     replace HL:=hide (HL.out.keep hb)
     replace s0:=cell_keep hb s0
     replace s1:=cell_keep hb s1
     replace s2:=cell_keep hb s2
     replace s3:=cell_keep hb s3
     replace s4:=cell_keep hb s4
     replace s5:=cell_keep hb s5
     replace s6:=cell_keep hb s6
     replace d0:=cell_keep hb d0
     replace d1:=cell_keep hb d1
     replace d2:=cell_keep hb d2
     clear hb hbq fs0 fs1 fs2 fs3 fs4 fs5 fs6 fd0 fd1 fd2 L1
     go_wp2_with fail
     go_ret3
     exact ⟨HE.out,HBX.out⟩
    ·have hk2 : 36525 <= k:=by omega
     clear hk
     go_enter Tryz.func112,Tryz.ntmps112
     go_wp2_with fail
     generalize (w.alloc (.cells #[.int .i64 fr,.int .i64 ev,.int .i64 ct,.int .i64 un,.slice D dn dc,.slice M mn mc,.slice Y yn yc] 39)) = W at *
     refine (date_is s y m d _ s1' s2' HD.out.1 HD.out.2.1 HD.out.2.2).mono ?_
     rintro e u1 ⟨rfl,hb⟩
     replace HBX:=hide (andthen HBX.out hb)
     replace HL:=hide (HL.out.keep hb)
     replace s0:=cell_keep hb s0
     replace s1:=cell_keep hb s1
     replace s2:=cell_keep hb s2
     replace s3:=cell_keep hb s3
     replace s4:=cell_keep hb s4
     replace s5:=cell_keep hb s5
     replace s6:=cell_keep hb s6
     clear hb
     go_wp2_with fail
     have hb:=more (start u1) (.cells #[.int .i64 y,.int .i64 m,.int .i64 d] 110)
     replace HBX:=hide (andthen HBX.out hb)
     replace HL:=hide (HL.out.keep hb)
     replace s0:=cell_keep hb s0
     replace s1:=cell_keep hb s1
     replace s2:=cell_keep hb s2
     replace s3:=cell_keep hb s3
     replace s4:=cell_keep hb s4
     replace s5:=cell_keep hb s5
     replace s6:=cell_keep hb s6
     clear hb
     have d0 : (u1.alloc (.cells #[.int .i64 y,.int .i64 m,.int .i64 d] 110)).cell? ⟨u1.heap.size,0,none⟩ = some (.int .i64 y):=by rw [World.cell?_alloc_at _ _ _ _ rfl]; rfl
     have d1 : (u1.alloc (.cells #[.int .i64 y,.int .i64 m,.int .i64 d] 110)).cell? ⟨u1.heap.size,1,none⟩ = some (.int .i64 m):=by rw [World.cell?_alloc_at _ _ _ _ rfl]; rfl
     have d2 : (u1.alloc (.cells #[.int .i64 y,.int .i64 m,.int .i64 d] 110)).cell? ⟨u1.heap.size,2,none⟩ = some (.int .i64 d):=by rw [World.cell?_alloc_at _ _ _ _ rfl]; rfl
     generalize (u1.alloc (.cells #[.int .i64 y,.int .i64 m,.int .i64 d] 110)) = VD at *
     generalize u1.heap.size = XD at *
     have fs0:=fun d os => cell_regrown s0 d os
     have fs1:=fun d os => cell_regrown s1 d os
     have fs2:=fun d os => cell_regrown s2 d os
     have fs3:=fun d os => cell_regrown s3 d os
     have fs4:=fun d os => cell_regrown s4 d os
     have fs5:=fun d os => cell_regrown s5 d os
     have fs6:=fun d os => cell_regrown s6 d os
     have fd0:=fun d os => cell_regrown d0 d os
     have fd1:=fun d os => cell_regrown d1 d os
     have fd2:=fun d os => cell_regrown d2 d os
     have L1:=hide (fun d os => Lies.keep HL.out (below_regrown VD d os))
     have hbq:=fun d os => below_regrown VD d os
     refine wp_region_quiet_below (by kernel_rfl) (by kernel_rfl) ?_
     repeat (first | go_big_quiet_step ((first | (go_at_call 83; exact Calls.regrown_of (ans_is (ruleIs_any fr ev ct un D M Y dn dc mn mc yn yc ds ms ys _ (L1.out _ _)) HI.out)) | (go_at_call 101; exact Calls.regrown_of (once_any _)) | (go_at_call 100; exact Calls.regrown_of (ans_is (same_any fr ev ct un D M Y dn dc mn mc yn yc 0 0 0 (-1) none none none 0 0 0 0 0 0 ds ms ys [] [] [] _ (L1.out _ _) (lies_once _)) HS.out)))) | quiet_step ((first | (go_at_call 83; exact Calls.regrown_of (ans_is (ruleIs_any fr ev ct un D M Y dn dc mn mc yn yc ds ms ys _ (L1.out _ _)) HI.out)) | (go_at_call 101; exact Calls.regrown_of (once_any _)) | (go_at_call 100; exact Calls.regrown_of (ans_is (same_any fr ev ct un D M Y dn dc mn mc yn yc 0 0 0 (-1) none none none 0 0 0 0 0 0 ds ms ys [] [] [] _ (L1.out _ _) (lies_once _)) HS.out)))))
     refine wpQuiet_nil ?_
     intro _ hw'
     obtain ⟨⟨nq,osq⟩,hw''⟩:=hw'
     subst hw''
     have hb:=hbq nq osq
     replace HBX:=hide (andthen HBX.out hb)
     replace HL:=hide (HL.out.keep hb)
     replace s0:=cell_keep hb s0
     replace s1:=cell_keep hb s1
     replace s2:=cell_keep hb s2
     replace s3:=cell_keep hb s3
     replace s4:=cell_keep hb s4
     replace s5:=cell_keep hb s5
     replace s6:=cell_keep hb s6
     replace d0:=cell_keep hb d0
     replace d1:=cell_keep hb d1
     replace d2:=cell_keep hb d2
     clear hb hbq fs0 fs1 fs2 fs3 fs4 fs5 fs6 fd0 fd1 fd2 L1
     go_wp2_with fail
     go_ret3
     exact ⟨HE.out,HBX.out⟩
   ·have hm:=ev_mul ev k eb.1 eb.2 (by omega) (by omega)
    obtain ⟨a,ha⟩ : ∃ a,pA fr s (ev * k) = a:=⟨_,rfl⟩
    have lo:=pA_lo fr s (ev * k) fb.1 fb.2 s1' s2' hm.1
    have hi:=pA_hi fr s (ev * k) fb.1 fb.2 s1' s2' hm.1 (by omega)
    rw [ha] at lo hi
    have hk1 : 0 <= k:=by omega
    have hk2 : k < 36525:=by omega
    by_cases hl : 36525 <= a
    ·have HE:=hide (per_no ⟨fr,ev,ct,un,ds,ms,ys⟩ s k (perK_late _ _ _ (by show 36525 <= pA fr s (ev * k); rw [ha]; exact hl)))
     have HA:=hide ha
     clear hr hk ha
     go_enter Tryz.func112,Tryz.ntmps112
     go_wp2_with fail
     generalize (w.alloc (.cells #[.int .i64 fr,.int .i64 ev,.int .i64 ct,.int .i64 un,.slice D dn dc,.slice M mn mc,.slice Y yn yc] 39)) = W at *
     refine (date_is s y m d _ s1' s2' HD.out.1 HD.out.2.1 HD.out.2.2).mono ?_
     rintro e u1 ⟨rfl,hb⟩
     replace HBX:=hide (andthen HBX.out hb)
     replace HL:=hide (HL.out.keep hb)
     replace s0:=cell_keep hb s0
     replace s1:=cell_keep hb s1
     replace s2:=cell_keep hb s2
     replace s3:=cell_keep hb s3
     replace s4:=cell_keep hb s4
     replace s5:=cell_keep hb s5
     replace s6:=cell_keep hb s6
     clear hb
     go_wp2_with fail
     have hb:=more (start u1) (.cells #[.int .i64 y,.int .i64 m,.int .i64 d] 110)
     replace HBX:=hide (andthen HBX.out hb)
     replace HL:=hide (HL.out.keep hb)
     replace s0:=cell_keep hb s0
     replace s1:=cell_keep hb s1
     replace s2:=cell_keep hb s2
     replace s3:=cell_keep hb s3
     replace s4:=cell_keep hb s4
     replace s5:=cell_keep hb s5
     replace s6:=cell_keep hb s6
     clear hb
     have d0 : (u1.alloc (.cells #[.int .i64 y,.int .i64 m,.int .i64 d] 110)).cell? ⟨u1.heap.size,0,none⟩ = some (.int .i64 y):=by rw [World.cell?_alloc_at _ _ _ _ rfl]; rfl
     have d1 : (u1.alloc (.cells #[.int .i64 y,.int .i64 m,.int .i64 d] 110)).cell? ⟨u1.heap.size,1,none⟩ = some (.int .i64 m):=by rw [World.cell?_alloc_at _ _ _ _ rfl]; rfl
     have d2 : (u1.alloc (.cells #[.int .i64 y,.int .i64 m,.int .i64 d] 110)).cell? ⟨u1.heap.size,2,none⟩ = some (.int .i64 d):=by rw [World.cell?_alloc_at _ _ _ _ rfl]; rfl
     generalize (u1.alloc (.cells #[.int .i64 y,.int .i64 m,.int .i64 d] 110)) = VD at *
     generalize u1.heap.size = XD at *
     have fs0:=fun d os => cell_regrown s0 d os
     have fs1:=fun d os => cell_regrown s1 d os
     have fs2:=fun d os => cell_regrown s2 d os
     have fs3:=fun d os => cell_regrown s3 d os
     have fs4:=fun d os => cell_regrown s4 d os
     have fs5:=fun d os => cell_regrown s5 d os
     have fs6:=fun d os => cell_regrown s6 d os
     have fd0:=fun d os => cell_regrown d0 d os
     have fd1:=fun d os => cell_regrown d1 d os
     have fd2:=fun d os => cell_regrown d2 d os
     have L1:=hide (fun d os => Lies.keep HL.out (below_regrown VD d os))
     have hbq:=fun d os => below_regrown VD d os
     refine wp_region_quiet_below (by kernel_rfl) (by kernel_rfl) ?_
     repeat (first | go_big_quiet_step ((first | (go_at_call 83; exact Calls.regrown_of (ans_is (ruleIs_any fr ev ct un D M Y dn dc mn mc yn yc ds ms ys _ (L1.out _ _)) HI.out)) | (go_at_call 101; exact Calls.regrown_of (once_any _)) | (go_at_call 100; exact Calls.regrown_of (ans_is (same_any fr ev ct un D M Y dn dc mn mc yn yc 0 0 0 (-1) none none none 0 0 0 0 0 0 ds ms ys [] [] [] _ (L1.out _ _) (lies_once _)) HS.out)))) | quiet_step ((first | (go_at_call 83; exact Calls.regrown_of (ans_is (ruleIs_any fr ev ct un D M Y dn dc mn mc yn yc ds ms ys _ (L1.out _ _)) HI.out)) | (go_at_call 101; exact Calls.regrown_of (once_any _)) | (go_at_call 100; exact Calls.regrown_of (ans_is (same_any fr ev ct un D M Y dn dc mn mc yn yc 0 0 0 (-1) none none none 0 0 0 0 0 0 ds ms ys [] [] [] _ (L1.out _ _) (lies_once _)) HS.out)))))
     refine wpQuiet_nil ?_
     intro _ hw'
     obtain ⟨⟨nq,osq⟩,hw''⟩:=hw'
     subst hw''
     have hb:=hbq nq osq
     replace HBX:=hide (andthen HBX.out hb)
     replace HL:=hide (HL.out.keep hb)
     replace s0:=cell_keep hb s0
     replace s1:=cell_keep hb s1
     replace s2:=cell_keep hb s2
     replace s3:=cell_keep hb s3
     replace s4:=cell_keep hb s4
     replace s5:=cell_keep hb s5
     replace s6:=cell_keep hb s6
     replace d0:=cell_keep hb d0
     replace d1:=cell_keep hb d1
     replace d2:=cell_keep hb d2
     clear hb hbq fs0 fs1 fs2 fs3 fs4 fs5 fs6 fd0 fd1 fd2 L1
     go_wp2_with fail
     refine (bounds_any fr s y m d (ev * k) a _ fb.1 fb.2 s1' s2' HD.out.1 HD.out.2.1 hm.1 (by omega) HA.out).mono ?_
     rintro e u9 ⟨b,rfl,hb1,hb⟩
     have HB1:=hide hb1
     clear hb1
     replace HBX:=hide (andthen HBX.out hb)
     replace HL:=hide (HL.out.keep hb)
     replace s0:=cell_keep hb s0
     replace s1:=cell_keep hb s1
     replace s2:=cell_keep hb s2
     replace s3:=cell_keep hb s3
     replace s4:=cell_keep hb s4
     replace s5:=cell_keep hb s5
     replace s6:=cell_keep hb s6
     replace d0:=cell_keep hb d0
     replace d1:=cell_keep hb d1
     replace d2:=cell_keep hb d2
     clear hb
     go_wp2_with fail
     go_ret3
     exact ⟨HE.out,HBX.out⟩
    ·have hK : perK ⟨fr,ev,ct,un,ds,ms,ys⟩ s k = true:=(perK_iff _ _ _).2 ⟨⟨s1',s2'⟩,hr,⟨hk1,hk2⟩,by show pA fr s (ev * k) < 36525; rw [ha]; omega⟩
     have HE : Hid (∀ b,(a < 36525 -> b = pB fr s (ev * k)) -> ∀ u v,u = max a 0 -> v = min b 36525 -> Ending.returned (.tuple #[.int .i64 u,.int .i64 v,.bool true]) = .returned (perV ⟨fr,ev,ct,un,ds,ms,ys⟩ s k)):=hide fun b hb u v hu hv => by subst hu hv; exact per_yes ⟨fr,ev,ct,un,ds,ms,ys⟩ s k a b hK ha (hb (by omega))
     have HA:=hide ha
     clear hr hk ha hK
     go_enter Tryz.func112,Tryz.ntmps112
     go_wp2_with fail
     generalize (w.alloc (.cells #[.int .i64 fr,.int .i64 ev,.int .i64 ct,.int .i64 un,.slice D dn dc,.slice M mn mc,.slice Y yn yc] 39)) = W at *
     refine (date_is s y m d _ s1' s2' HD.out.1 HD.out.2.1 HD.out.2.2).mono ?_
     rintro e u1 ⟨rfl,hb⟩
     replace HBX:=hide (andthen HBX.out hb)
     replace HL:=hide (HL.out.keep hb)
     replace s0:=cell_keep hb s0
     replace s1:=cell_keep hb s1
     replace s2:=cell_keep hb s2
     replace s3:=cell_keep hb s3
     replace s4:=cell_keep hb s4
     replace s5:=cell_keep hb s5
     replace s6:=cell_keep hb s6
     clear hb
     go_wp2_with fail
     have hb:=more (start u1) (.cells #[.int .i64 y,.int .i64 m,.int .i64 d] 110)
     replace HBX:=hide (andthen HBX.out hb)
     replace HL:=hide (HL.out.keep hb)
     replace s0:=cell_keep hb s0
     replace s1:=cell_keep hb s1
     replace s2:=cell_keep hb s2
     replace s3:=cell_keep hb s3
     replace s4:=cell_keep hb s4
     replace s5:=cell_keep hb s5
     replace s6:=cell_keep hb s6
     clear hb
     have d0 : (u1.alloc (.cells #[.int .i64 y,.int .i64 m,.int .i64 d] 110)).cell? ⟨u1.heap.size,0,none⟩ = some (.int .i64 y):=by rw [World.cell?_alloc_at _ _ _ _ rfl]; rfl
     have d1 : (u1.alloc (.cells #[.int .i64 y,.int .i64 m,.int .i64 d] 110)).cell? ⟨u1.heap.size,1,none⟩ = some (.int .i64 m):=by rw [World.cell?_alloc_at _ _ _ _ rfl]; rfl
     have d2 : (u1.alloc (.cells #[.int .i64 y,.int .i64 m,.int .i64 d] 110)).cell? ⟨u1.heap.size,2,none⟩ = some (.int .i64 d):=by rw [World.cell?_alloc_at _ _ _ _ rfl]; rfl
     generalize (u1.alloc (.cells #[.int .i64 y,.int .i64 m,.int .i64 d] 110)) = VD at *
     generalize u1.heap.size = XD at *
     have fs0:=fun d os => cell_regrown s0 d os
     have fs1:=fun d os => cell_regrown s1 d os
     have fs2:=fun d os => cell_regrown s2 d os
     have fs3:=fun d os => cell_regrown s3 d os
     have fs4:=fun d os => cell_regrown s4 d os
     have fs5:=fun d os => cell_regrown s5 d os
     have fs6:=fun d os => cell_regrown s6 d os
     have fd0:=fun d os => cell_regrown d0 d os
     have fd1:=fun d os => cell_regrown d1 d os
     have fd2:=fun d os => cell_regrown d2 d os
     have L1:=hide (fun d os => Lies.keep HL.out (below_regrown VD d os))
     have hbq:=fun d os => below_regrown VD d os
     refine wp_region_quiet_below (by kernel_rfl) (by kernel_rfl) ?_
     repeat (first | go_big_quiet_step ((first | (go_at_call 83; exact Calls.regrown_of (ans_is (ruleIs_any fr ev ct un D M Y dn dc mn mc yn yc ds ms ys _ (L1.out _ _)) HI.out)) | (go_at_call 101; exact Calls.regrown_of (once_any _)) | (go_at_call 100; exact Calls.regrown_of (ans_is (same_any fr ev ct un D M Y dn dc mn mc yn yc 0 0 0 (-1) none none none 0 0 0 0 0 0 ds ms ys [] [] [] _ (L1.out _ _) (lies_once _)) HS.out)))) | quiet_step ((first | (go_at_call 83; exact Calls.regrown_of (ans_is (ruleIs_any fr ev ct un D M Y dn dc mn mc yn yc ds ms ys _ (L1.out _ _)) HI.out)) | (go_at_call 101; exact Calls.regrown_of (once_any _)) | (go_at_call 100; exact Calls.regrown_of (ans_is (same_any fr ev ct un D M Y dn dc mn mc yn yc 0 0 0 (-1) none none none 0 0 0 0 0 0 ds ms ys [] [] [] _ (L1.out _ _) (lies_once _)) HS.out)))))
     refine wpQuiet_nil ?_
     intro _ hw'
     obtain ⟨⟨nq,osq⟩,hw''⟩:=hw'
     subst hw''
     have hb:=hbq nq osq
     replace HBX:=hide (andthen HBX.out hb)
     replace HL:=hide (HL.out.keep hb)
     replace s0:=cell_keep hb s0
     replace s1:=cell_keep hb s1
     replace s2:=cell_keep hb s2
     replace s3:=cell_keep hb s3
     replace s4:=cell_keep hb s4
     replace s5:=cell_keep hb s5
     replace s6:=cell_keep hb s6
     replace d0:=cell_keep hb d0
     replace d1:=cell_keep hb d1
     replace d2:=cell_keep hb d2
     clear hb hbq fs0 fs1 fs2 fs3 fs4 fs5 fs6 fd0 fd1 fd2 L1
     go_wp2_with fail
     refine (bounds_any fr s y m d (ev * k) a _ fb.1 fb.2 s1' s2' HD.out.1 HD.out.2.1 hm.1 (by omega) HA.out).mono ?_
     rintro e u9 ⟨b,rfl,hb1,hb⟩
     have HB1:=hide hb1
     clear hb1
     replace HBX:=hide (andthen HBX.out hb)
     replace HL:=hide (HL.out.keep hb)
     replace s0:=cell_keep hb s0
     replace s1:=cell_keep hb s1
     replace s2:=cell_keep hb s2
     replace s3:=cell_keep hb s3
     replace s4:=cell_keep hb s4
     replace s5:=cell_keep hb s5
     replace s6:=cell_keep hb s6
     replace d0:=cell_keep hb d0
     replace d1:=cell_keep hb d1
     replace d2:=cell_keep hb d2
     clear hb
     go_wp2_with fail
     all_goals
      go_ret3
      exact ⟨HE.out b HB1.out _ _ (by omega) (by omega),HBX.out⟩
end Go.Proofs.YtgihekokbgggcaaGreat

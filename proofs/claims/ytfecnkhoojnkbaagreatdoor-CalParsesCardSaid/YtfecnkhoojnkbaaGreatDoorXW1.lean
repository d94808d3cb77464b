import Derived.WalkSpells
import Derived.WalkLawsBesides
import Derived.Deep.RegionHeld3
import Derived.Test.YtfecnkhoojnkbaaGreatDoorXM1
import Derived.Test.YtfecnkhoojnkbaaGreatDoorXW4
set_option maxHeartbeats 8000000
set_option maxRecDepth 1000000
namespace Go.Proofs.YtfecnkhoojnkbaaGreatDoor
open Go.RowKit Tryz
theorem z0L {P:Program} {ops:Array Oper} {Q:Exit->Act->World->Prop} {md:Region.Mode} {S:World->Prop} {i:Nat} {o:Oper} {v:Value} {n:Nat} {l:Array Bool} {a:Act} {w:World} (h1:ops[i]?=some o) (h2:Region.noSelect ops=true) (h3:Region.free md ops l i=true) (h4:(Region.ready md ops l).contains i=true) (h5:∀ w,S w->Sem.run P (execOp a.eval o) w=Result.ok (Next.value v) w) (h6:S w) (h7:wpAnyH P md ops Q S n (l.setIfInBounds i true) (a.put o.dst v) w) (h8:Region.wanted o (yielded ops a.tmps)=true:=by rfl) (h9:∀ (c:List PanicEntry) (a:Act) (w:World),Q (Exit.panic c) (a.put o.dst v) w->Q (Exit.panic c) a w:=by exact fun _ _ _ h=>h):wpAnyH P md ops Q S (n+1) l a w:=wpAnyH_take h1 h2 h3 h4 h9 (Or.inl ⟨h8,h5⟩) h6 h7
theorem A5 {p:Prop} (h:p):Hid p:=h
theorem AA {a b:Bool} (h:a=b):Ending.returned (.bool a)=.returned (.bool b):=by rw [h]
theorem FZ {k:IntKind} {a b:Int} (h:a=b):Ending.returned (.int k a)=.returned (.int k b):=by rw [h]
theorem wL (y:Int) (w:World) :
  Calls prog 176 #[.int .i64 y] w fun e w'=>e=.returned (.bool (Cal.lpB y))/\w=w':=by
 by_cases h4:(y.tmod 4==0)=true
 all_goals
  go_enter func176,ntmps176
  go_wp2
  all_goals
   go_ret;exact ⟨AA (by simp_all [Cal.lpB]),rfl⟩
theorem MM (y m:Int) (h:m=1∨m=3∨m=5∨m=7∨m=8∨m=10∨m=12):31=Cal.dim y m:=by
 unfold Cal.dim;rw [if_pos h]
theorem V9 (y m:Int) (h:m=4∨m=6∨m=9∨m=11):30=Cal.dim y m:=by
 unfold Cal.dim;rw [if_neg (by omega),if_pos h]
theorem wM (y:Int) (h:Cal.lpB y=true):29=Cal.dim y 2:=by simp [Cal.dim,h]
theorem j8 (y:Int) (h:Cal.lpB y=false):28=Cal.dim y 2:=by simp [Cal.dim,h]
theorem dim_0 (y m:Int) (h:m<1∨12<m):0=Cal.dim y m:=(Cal.T0 y m h).symm
theorem JK (y m:Int) (w:World) :
  Calls prog 153 #[.int .i64 y,.int .i64 m] w fun e w'=>e=.returned (.int .i64 (Cal.dim y m))/\w=w':=by
 by_cases hm:m=2
 ·subst hm
  cases hb:Cal.lpB y
  all_goals
   go_enter func153,ntmps153;go_wp2_with (go_at_call 176;refine (wL _ _).mono ?_;rintro e w' ⟨rfl,rfl⟩);go_ret;exact ⟨FZ (by first|exact j8 y hb|exact wM y hb),rfl⟩
 ·go_enter func153,ntmps153;go_wp2_with fail
  all_goals
   go_ret;exact ⟨FZ (by simp only [beq_iff_eq,beq_eq_false_iff_ne,ne_eq] at *;first|exact MM y m (by omega)|exact V9 y m (by omega)|exact dim_0 y m (by omega)),rfl⟩
theorem below_drewN {B:Nat} {a w:World} (h:Below B a w) (n:Nat):Below B a (w.drewN n):=⟨h.os,h.tape,h.output,h.size,h.block⟩
theorem FL {P:Program} {f:FuncId} {args:Array Value} {w:World} {n:Nat} {v:Value}
  (h:Calls P f args (w.drewN n) fun e w'=>e=.returned v/\w.drewN n=w'):Calls P f args (w.drewN n) fun e w''=>e=.returned v/\∃ m,w''=w.drewN m :=
 h.mono fun _ _ ⟨he,hm⟩=>⟨he,n,hm.symm⟩
theorem JL {W w1:World} (hb:Below W.heap.size W w1):(∀ b o,b<W.heap.size->w1.cell? ⟨b,o,none⟩=W.cell? ⟨b,o,none⟩)/\(∀ b o,b<W.heap.size->w1.frozen? ⟨b,o,none⟩=W.frozen? ⟨b,o,none⟩) :=
 ⟨fun b o h=>hb.cell (p:=⟨b,o,none⟩) h,fun b o h=>hb.frozen (p:=⟨b,o,none⟩) h⟩
theorem A0D (y m d:Int) (h:1<=d):decide (d<=Cal.dim y m)=Cal.isB y m d:=by simp [Cal.isB,h]
theorem A2z (y m d:Int) (h:decide (1<=d)=false):false=Cal.isB y m d:=by simp [Cal.isB,h]
theorem OP (y m d:Int) (w:World) :
  Calls prog 269 #[.agg #[.int .i64 y,.int .i64 m,.int .i64 d]] w fun e w'=>e=.returned (.bool (Cal.isB y m d))/\Below w.heap.size w w':=by
 by_cases h:1<=d
 ·go_enter func269,ntmps269;go_wp2_with fail;go_quiet ((go_at_call 153;exact FL (JK _ _ _)))
  go_wp2
  go_ret;exact ⟨AA (A0D y m d h),below_drewN ((Below.refl _ _).alloc (Nat.le_refl _) _) _⟩
 ·have hd:decide (1<=d)=false:=by simpa using h
  go_enter func269,ntmps269;go_wp2_with fail;go_quiet ((go_at_call 153;exact FL (JK _ _ _)))
  go_wp2
  go_ret;exact ⟨AA (A2z y m d hd),below_drewN ((Below.refl _ _).alloc (Nat.le_refl _) _) _⟩
theorem wN (y:Int) (_h1:2000<=y) (_h2:y<=2099):(y-2000)*365+(y-2000+3) / 4=Cal.yst y:=by unfold Cal.yst;rfl
theorem O1 (y:Int) (w:World) (h1:2000<=y) (h2:y<=2099) :
  Calls prog 152 #[.int .i64 y] w fun e w'=>e=.returned (.int .i64 (Cal.yst y))/\w=w':=by
 go_enter func152,ntmps152
 go_wp2
 go_ret;exact ⟨FZ (wN y h1 h2),rfl⟩
theorem A0E (y d:Int):Cal.yst y+d-1=Cal.yst y+d-1+Cal.cum y 1:=by rw [Cal.H9];omega
theorem wO (y d k:Int) (h1:1<=k) (h2:k<=12):Cal.yst y+d-1+Cal.cum y k+Cal.dim y k=Cal.yst y+d-1+Cal.cum y (k+1):=by
 rw [Cal.JA y k h1 h2];omega
theorem A0F (y m d:Int):Cal.yst y+d-1+Cal.cum y m=Cal.num y m d:=by unfold Cal.num;omega
theorem pL (y m d:Int) (w:World) (h1:2000<=y) (h2:y<=2099) (hm1:1<=m) (hm2:m<=12) (hd1:1<=d) (hd2:d<=31) :
  Calls prog 270 #[.agg #[.int .i64 y,.int .i64 m,.int .i64 d]] w fun e w'=>e=.returned (.agg #[.int .i64 (Cal.num y m d)])/\Below w.heap.size w w':=by
 have hy:=Cal.U7 y h1 h2;go_enter func270,ntmps270;go_wp2_with fail;go_quiet ((go_at_call 152;exact FL (O1 _ _ h1 h2)));go_wp2_with fail
 go_loop [3,4] (fun n i=>∃ k:Int,1<=k/\k<=m/\i=.int .i64 k/\n=.int .i64 (Cal.yst y+d-1+Cal.cum y k)) (fun _ i=>(12-intOf i).toNat)
 case atStart=>exact ⟨1,by omega,hm1,rfl,by rw [<- A0E]⟩
 case round =>
  obtain ⟨k,hk1,hk2,rfl,rfl⟩:=hrel;have hc:=Cal.QL y k hk1 (by omega);have hl:=Cal.KZ y k
  by_cases hlt:k<m
  ·have HS:=A5 (wO y d k hk1 (by omega));go_wp2_with (go_at_call 153;refine (JK _ _ _).mono ?_;rintro e w' ⟨rfl,rfl⟩)
   go_round
   case rel=>exact ⟨k+1,by omega,by omega,rfl,by rw [HS.out]⟩
   case measure=>simp [intOf];omega
  ·obtain rfl:k=m:=by omega
   go_wp2
   refine bodyPost_ret (v:=.agg #[.int .i64 (Cal.yst y+d-1+Cal.cum y k)]) (by simp [results,Tryz.results270,go_sem]) rfl ⟨by rw [A0F],?_⟩;exact (below_drewN (((Below.refl _ _).alloc (Nat.le_refl _) _).alloc (by simp) _) _).setCell (by simp) _
def IP (y m d:Int):Int×Int:=if Cal.isB y m d then (if 2000<=y/\y<=2099 then (Cal.num y m d,0) else (0,10)) else (0,11)
theorem Q0 (y m d:Int) (h:Cal.isB y m d=false):IP y m d=(0,11):=by simp [IP,h]
theorem LD (y m d:Int) (h:Cal.isB y m d=true) (hy:y<2000∨2099<y):IP y m d=(0,10):=by
 unfold IP;rw [if_pos h,if_neg (by omega)]
theorem RE (y m d:Int) (h:Cal.isB y m d=true) (h1:2000<=y) (h2:y<=2099):IP y m d=(Cal.num y m d,0):=by
 unfold IP;rw [if_pos h,if_pos ⟨h1,h2⟩]
theorem mF (b:Bool) (y m d:Int) (w:World) (h:Cal.isB y m d=b) :
  Calls prog 269 #[.agg #[.int .i64 y,.int .i64 m,.int .i64 d]] w fun e w'=>e=.returned (.bool b)/\Below w.heap.size w w':=by
 subst h;exact OP y m d w
theorem pM (n:Int) (w:World):(Instr.field 155 (.agg #[.int .i64 n]) 0).run prog w=.ok (.int .i64 n) w:=by kernel_rfl
theorem ZI (n:Int) (w:World):(Instr.field 154 (.agg #[.int .i64 n]) 0).run prog w=.ok (.int .i64 n) w:=by kernel_rfl
theorem j9 (y m d:Int) (w:World) :
  Calls prog 249 #[.agg #[.int .i64 y,.int .i64 m,.int .i64 d]] w fun e w'=>e=.returned (.tuple #[.int .i64 (IP y m d).1,.int .i64 (IP y m d).2])/\Below w.heap.size w w':=by
 cases hb:Cal.isB y m d
 ·rw [Q0 y m d hb];have HB:=A5 hb;clear hb;go_enter func249,ntmps249;go_wp2_with (go_at_call 269;refine (mF false _ _ _ _ HB.out).mono ?_;rintro e w' ⟨rfl,hb1⟩);go_ret2;exact ⟨rfl,((Below.refl _ _).alloc (Nat.le_refl _) _).trans (hb1.mono (by simp))⟩
 ·have hm:=Cal.MZ hb;have hd:=(Cal.L0 y m d).1 hb;have hd2:=Cal.KZ y m;have HB:=A5 hb
  by_cases h1:y<2000
  ·rw [LD y m d hb (.inl h1)];clear hb;go_enter func249,ntmps249;go_wp2_with (go_at_call 269;refine (mF true _ _ _ _ HB.out).mono ?_;rintro e w' ⟨rfl,hb1⟩;obtain ⟨hc,hf⟩:=JL hb1);go_ret2;exact ⟨rfl,((Below.refl _ _).alloc (Nat.le_refl _) _).trans (hb1.mono (by simp))⟩
  ·by_cases h2:2099<y
   ·rw [LD y m d hb (.inr h2)];clear hb;go_enter func249,ntmps249;go_wp2_with (go_at_call 269;refine (mF true _ _ _ _ HB.out).mono ?_;rintro e w' ⟨rfl,hb1⟩;obtain ⟨hc,hf⟩:=JL hb1);go_ret2;exact ⟨rfl,((Below.refl _ _).alloc (Nat.le_refl _) _).trans (hb1.mono (by simp))⟩
   ·rw [RE y m d hb (by omega) (by omega)];clear hb;go_enter func249,ntmps249;go_wp2_with fail;refine (mF true _ _ _ _ HB.out).mono ?_;rintro e w' ⟨rfl,hb1⟩;obtain ⟨hc,hf⟩:=JL hb1;go_wp2_with fail;refine (pL y m d _ (by omega) (by omega) (by omega) (by omega) (by omega) (by omega)).mono ?_;rintro e w2 ⟨rfl,hb2⟩;clear hc hf hd hd2 hm h1 h2 HB;have hfd:=pM;go_wp2_with fail;go_ret2;exact ⟨rfl,(((Below.refl _ _).alloc (Nat.le_refl _) _).trans (hb1.mono (by simp))).trans (hb2.mono (by have:=hb1.size;simp at this;omega))⟩
theorem VA (y r k:Int) (hk1:1<=k) (hk2:k<=12) (h1:0<=r-Cal.cum y k) (h2:¬ Cal.dim y k<=r-Cal.cum y k):Cal.mAt y r=k:=by
 have hs:=Cal.JA y k hk1 hk2;exact Cal.A2h _ _ k hk1 hk2 (by omega) (by omega)
theorem OQ (y r k:Int) (hhi:r<Cal.cum y 13) (hk1:1<=k) (hk2:k<=12) (h:Cal.dim y k<=r-Cal.cum y k):k+1<=12/\0<=r-Cal.cum y (k+1):=by
 have hs:=Cal.JA y k hk1 hk2;refine ⟨?_,by omega⟩
 by_cases e:k=12
 ·subst e;have:Cal.cum y (12+1)=Cal.cum y 13:=rfl;omega
 ·omega
theorem OR (y r k:Int) (hk1:1<=k) (hk2:k<=12):r-Cal.cum y k-Cal.dim y k=r-Cal.cum y (k+1):=by
 rw [Cal.JA _ _ hk1 hk2];omega
theorem pN (n y:Int) (w:World) (h1:0<=n) (h2:n<36525) (hy:2000+n*4 / 1461=y) (hy1:2000<=y) (hy2:y<=2099) (hlo:Cal.yst y<=n) (hhi:n-Cal.yst y<Cal.cum y 13) :
  Calls prog 122 #[.agg #[.int .i64 n]] w fun e w'=>e=.returned (.agg #[.int .i64 y,.int .i64 (Cal.mAt y (n-Cal.yst y)),.int .i64 (n-Cal.yst y-Cal.cum y (Cal.mAt y (n-Cal.yst y))+1)])/\Below w.heap.size w w':=by
 have hyb:=Cal.U7 y hy1 hy2;have HY:=A5 hy;clear hy;go_enter func122,ntmps122;go_wp2_with fail;rw [HY.out];go_quiet ((go_at_call 152;exact FL (O1 _ _ hy1 hy2)));go_wp2_with fail
 go_loop [4,5] (fun r i=>∃ k:Int,1<=k/\k<=12/\i=.int .i64 k/\0<=n-Cal.yst y-Cal.cum y k/\r=.int .i64 (n-Cal.yst y-Cal.cum y k)) (fun _ i=>(12-intOf i).toNat)
 case atStart=>exact ⟨1,by omega,by omega,rfl,by rw [Cal.H9];omega,by rw [Cal.H9,Int.sub_zero]⟩
 case round =>
  obtain ⟨k,hk1,hk2,rfl,hr,rfl⟩:=hrel;have hc:=Cal.QL y k hk1 (by omega);have hl:=Cal.KZ y k
  by_cases hd:Cal.dim y k<=n-Cal.yst y-Cal.cum y k
  ·have hst:=OQ y _ k hhi hk1 hk2 hd;have HN:=A5 (OR y (n-Cal.yst y) k hk1 hk2);go_wp2_with (go_at_call 153;refine (JK _ _ _).mono ?_;rintro e w' ⟨rfl,rfl⟩)
   go_round
   case rel=>exact ⟨k+1,by omega,by omega,rfl,hst.2,by rw [HN.out]⟩
   case measure=>simp [intOf];omega
  ·have HM:=A5 (VA y (n-Cal.yst y) k hk1 hk2 hr hd);go_wp2_with (go_at_call 153;refine (JK _ _ _).mono ?_;rintro e w' ⟨rfl,rfl⟩);rw [HM.out];refine bodyPost_ret (v:=.agg #[.int .i64 y,.int .i64 k,.int .i64 (n-Cal.yst y-Cal.cum y k+1)]) (by simp [results,Tryz.results122,go_sem]) rfl ⟨rfl,?_⟩
   repeat (first|exact Below.refl _ _|refine below_drewN ?_ _|refine Below.setCell ?_ (by simp) _|refine Below.alloc ?_ (by simp) _)
theorem wP (n:Int) (w:World) (h1:0<=n) (h2:n<36525) :
  Calls prog 122 #[.agg #[.int .i64 n]] w fun e w'=>e=.returned (.agg #[.int .i64 (Cal.yOf n),.int .i64 (Cal.mOf n),.int .i64 (Cal.dOf n)])/\Below w.heap.size w w':=by
 have hb:=Cal.MC n h1 h2;have hy:=Cal.T8 n h1 h2;have hs:=Cal.MB (Cal.yOf n) hb.1 hb.2;exact pN n (Cal.yOf n) w h1 h2 rfl hb.1 hb.2 hy.1 (by omega)
def I64 (n:Int):Prop:=-9223372036854775808<=n/\n<=9223372036854775807
theorem mG (n s:Int) (hn:I64 n) (h1:0<s):I64 (n.tdiv s):=by
 unfold I64 at *;rcases Int.lt_or_le n 0 with g|g
 ·have e:n.tdiv s=-((-n).tdiv s):=by rw [Int.neg_tdiv];omega
  rw [e,Int.tdiv_eq_ediv_of_nonneg (by omega)];have a:=Int.ediv_nonneg (a:=-n) (b:=s) (by omega) (by omega);have b:=Int.ediv_le_self (a:=-n) s (by omega);omega
 ·rw [Int.tdiv_eq_ediv_of_nonneg g];have a:=Int.ediv_nonneg (a:=n) (b:=s) (by omega) (by omega);have b:=Int.ediv_le_self (a:=n) s (by omega);omega
theorem pO (n s:Int) (h1:0<s) (h:¬ n.tmod s<0):n.tmod s=n % s/\n.tdiv s=n / s:=by
 have hm:n.tmod s=n % s:=by
  rcases Int.lt_or_le n 0 with g|g
  ·have h0:n.tmod s<=0:=by
    have e:n.tmod s=-((-n).tmod s):=by rw [Int.neg_tmod];omega
    rw [e,Int.tmod_eq_emod_of_nonneg (by omega)];have:=Int.emod_nonneg (-n) (b:=s) (by omega);omega
   have h0':n.tmod s=0:=by omega
   have hd:s ∣ n:=Int.dvd_of_tmod_eq_zero h0';rw [h0',Int.emod_eq_zero_of_dvd hd]
  ·exact Int.tmod_eq_emod_of_nonneg g
 refine ⟨hm,?_⟩;have a:=Int.mul_tdiv_add_tmod n s;have b:=Int.mul_ediv_add_emod n s;rw [hm] at a;have c:s*n.tdiv s=s*(n / s):=by omega
 exact Int.eq_of_mul_eq_mul_left (by omega) c
theorem pP (n s:Int) (h1:0<s) (h:n.tmod s<0):n.tmod s+s=n % s/\n.tdiv s-1=n / s:=by
 have hl:-s<n.tmod s:=by
  have:=Int.lt_tmod_of_pos n h1;omega
 have a:=Int.mul_tdiv_add_tmod n s;have e:n=s*(n.tdiv s-1)+(n.tmod s+s):=by rw [Int.mul_sub];omega
 have hr:0<=n.tmod s+s:=by omega
 have hr2:n.tmod s+s<s:=by omega
 have u:=(Int.ediv_emod_unique (a:=n) (b:=s) (r:=n.tmod s+s) (q:=n.tdiv s-1) h1).2 ⟨by rw [Int.add_comm];exact e.symm,hr,hr2⟩;exact ⟨u.2.symm,u.1.symm⟩
theorem NA (n:Int) (h:I64 n):wrap64 n=n:=by
 unfold I64 at h;unfold wrap64;omega
theorem pQ (n s:Int) (hn:I64 n) (h1:0<s) (h2:s<1000000) (hq:I64 (n / s)) (h:n.tmod s<0):wrap64 (wrap64 (n.tdiv s)-1)=n / s/\wrap64 (n.tmod s+s)=n % s:=by
 have a:=pP n s h1 h;have b0:=Int.emod_nonneg n (b:=s) (by omega);have b1:=Int.emod_lt_of_pos n h1;rw [NA _ (mG n s hn h1),a.2,a.1];exact ⟨NA _ hq,NA _ (by unfold I64;omega)⟩
theorem pR (n s:Int) (hn:I64 n) (h1:0<s) (h:0<=n.tmod s):wrap64 (n.tdiv s)=n / s/\n.tmod s=n % s:=by
 have a:=pO n s h1 (by omega);have q:=mG n s hn h1;rw [NA _ q];exact ⟨a.2,a.1⟩
theorem mI {k:IntKind} {a b c d:Int} (h:a=b/\c=d):Ending.returned (.tuple #[.int k a,.int k c])=.returned (.tuple #[.int k b,.int k d]):=by rw [h.1,h.2]
theorem pS (n:Int) (w:World) (hn:I64 n) :
  Calls prog 151 #[.int .i64 n,.int .i64 1440] w fun e w'=>e=.returned (.tuple #[.int .i64 (n / 1440),.int .i64 (n % 1440)])/\∃ q,w'=w.drewN q:=by
 go_enter func151,ntmps151;go_wp2_with fail;go_quiet (fail);go_wp2_with fail
 ·have h:n.tmod 1440<0:=by assumption
  go_ret2;exact ⟨mI (pQ n 1440 hn (by omega) (by omega) (by unfold I64 at *;omega) h),_,rfl⟩
 ·have h:0<=n.tmod 1440:=by assumption
  go_ret2;exact ⟨mI (pR n 1440 hn (by omega) h),_,rfl⟩
theorem pT (n c:Int) (w:World) (h1:0<=n) (h2:n<c) :
  Calls prog 150 #[.int .i64 n,.int .i64 c] w fun e w'=>e=.returned (.bool true)/\w=w':=by
 go_enter func150,ntmps150;go_wp2_with fail;go_ret;exact ⟨AA (by simp),rfl⟩
theorem wQ (n c:Int) (w:World) (h:n<0∨c<=n) :
  Calls prog 150 #[.int .i64 n,.int .i64 c] w fun e w'=>e=.returned (.bool false)/\w=w':=by
 rcases h with h|h
 ·go_enter func150,ntmps150;go_wp2_with fail;go_ret;exact ⟨AA (by simp),rfl⟩
 ·go_enter func150,ntmps150;go_wp2_with fail
  all_goals
   go_ret;exact ⟨AA (by simp [h]),rfl⟩
theorem jA (n:Int) (w:World) (h1:0<=n) (h2:n<52596000) :
  Calls prog 120 #[.agg #[.int .i64 n]] w fun e w'=>e=.returned (.bool true)/\Below w.heap.size w w':=by
 go_enter func120,ntmps120;go_wp2_with (go_at_call 150;refine (pT _ _ _ (by omega) (by omega)).mono ?_;rintro e w' ⟨rfl,rfl⟩);go_ret;exact ⟨rfl,(Below.refl _ _).alloc (Nat.le_refl _) _⟩
theorem pU (n:Int) (w:World) (h:n<0∨52596000<=n) :
  Calls prog 120 #[.agg #[.int .i64 n]] w fun e w'=>e=.returned (.bool false)/\Below w.heap.size w w':=by
 have H:=A5 h;clear h;go_enter func120,ntmps120;go_wp2_with (go_at_call 150;refine (wQ _ _ _ H.out).mono ?_;rintro e w' ⟨rfl,rfl⟩);go_ret;exact ⟨rfl,(Below.refl _ _).alloc (Nat.le_refl _) _⟩
theorem ZJ (a h m:Int) (w:World) (ha:0<=a) (ha2:a<36525) (hh:0<=h) (hh2:h<=23) (hm:0<=m) (hm2:m<=59) :
  Calls prog 250 #[.int .i64 a,.int .i64 h,.int .i64 m] w fun e w'=>e=.returned (.agg #[.int .i64 (a*1440+h*60+m)])/\Below w.heap.size w w':=by
 go_enter func250,ntmps250;go_wp2_with fail;refine bodyPost_ret (v:=.agg #[.int .i64 (a*1440+h*60+m)]) (by simp [results,Tryz.results250,go_sem]) rfl ⟨rfl,?_⟩
 repeat (first|exact Below.refl _ _|refine below_drewN ?_ _|refine Below.setCell ?_ (by simp) _|refine Below.alloc ?_ (by simp) _)
theorem RF (y m d a c:Int) (w:World) (h:IP y m d=(a,c)) :
  Calls prog 249 #[.agg #[.int .i64 y,.int .i64 m,.int .i64 d]] w fun e w'=>e=.returned (.tuple #[.int .i64 a,.int .i64 c])/\Below w.heap.size w w':=by
 have:=j9 y m d w;rw [h] at this;exact this
def XS (h m:Int):Bool:=decide (0<=h)&&decide (h<=23)&&decide (0<=m)&&decide (m<=59)
theorem J5 (h m:Int):XS h m=true↔0<=h/\h<=23/\0<=m/\m<=59:=by simp [XS,and_assoc]
def IJ (y mo d h m:Int):Int×Int:=if (IP y mo d).2=0 then (if XS h m then ((IP y mo d).1*1440+h*60+m,0) else (0,11)) else (0,(IP y mo d).2)
theorem jB (y mo d h m c:Int) (w:World) (hn:IP y mo d=(0,c)) (hc:(c==0)=false) :
  Calls prog 236 #[.agg #[.int .i64 y,.int .i64 mo,.int .i64 d],.int .i64 h,.int .i64 m] w fun e w'=>e=.returned (.tuple #[.int .i64 0,.int .i64 c])/\Below w.heap.size w w':=by
 have H:=A5 hn;clear hn;have hc':(c != 0)=true:=by simp [bne,hc]
 go_enter func236,ntmps236;go_wp2_with fail;refine (RF y mo d 0 c _ H.out).mono ?_;rintro e w1 ⟨rfl,hb1⟩;go_wp2_with fail;go_ret2;refine ⟨rfl,?_⟩
 repeat (first|exact Below.refl _ _|refine Below.trans ?_ (hb1.mono (by simp))|refine below_drewN ?_ _|refine Below.setCell ?_ (by simp) _|refine Below.alloc ?_ (by simp) _)
theorem eD (y mo d h m a:Int) (w:World) (hn:IP y mo d=(a,0)) (ht:h<0∨23<h∨m<0∨59<m) :
    Calls prog 236 #[.agg #[.int .i64 y,.int .i64 mo,.int .i64 d],.int .i64 h,.int .i64 m] w fun e w'=>e=.returned (.tuple #[.int .i64 0,.int .i64 11])/\Below w.heap.size w w':=by
  have H:=A5 hn;clear hn
  by_cases c1:h<0 <;> by_cases c2:23<h <;> by_cases c3:m<0 <;> by_cases c4:59<m
  all_goals first
    | omega
    | (clear ht
       go_enter func236,ntmps236;go_wp2_with fail;refine (RF y mo d a 0 _ H.out).mono ?_;rintro e w1 ⟨rfl,hb1⟩;go_wp2_with fail;go_ret2;refine ⟨rfl,?_⟩
       repeat (first|exact Below.refl _ _|refine Below.trans ?_ (hb1.mono (by simp))|refine below_drewN ?_ _|refine Below.setCell ?_ (by simp) _|refine Below.alloc ?_ (by simp) _))
theorem pV (y mo d h m a:Int) (w:World) (hn:IP y mo d=(a,0)) (ha:0<=a) (ha2:a<36525) (hh:0<=h) (hh2:h<=23) (hm:0<=m) (hm2:m<=59) :
  Calls prog 236 #[.agg #[.int .i64 y,.int .i64 mo,.int .i64 d],.int .i64 h,.int .i64 m] w fun e w'=>e=.returned (.tuple #[.int .i64 (a*1440+h*60+m),.int .i64 0])/\Below w.heap.size w w':=by
 have H:=A5 hn;clear hn;have hfd:=ZI;go_enter func236,ntmps236;go_wp2_with fail;refine (RF y mo d a 0 _ H.out).mono ?_;rintro e w1 ⟨rfl,hb1⟩;go_wp2_with fail;refine (ZJ a h m _ ha ha2 hh hh2 hm hm2).mono ?_;rintro e w2 ⟨rfl,hb2⟩;go_wp2_with fail;go_ret2;have hz:=hb1.size;refine ⟨rfl,?_⟩
 repeat (first|exact Below.refl _ _|refine Below.trans ?_ (hb2.mono (by simp at hz;omega))|refine Below.trans ?_ (hb1.mono (by simp))|refine below_drewN ?_ _|refine Below.setCell ?_ (by simp) _|refine Below.alloc ?_ (by simp) _)
theorem VB (y m d:Int):(∃ c,IP y m d=(0,c)/\(c=10∨c=11))∨(∃ a,IP y m d=(a,0)/\0<=a/\a<36525):=by
 cases hb:Cal.isB y m d
 ·exact .inl ⟨11,Q0 y m d hb,.inr rfl⟩
 ·by_cases h1:y<2000∨2099<y
  ·exact .inl ⟨10,LD y m d hb h1,.inl rfl⟩
  ·have:=Cal.u9 y m d (by omega) (by omega) hb;exact .inr ⟨_,RE y m d hb (by omega) (by omega),this.1,this.2⟩
theorem jC (y mo d h m:Int) (w:World) :
  Calls prog 236 #[.agg #[.int .i64 y,.int .i64 mo,.int .i64 d],.int .i64 h,.int .i64 m] w fun e w'=>e=.returned (.tuple #[.int .i64 (IJ y mo d h m).1,.int .i64 (IJ y mo d h m).2])/\Below w.heap.size w w':=by
 rcases VB y mo d with ⟨c,hn,hc⟩|⟨a,hn,ha,ha2⟩
 ·have e:IJ y mo d h m=(0,c):=by unfold IJ;rw [hn];simp only;rw [if_neg (by omega)]
  rw [e];exact jB y mo d h m c w hn (by rcases hc with rfl|rfl <;> rfl)
 ·by_cases ht:XS h m=true
  ·have e:IJ y mo d h m=(a*1440+h*60+m,0):=by unfold IJ;rw [hn];simp only;rw [if_pos trivial,if_pos ht]
   rw [e];rw [J5] at ht;exact pV y mo d h m a w hn ha ha2 ht.1 ht.2.1 ht.2.2.1 ht.2.2.2
  ·have e:IJ y mo d h m=(0,11):=by unfold IJ;rw [hn];simp only;rw [if_pos trivial,if_neg ht]
   rw [e];rw [J5] at ht;exact eD y mo d h m a w hn (by omega)
theorem wR (n:Int) (w:World) (h1:0<=n) (h2:n<52596000) :
  Calls prog 121 #[.agg #[.int .i64 n]] w fun e w'=>e=.returned (.tuple #[.agg #[.int .i64 (n / 1440)],.int .i64 (n % 1440 / 60),.int .i64 (n % 60)])/\Below w.heap.size w w':=by
 go_enter func121,ntmps121;go_wp2_with fail;refine (pS n _ (by unfold I64;omega)).mono ?_;rintro e w1 ⟨rfl,q,rfl⟩;go_wp2_with fail;refine bodyPost_ret (v:=.tuple #[.agg #[.int .i64 (n / 1440)],.int .i64 (n % 1440 / 60),.int .i64 (n % 60)]) (by simp [results,Tryz.results121,go_sem]) rfl ⟨rfl,?_⟩
 repeat (first|exact Below.refl _ _|refine below_drewN ?_ _|refine Below.setCell ?_ (by simp) _|refine Below.alloc ?_ (by simp) _)
theorem eE (n:Int) (w:World) (h:n<0∨52596000<=n) :
  Calls prog 85 #[.int .i64 n] w fun e w'=>e=.returned (.tuple #[.agg #[.int .i64 0,.int .i64 0,.int .i64 0],.int .i64 0,.int .i64 0,.int .i64 10])/\Below w.heap.size w w':=by
 have H:=A5 h;clear h;go_enter func85,ntmps85;go_wp2_with fail;refine (pU n _ H.out).mono ?_;rintro e w1 ⟨rfl,hb1⟩;obtain ⟨hc,hf⟩:=JL hb1;go_wp2_with fail;have e0:w1.cell? ⟨w.heap.size,0,none⟩=some (.int .i64 0):=by rw [hc _ _ (by simp;omega)];simp
 have e1:w1.cell? ⟨w.heap.size,1,none⟩=some (.int .i64 0):=by rw [hc _ _ (by simp;omega)];simp
 have e2:w1.cell? ⟨w.heap.size,2,none⟩=some (.int .i64 0):=by rw [hc _ _ (by simp;omega)];simp
 refine bodyPost_ret (v:=.tuple #[.agg #[.int .i64 0,.int .i64 0,.int .i64 0],.int .i64 0,.int .i64 0,.int .i64 10]) (by simp [results,Tryz.results85,go_sem,e0,e1,e2]) rfl ⟨rfl,?_⟩
 repeat (first|exact Below.refl _ _|refine Below.trans ?_ (hb1.mono (by simp;omega))|refine below_drewN ?_ _|refine Below.setCell ?_ (by simp) _|refine Below.alloc ?_ (by simp) _)
theorem XT (n:Int) (w:World) (h1:0<=n) (h2:n<52596000) :
  Calls prog 85 #[.int .i64 n] w fun e w'=>e=.returned (.tuple #[.agg #[.int .i64 (Cal.yOf (n / 1440)),.int .i64 (Cal.mOf (n / 1440)),.int .i64 (Cal.dOf (n / 1440))],.int .i64 (n % 1440 / 60),.int .i64 (n % 60),.int .i64 0])/\Below w.heap.size w w':=by
 have hd1:0<=n / 1440:=by omega
 have hd2:n / 1440<36525:=by omega
 go_enter func85,ntmps85;go_wp2_with fail;refine (jA n _ h1 h2).mono ?_;rintro e w1 ⟨rfl,hb1⟩;obtain ⟨hc,hf⟩:=JL hb1;have hz0:w.heap.size<w1.heap.size:=by have:=hb1.size;simp at this;omega
 have hz1:w.heap.size+1<w1.heap.size:=by have:=hb1.size;simp at this;omega
 go_wp2_with fail;refine (wR n _ h1 h2).mono ?_;rintro e w2 ⟨rfl,hb2⟩;obtain ⟨hc2,hf2⟩:=JL hb2;have hz20:w.heap.size<w2.heap.size:=by have:=hb2.size;omega
 go_wp2_with fail;refine (wP (n / 1440) _ hd1 hd2).mono ?_;rintro e w3 ⟨rfl,hb3⟩;obtain ⟨hc3,hf3⟩:=JL hb3;go_wp2_with fail;have hz30:w.heap.size<w3.heap.size:=by have:=hb3.size;simp at this;omega
 have e0:w3.cell? ⟨w.heap.size,0,none⟩=some (.int .i64 0):=by rw [hc3 _ _ (by simp;omega),World.cell?_alloc_past _ _ _ hz20,hc2 _ _ hz0,hc _ _ (by simp;omega)];simp
 have e1:w3.cell? ⟨w.heap.size,1,none⟩=some (.int .i64 0):=by rw [hc3 _ _ (by simp;omega),World.cell?_alloc_past _ _ _ hz20,hc2 _ _ hz0,hc _ _ (by simp;omega)];simp
 have e2:w3.cell? ⟨w.heap.size,2,none⟩=some (.int .i64 0):=by rw [hc3 _ _ (by simp;omega),World.cell?_alloc_past _ _ _ hz20,hc2 _ _ hz0,hc _ _ (by simp;omega)];simp
 refine bodyPost_ret (v:=.tuple #[.agg #[.int .i64 (Cal.yOf (n / 1440)),.int .i64 (Cal.mOf (n / 1440)),.int .i64 (Cal.dOf (n / 1440))],.int .i64 (n % 1440 / 60),.int .i64 (n % 60),.int .i64 0]) (by simp [results,Tryz.results85,go_sem,e0,e1,e2]) rfl ⟨rfl,?_⟩
 repeat (first|exact Below.refl _ _|refine Below.trans ?_ (hb3.mono (by simp;omega))|refine Below.trans ?_ (hb2.mono (by omega))|refine Below.trans ?_ (hb1.mono (by simp;omega))|refine below_drewN ?_ _|refine Below.setCell ?_ (by simp) _|refine Below.alloc ?_ (by first|(simp;done)|omega) _)
def Tab (w:World):Prop := Lib.TabIs prog w "internal/strconv.uint64pow10" .u64 Lib.pow10Tab
theorem A1L (u:Nat) (h:u<10):Lib.decDigits u=[dg u]:=by
 rw [Lib.decDigits,dif_pos h];rfl
theorem A1M (u:Nat) (h1:10<=u) (h2:u<100):Lib.decDigits u=two u:=by
 rw [Lib.decDigits,dif_neg (by omega),A1L (u / 10) (by omega)];rfl
theorem dec_4 (u:Nat) (h1:2000<=u) (h2:u<2100):Lib.decDigits u=[50,48]++two (u-2000):=by
 rw [Lib.decDigits,dif_neg (by omega),Lib.decDigits,dif_neg (by omega),A1M (u / 10 / 10) (by omega) (by omega)];unfold two;have e1:u / 10 / 10 / 10=2:=by omega
 have e2:u / 10 / 10 % 10=0:=by omega
 have e3:u / 10 % 10=(u-2000) / 10:=by omega
 have e4:u % 10=(u-2000) % 10:=by omega
 rw [e1,e2,e3,e4];rfl
theorem two_1 (u:Nat) (h:u<10):[48]++[dg u]=two u:=by
 unfold two;rw [Nat.div_eq_of_lt h,Nat.mod_eq_of_lt h];rfl
theorem A2A (u:Nat) (h:u<10) (w:World) :
  Calls prog 58 #[.int .i64 u] w fun e w'=>e=.returned (.string (str [dg u]))/\w=w' :=
 (Tryz.strconv_Itoa_small u (by omega) w).mono fun e w' ⟨he,hw⟩=>⟨by rw [he,A1L u h];rfl,hw.symm⟩
theorem A2B (u:Nat) (h1:10<=u) (h2:u<100) (w:World) :
  Calls prog 58 #[.int .i64 u] w fun e w'=>e=.returned (.string (str (two u)))/\w=w' :=
 (Tryz.strconv_Itoa_small u (by omega) w).mono fun e w' ⟨he,hw⟩=>⟨by rw [he,A1M u h1 h2];rfl,hw.symm⟩
theorem SJ (w:World) (k:Nat) (os:Array Obj):Below w.heap.size w (Sort.grow (w.drewN k) os):=by
 refine ⟨rfl,rfl,rfl,?_,?_⟩
 ·simp [Sort.grow]
 ·intro i hi;simp only [Sort.grow];exact Array.getElem?_append_left (by simpa using hi)
theorem A2C (u:Nat) (h1:2000<=u) (h2:u<2100) (w:World) (ht:Tab w) :
  Calls prog 58 #[.int .i64 u] w fun e w'=>e=.returned (.string (str ([50,48]++two (u-2000))))/\Below w.heap.size w w' :=
 (Tryz.strconv_Itoa u (by omega) (by omega) w ht).mono fun e w' ⟨he,k,os,hw⟩=>⟨by
  have e1:Lib.itoa (u:Int)=Lib.decDigits u:=Lib.itoa_nonneg u;rw [he,e1,dec_4 u h1 h2];rfl,by rw [hw];exact SJ w k os⟩
theorem eF (s:ByteArray) (n:Int) (w:World) (h:n=0) :
  Calls prog 123 #[.string s,.int .i64 n] w fun e w'=>e=.returned (.string (str []))/\w=w':=by
 subst h;exact (Tryz.strings_Repeat_zero s w).mono fun _ _ ⟨he,hw⟩=>⟨he,hw.symm⟩
theorem wS (s:ByteArray) (n:Int) (w:World) (h:n=1) :
  Calls prog 123 #[.string s,.int .i64 n] w fun e w'=>e=.returned (.string s)/\w=w':=by
 subst h;exact (Tryz.strings_Repeat_one s w).mono fun _ _ ⟨he,hw⟩=>⟨he,hw.symm⟩
theorem wT:(⟨#[48]⟩:ByteArray)=str [48]:=rfl
theorem wU (u:Nat) (h:u<10) (w:World) :
  Calls prog 86 #[.int .i64 u,.int .i64 2] w fun e w'=>e=.returned (.string (str (two u)))/\w=w':=by
 have hs:(str [dg u]).size=1:=by rw [AB];rfl
 go_enter func86,ntmps86;go_wp2_with fail;refine (A2A u h _).mono ?_;rintro e w1 ⟨rfl,rfl⟩;go_wp2_with fail;refine (wS _ _ _ (by decide)).mono ?_;rintro e w1 ⟨rfl,rfl⟩;go_wp2_with fail;go_ret;exact ⟨DA (by rw [wT,AM,two_1 u h]),rfl⟩
theorem wV (u:Nat) (h1:10<=u) (h2:u<100) (w:World) :
  Calls prog 86 #[.int .i64 u,.int .i64 2] w fun e w'=>e=.returned (.string (str (two u)))/\w=w':=by
 have hs:(str (two u)).size=2:=by rw [AB];rfl
 go_enter func86,ntmps86;go_wp2_with fail;refine (A2B u h1 h2 _).mono ?_;rintro e w1 ⟨rfl,rfl⟩;go_wp2_with fail;refine (eF _ _ _ (by decide)).mono ?_;rintro e w1 ⟨rfl,rfl⟩;go_wp2_with fail;go_ret;exact ⟨DA (by rw [AM];rfl),rfl⟩
theorem wW (u:Nat) (h1:2000<=u) (h2:u<2100) (w:World) (ht:Tab w) :
  Calls prog 86 #[.int .i64 u,.int .i64 4] w fun e w'=>e=.returned (.string (str ([50,48]++two (u-2000))))/\Below w.heap.size w w':=by
 have hs:(str ([50,48]++two (u-2000))).size=4:=by rw [AB];rfl
 generalize hl:[50,48]++two (u-2000)=l at *;have HL:=A5 hl;clear hl;go_enter func86,ntmps86;go_wp2_with fail;refine (A2C u h1 h2 _ ht).mono ?_;rw [HL.out];rintro e w1 ⟨rfl,hb⟩;go_wp2_with fail;refine (eF _ _ _ (by decide)).mono ?_;rintro e w2 ⟨rfl,rfl⟩;go_wp2_with fail;go_ret;exact ⟨DA (by rw [AM];rfl),hb⟩
theorem jD (n:Int) (w:World) (h1:0<=n) (h2:n<100) :
  Calls prog 86 #[.int .i64 n,.int .i64 2] w fun e w'=>e=.returned (.string (str (two n.toNat)))/\w=w':=by
 obtain ⟨u,rfl⟩:=Int.eq_ofNat_of_zero_le h1;rw [Int.toNat_natCast]
 by_cases h:u<10
 ·exact wU u h w
 ·exact wV u (by omega) (by omega) w
theorem eG (n:Int) (w:World) (h1:2000<=n) (h2:n<=2099) (ht:Tab w) :
  Calls prog 86 #[.int .i64 n,.int .i64 4] w fun e w'=>e=.returned (.string (str ([50,48]++two (n-2000).toNat)))/\Below w.heap.size w w':=by
 obtain ⟨u,rfl⟩:=Int.eq_ofNat_of_zero_le (a:=n) (by omega);rw [show ((u:Int)-2000).toNat=u-2000 from by omega];exact wW u (by omega) (by omega) w ht
theorem OS:prog.globalNamed "internal/strconv.uint64pow10"=some 5 := by kernel_rfl
theorem Tab.lt {w:World} (h:Tab w):5<w.heap.size:=by
 unfold Tab Lib.TabIs World.var? at h;rw [OS] at h;simp only [Option.bind_some] at h
 apply Classical.byContradiction
 intro hn;rw [Array.getElem?_eq_none (by omega)] at h
 cases h
theorem Tab.below {B:Nat} {w w':World} (h:Tab w) (hb:Below B w w') (hB:w.heap.size<=B):Tab w' :=
 var?_below hb OS (Nat.lt_of_lt_of_le h.lt hB) h
theorem Tab.alloc {w:World} (h:Tab w) (o:Obj):Tab (w.alloc o):=h.below ((Below.refl _ _).alloc (Nat.le_refl _) o) (Nat.le_refl _)
theorem Tab.drew {w:World} (h:Tab w):Tab w.drew:=h.below (Below.refl _ _).drew (Nat.le_refl _)
theorem pW {W w2 w1:World} {y mo d:Value} (hb:Below W.heap.size W w2)
  (h:W.cell? ⟨w1.heap.size,0,none⟩=some y/\W.cell? ⟨w1.heap.size,1,none⟩=some mo/\W.cell? ⟨w1.heap.size,2,none⟩=some d/\Tab W/\w1.heap.size<W.heap.size/\Below w1.heap.size w1 W) :
  w2.cell? ⟨w1.heap.size,0,none⟩=some y/\w2.cell? ⟨w1.heap.size,1,none⟩=some mo/\w2.cell? ⟨w1.heap.size,2,none⟩=some d/\Tab w2/\w1.heap.size<w2.heap.size/\Below w1.heap.size w1 w2:=by
 obtain ⟨a,b,c,t,l,k⟩:=h;have hc:=(JL hb).1;exact ⟨by rw [hc _ _ l,a],by rw [hc _ _ l,b],by rw [hc _ _ l,c],t.below hb (Nat.le_refl _),Nat.lt_of_lt_of_le l hb.size,k.trans (hb.mono (by omega))⟩
def yr (n:Int):ByteArray:=str ([50,48]++two (n-2000).toNat)
def tw (n:Int):ByteArray:=str (two n.toNat)
theorem A0G (n:Int):(yr n).size=4:=by unfold yr;rw [AB];rfl
theorem A0H (n:Int):(tw n).size=2:=by unfold tw;rw [AB];rfl
theorem pX (n:Int) (w:World) (h1:2000<=n) (h2:n<=2099) (ht:Tab w) :
  Calls prog 86 #[.int .i64 n,.int .i64 4] w fun e w'=>e=.returned (.string (yr n))/\Below w.heap.size w w':=eG n w h1 h2 ht
theorem NB (n:Int) (w:World) (h1:0<=n) (h2:n<100) :
  Calls prog 86 #[.int .i64 n,.int .i64 2] w fun e w'=>e=.returned (.string (tw n))/\w=w':=jD n w h1 h2
def txt (y m d h mi:Int):List UInt8:=[50,48]++two (y-2000).toNat++two m.toNat++two d.toNat++[84]++two h.toNat++two mi.toNat++[48,48]
theorem T_str:(⟨#[84]⟩:ByteArray)=str [84]:=rfl
theorem Z_str:(⟨#[48,48]⟩:ByteArray)=str [48,48]:=rfl
theorem A2D (y m d h mi:Int):yr y++tw m++tw d++⟨#[84]⟩++tw h++tw mi++⟨#[48,48]⟩=str (txt y m d h mi):=by
 unfold yr tw txt;simp only [T_str,Z_str,AM]
theorem A0I (n:Int) (w:World) (h:n<0∨52596000<=n) :
  Calls prog 57 #[.int .i64 n] w fun e w'=>e=.returned (.string (str []))/\Below w.heap.size w w':=by
 go_enter func57,ntmps57;go_wp2_with fail;refine (eE n _ h).mono ?_;rintro e w1 ⟨rfl,hb1⟩;go_wp2_with fail;go_ret;refine ⟨rfl,?_⟩
 repeat (first|exact Below.refl _ _|exact hb1|refine below_drewN ?_ _|refine Below.setCell ?_ (by simp) _|refine Below.alloc ?_ (by first|(simp;done)|(have:=hb1.size;omega)) _)
theorem wX (n y mo d h mi:Int) (w:World) (h1:0<=n) (h2:n<52596000) (ht:Tab w)
  (hy:Cal.yOf (n / 1440)=y) (hmo:Cal.mOf (n / 1440)=mo) (hd:Cal.dOf (n / 1440)=d) (hh:n % 1440 / 60=h) (hmi:n % 60=mi)
  (y1:2000<=y) (y2:y<=2099) (mo1:0<=mo) (mo2:mo<100) (d1:0<=d) (d2:d<100) (hh1:0<=h) (hh2:h<100) (mi1:0<=mi) (mi2:mi<100) :
  Calls prog 57 #[.int .i64 n] w fun e w'=>e=.returned (.string (str (txt y mo d h mi)))/\Below w.heap.size w w':=by
 have C:=XT n w h1 h2;rw [hy,hmo,hd,hh,hmi] at C;have HC:=A5 C;clear C hy hmo hd hh hmi;have HT:=A5 ht;clear ht;have ysz:=A0G y;have tsz:=A0H;go_enter func57,ntmps57;go_wp2_with fail;refine HC.out.mono ?_;rintro e w1 ⟨rfl,hb1⟩;have HT1:=A5 (HT.out.below hb1 (Nat.le_refl _));go_wp2_with fail
 go_region_held3 (fun w'=>w'.cell? ⟨w1.heap.size,0,none⟩=some (.int .i64 y)/\w'.cell? ⟨w1.heap.size,1,none⟩=some (.int .i64 mo)/\w'.cell? ⟨w1.heap.size,2,none⟩=some (.int .i64 d)/\Tab w'/\w1.heap.size<w'.heap.size/\Below w1.heap.size w1 w')
  (first|exact ⟨by simp,by simp,by simp,(HT1.out.alloc _).drew,by simp,((Below.refl _ _).alloc (Nat.le_refl _) _).drew⟩|assumption|exact pW (by assumption) (by assumption)|go_keep)
  (first|(go_at_call 86;with_reducible refine (pX y _ y1 y2 ?_).mono ?_;(first|assumption|exact (HT1.out.alloc _).drew);rintro e w2 ⟨rfl,hb2⟩)|(go_at_call 86;with_reducible refine (NB mo _ mo1 mo2).mono ?_;rintro e w2 ⟨rfl,rfl⟩)|(go_at_call 86;with_reducible refine (NB d _ d1 d2).mono ?_;rintro e w2 ⟨rfl,rfl⟩))
 obtain ⟨_,_,_,_,hlt,hbel⟩:_/\_/\_/\_/\_/\_:=by assumption
 go_wp2_with fail;refine (NB h _ hh1 hh2).mono ?_;rintro e w3 ⟨rfl,rfl⟩;go_wp2_with fail;refine (NB mi _ mi1 mi2).mono ?_;rintro e w3 ⟨rfl,rfl⟩;go_wp2_with fail;go_ret;exact ⟨DA (A2D y mo d h mi),hb1.trans (hbel.mono hb1.size)⟩
def AZ (n:Int):List UInt8:=if 0<=n/\n<52596000 then txt (Cal.yOf (n / 1440)) (Cal.mOf (n / 1440)) (Cal.dOf (n / 1440)) (n % 1440 / 60) (n % 60) else []
theorem eH (n:Int) (w:World) (ht:Tab w) :
  Calls prog 57 #[.int .i64 n] w fun e w'=>e=.returned (.string (str (AZ n)))/\Below w.heap.size w w':=by
 by_cases h:0<=n/\n<52596000
 ·have e:AZ n=txt (Cal.yOf (n / 1440)) (Cal.mOf (n / 1440)) (Cal.dOf (n / 1440)) (n % 1440 / 60) (n % 60):=if_pos h;have hy:=Cal.MC (n / 1440) (by omega) (by omega);have hm:=Cal.iL (n / 1440);have hd:=Cal.iK (n / 1440) (by omega) (by omega);rw [e];exact wX n _ _ _ _ _ w h.1 h.2 ht rfl rfl rfl rfl rfl hy.1 hy.2 (by omega) (by omega) (by omega) (by omega) (by omega) (by omega) (by omega) (by omega)
 ·have e:AZ n=[]:=if_neg h;rw [e];exact A0I n w (by omega)
def digit (c:UInt8):Bool:=decide (48<=(c.toNat:Int))&&decide ((c.toNat:Int)<=57)
def AT (l:List UInt8):Bool:=l.all digit
def val (l:List UInt8):Int:=l.foldl (fun n c=>n*10+((c.toNat:Int)-48)) 0
theorem wY (l:List UInt8) (c:UInt8):val (l++[c])=val l*10+((c.toNat:Int)-48):=by simp [val]
theorem ZK (l:List UInt8) (c:UInt8):AT (l++[c])=(AT l&&digit c):=by simp [AT]
theorem XU (s:ByteArray) (k:Nat) (h:k<s.size):s.data.toList.take (k+1)=s.data.toList.take k++[s[k]]:=by
 rw [List.take_succ_eq_append_getElem (by simpa using h)];rfl
theorem KN (c:UInt8):digit c=true↔48<=(c.toNat:Int)/\(c.toNat:Int)<=57:=by simp [digit]
theorem XV (c:UInt8) (h:(c.toNat:Int)<48):digit c=false:=by unfold digit;simp only [Bool.and_eq_false_iff,decide_eq_false_iff_not];omega
theorem VC (c:UInt8) (h:57<(c.toNat:Int)):digit c=false:=by unfold digit;simp only [Bool.and_eq_false_iff,decide_eq_false_iff_not];omega
theorem eL (c:UInt8) (h1:¬ (c.toNat:Int)<48) (h2:¬ 57<(c.toNat:Int)):digit c=true:=by rw [KN];omega
theorem SK (s:ByteArray) (k:Nat) (h:k<s.size) (hd:digit s[k]=false):false=AT s.data.toList:=by
 symm
 unfold AT;rw [Bool.eq_false_iff];intro ha;rw [List.all_eq_true] at ha;have:=ha s[k] (by simp [ByteArray.getElem_eq_getElem_data]);rw [hd] at this
 cases this
theorem ZL (s:ByteArray) (k:Nat) (h:k<s.size) (hp:AT (s.data.toList.take k)=true) (hd:digit s[k]=true):AT (s.data.toList.take (k+1))=true:=by
 rw [XU s k h,ZK,hp,hd];rfl
theorem eM (s:ByteArray) (k:Nat) (h:¬ k<s.size) (hp:AT (s.data.toList.take k)=true):true=AT s.data.toList:=by
 rw [List.take_of_length_le (by simp;omega)] at hp;exact hp.symm
theorem WH (s:ByteArray) (w:World) (hs:s.size<=1000000) :
  Calls prog 248 #[.string s] w fun e w'=>e=.returned (.bool (AT s.data.toList))/\w=w':=by
 go_enter func248,ntmps248;go_wp2_with fail
 go_loop [6] (fun i=>∃ k:Nat,k<=s.size/\i=.int .i64 k/\Hid (AT (s.data.toList.take k)=true)) (fun i=>s.size-(intOf i).toNat)
 case atStart=>exact ⟨0,Nat.zero_le _,rfl,rfl⟩
 case round =>
  obtain ⟨k,hk,rfl,hd⟩:=hrel
  by_cases hlt:k<s.size
  ·by_cases c1:(s[k].toNat:Int)<48
   ·have HF:=A5 (SK s k hlt (XV _ c1))
    go_wp2
    go_ret;exact ⟨AA HF.out,rfl⟩
   ·by_cases c2:57<(s[k].toNat:Int)
    ·have HF:=A5 (SK s k hlt (VC _ c2))
     go_wp2
     go_ret;exact ⟨AA HF.out,rfl⟩
    ·have HN:=A5 (ZL s k hlt hd.out (eL _ c1 c2))
     go_wp2
     go_round
     case rel=>exact ⟨k+1,by omega,by go_num,HN⟩
     case measure=>simp [intOf];omega
  ·have HF:=A5 (eM s k hlt hd.out)
   go_wp2
   go_ret;exact ⟨AA HF.out,rfl⟩
theorem A0J (l:List UInt8):∀ a:Int,0<=a->AT l=true->0<=l.foldl (fun n c=>n*10+((c.toNat:Int)-48)) a/\l.foldl (fun n c=>n*10+((c.toNat:Int)-48)) a<(a+1)*10 ^ l.length:=by
 induction l with
 | nil=>intro a h _;simp;omega
 | cons c l ih =>
  intro a h hd;simp only [AT,List.all_cons,Bool.and_eq_true] at hd;have hc:=(KN c).1 hd.1;have:=ih (a*10+((c.toNat:Int)-48)) (by omega) hd.2;rw [List.foldl_cons,List.length_cons,Int.pow_succ];refine ⟨this.1,Int.lt_of_lt_of_le this.2 ?_⟩;have hp:(0:Int)<=10 ^ l.length:=Int.le_of_lt (Int.pow_pos (by decide));have:(a*10+((c.toNat:Int)-48)+1)*10 ^ l.length<=((a+1)*10)*10 ^ l.length:=Int.mul_le_mul_of_nonneg_right (by omega) hp;have e:(a+1)*(10 ^ l.length*10)=((a+1)*10)*10 ^ l.length:=by
   rw [Int.mul_assoc,Int.mul_comm 10]
  rw [e];exact this
theorem A2E (l:List UInt8) (h:AT l=true):0<=val l/\val l<10 ^ l.length:=by
 have:=A0J l 0 (by decide) h
 simpa [val] using this
theorem A2F (l:List UInt8) (h:AT l=true) (hl:l.length<=3):0<=val l/\val l<=999:=by
 have:=A2E l h;have h4:l.length=0∨l.length=1∨l.length=2∨l.length=3:=by omega
 rcases h4 with e|e|e|e <;> rw [e] at this <;> simp at this <;> omega
theorem LF (l:List UInt8) (k:Nat) (h:AT l=true):AT (l.take k)=true:=by
 unfold AT at *;rw [List.all_eq_true] at *;exact fun x hx=>h x (List.mem_of_mem_take hx)
theorem Q1 (l:List UInt8) (k:Nat) (h:AT l=true):AT (l.drop k)=true:=by
 unfold AT at *;rw [List.all_eq_true] at *;exact fun x hx=>h x (List.mem_of_mem_drop hx)
theorem jE (s:ByteArray) (k:Nat) (h:k<s.size) (hd:AT s.data.toList=true):48<=(s[k].toNat:Int)/\(s[k].toNat:Int)<=57:=by
 unfold AT at hd;rw [List.all_eq_true] at hd;exact (KN _).1 (hd s[k] (by simp [ByteArray.getElem_eq_getElem_data]))
theorem pY (s:ByteArray) (w:World) (hs:s.size<=4) (hd:AT s.data.toList=true) :
  Calls prog 235 #[.string s] w fun e w'=>e=.returned (.int .i64 (val s.data.toList))/\w=w':=by
 have HD:=A5 hd;clear hd;go_enter func235,ntmps235;go_wp2_with fail
 go_loop [3,7] (fun n i=>∃ k:Nat,k<=s.size/\i=.int .i64 k/\n=.int .i64 (val (s.data.toList.take k))) (fun _ i=>s.size-(intOf i).toNat)
 case atStart=>exact ⟨0,Nat.zero_le _,rfl,rfl⟩
 case round =>
  obtain ⟨k,hk,rfl,rfl⟩:=hrel
  by_cases hlt:k<s.size
  ·have hc:=jE s k hlt HD.out;have hv:=A2F _ (LF _ k HD.out) (by simp;omega);have HN:Hid (val (s.data.toList.take (k+1))=val (s.data.toList.take k)*10+((s[k].toNat:Int)-48)):=by rw [XU s k hlt];exact wY _ _
   generalize val (s.data.toList.take k)=V at *
   go_wp2
   go_round
   case rel=>exact ⟨k+1,by omega,by go_num,by rw [HN.out]⟩
   case measure=>simp [intOf];omega
  ·have HF:Hid (val (s.data.toList.take k)=val s.data.toList):=by rw [List.take_of_length_le (by simp;omega)];rfl
   go_wp2
   go_ret;exact ⟨FZ HF.out,rfl⟩
theorem jF (s p:ByteArray) (w:World) (hs:s.size<=1000000) :
  Calls prog 247 #[.string s,.string p] w fun e w'=>e=.returned (.bool (Lib.hasSuffix s.data.toList p.data.toList))/\w=w' :=
 (Tryz.strings_HasSuffix s p w (by omega)).mono fun _ _ ⟨he,hw⟩=>⟨he,hw.symm⟩
def EU (l:List UInt8):Bool:=decide (l.length=15)&&(l.getD 8 0==84)&&(l.drop 13==[48,48])&&AT (l.take 8)&&AT (l.drop 9)
theorem suffix_at (b:Bool) (s p:ByteArray) (w:World) (hs:s.size<=1000000) (h:Lib.hasSuffix s.data.toList p.data.toList=b) :
  Calls prog 247 #[.string s,.string p] w fun e w'=>e=.returned (.bool b)/\w=w':=by
 subst h;exact jF s p w hs
theorem LH (b:Bool) (s:ByteArray) (w:World) (hs:s.size<=1000000) (h:AT s.data.toList=b) :
  Calls prog 248 #[.string s] w fun e w'=>e=.returned (.bool b)/\w=w':=by
 subst h;exact WH s w hs
theorem ZM (s:ByteArray) (w:World) (hn:s.size≠15) :
  Calls prog 234 #[.string s] w fun e w'=>e=.returned (.bool false)/\w=w':=by
 have h15:((s.size:Int) != 15)=true:=by rw [bne_iff_ne];omega
 have h15':((s.size:Int)==15)=false:=by rw [beq_eq_false_iff_ne];omega
 go_enter func234,ntmps234;go_wp2_with fail;go_ret;exact ⟨rfl,rfl⟩
theorem eN (s:ByteArray) (w:World) (hn:s.size=15) (ht:(((s[8]'(by omega)).toNat:Int) != 84)=true) :
  Calls prog 234 #[.string s] w fun e w'=>e=.returned (.bool false)/\w=w':=by
 go_enter func234,ntmps234;go_wp2_with fail;go_ret;exact ⟨rfl,rfl⟩
theorem eO (s:ByteArray) (w:World) (hn:s.size=15) (ht:(((s[8]'(by omega)).toNat:Int) != 84)=false) (he:Lib.hasSuffix s.data.toList [48,48]=false) :
  Calls prog 234 #[.string s] w fun e w'=>e=.returned (.bool false)/\w=w':=by
 have H:=A5 he;clear he;go_enter func234,ntmps234;go_wp2_with fail;refine (suffix_at false _ _ _ (by omega) H.out).mono ?_;rintro e w' ⟨rfl,rfl⟩;go_wp2_with fail;go_ret;exact ⟨rfl,rfl⟩
theorem pZ (s:ByteArray) (w:World) (hn:s.size=15) (ht:(((s[8]'(by omega)).toNat:Int) != 84)=false) (he:Lib.hasSuffix s.data.toList [48,48]=true) (hd:AT (s.extract 0 8).data.toList=false) :
  Calls prog 234 #[.string s] w fun e w'=>e=.returned (.bool false)/\w=w':=by
 have H:=A5 he;have HD:=A5 hd;have hsz:(s.extract 0 8).size=8:=by simp [ByteArray.size_extract];omega
 clear he hd;go_enter func234,ntmps234;go_wp2_with fail;refine (suffix_at true _ _ _ (by omega) H.out).mono ?_;rintro e w' ⟨rfl,rfl⟩;go_wp2_with fail;refine (LH false _ _ (by omega) HD.out).mono ?_;rintro e w' ⟨rfl,rfl⟩;go_wp2_with fail;go_ret;exact ⟨rfl,rfl⟩
theorem qA (b:Bool) (s:ByteArray) (w:World) (hn:s.size=15) (ht:(((s[8]'(by omega)).toNat:Int) != 84)=false) (he:Lib.hasSuffix s.data.toList [48,48]=true) (hd:AT (s.extract 0 8).data.toList=true)
  (hd2:AT (s.extract 9 15).data.toList=b) :
  Calls prog 234 #[.string s] w fun e w'=>e=.returned (.bool b)/\w=w':=by
 have H:=A5 he;have HD:=A5 hd;have HD2:=A5 hd2;have hsz:(s.extract 0 8).size=8:=by simp [ByteArray.size_extract];omega
 have hsz2:(s.extract 9 15).size=6:=by simp [ByteArray.size_extract];omega
 clear he hd hd2;go_enter func234,ntmps234;go_wp2_with fail;refine (suffix_at true _ _ _ (by omega) H.out).mono ?_;rintro e w' ⟨rfl,rfl⟩;go_wp2_with fail;refine (LH true _ _ (by omega) HD.out).mono ?_;rintro e w' ⟨rfl,rfl⟩;go_wp2_with fail;refine (LH b _ _ (by omega) HD2.out).mono ?_;rintro e w' ⟨rfl,rfl⟩;go_wp2_with fail;go_ret;exact ⟨rfl,rfl⟩
theorem at_8 (s:ByteArray) (h:s.size=15):s.data.toList.getD 8 0=s[8]'(by omega):=by
 rw [List.getD_eq_getElem?_getD,List.getElem?_eq_getElem (by simpa using (by omega:8<s.size))];rfl
theorem qB (l:List UInt8) (h:l.length=15):Lib.hasSuffix l [48,48]=(l.drop 13==[48,48]):=by
 unfold Lib.hasSuffix;rw [Bool.eq_iff_iff,List.isSuffixOf_iff_suffix,List.suffix_iff_eq_drop];simp only [h,List.length_cons,List.length_nil,beq_iff_eq];exact ⟨fun h=>h.symm,fun h=>h.symm⟩
theorem ZN (c:UInt8):((c.toNat:Int) != 84)=!(c==84):=by
 by_cases h:c=84
 ·subst h;rfl
 ·have h1:(c==84)=false:=by simp [h]
  have h2:¬ c.toNat=84:=fun e=>h (UInt8.toNat_inj.1 e)
  rw [h1];simp only [Bool.not_false,bne_iff_ne];omega
theorem eP (s:ByteArray) (w:World) :
  Calls prog 234 #[.string s] w fun e w'=>e=.returned (.bool (EU s.data.toList))/\w=w':=by
 have hl:s.data.toList.length=s.size:=by simp
 unfold EU;rw [hl]
 by_cases hn:s.size=15
 ·rw [z0H hn,Bool.true_and,at_8 s hn]
  cases ht:((s[8]'(by omega))==84)
  ·rw [Bool.false_and,Bool.false_and,Bool.false_and];exact eN s w hn (by rw [ZN,ht];rfl)
  ·have ht':(((s[8]'(by omega)).toNat:Int) != 84)=false:=by rw [ZN,ht];rfl
   rw [Bool.true_and];have hs:=qB s.data.toList (hl.trans hn)
   cases he:(s.data.toList.drop 13==[48,48])
   ·rw [Bool.false_and,Bool.false_and];exact eO s w hn ht' (hs.trans he)
   ·rw [Bool.true_and];have e8:(s.extract 0 8).data.toList=s.data.toList.take 8:=by rw [Lib.extract_data];simp
    have e9:(s.extract 9 15).data.toList=s.data.toList.drop 9:=by
     have:=Lib.extract_to_end s 9;rw [hn] at this;exact this
    cases hd:AT (s.data.toList.take 8)
    ·rw [Bool.false_and];exact pZ s w hn ht' (hs.trans he) (by rw [e8,hd])
    ·rw [Bool.true_and];exact qA _ s w hn ht' (hs.trans he) (by rw [e8,hd]) (by rw [e9])
 ·rw [z0G hn,Bool.false_and,Bool.false_and,Bool.false_and,Bool.false_and];exact ZM s w hn
theorem VD (b:Bool) (s:ByteArray) (w:World) (h:EU s.data.toList=b) :
  Calls prog 234 #[.string s] w fun e w'=>e=.returned (.bool b)/\w=w':=by
 subst h;exact eP s w
theorem wZ (s:ByteArray) (w:World) (h:EU s.data.toList=false) :
  Calls prog 226 #[.string s] w fun e w'=>e=.returned (.tuple #[.int .i64 0,.int .i64 14])/\Below w.heap.size w w':=by
 have H:=A5 h;clear h;go_enter func226,ntmps226;go_wp2_with fail;refine (VD false s _ H.out).mono ?_;rintro e w' ⟨rfl,rfl⟩;go_wp2_with fail;go_ret2;exact ⟨rfl,Below.refl _ _⟩
structure Part (s:ByteArray) (a b:Nat):Prop where
 size:(s.extract a b).size=b-a
 small:b-a<=4
 dig:AT (s.extract a b).data.toList=true
def pvc (s:ByteArray) (a b:Nat):Int:=val (s.extract a b).data.toList
theorem JM (s:ByteArray) (a b:Nat) (w:World) (h:Part s a b) :
  Calls prog 235 #[.string (s.extract a b)] w fun e w'=>e=.returned (.int .i64 (pvc s a b))/\w=w':=pY _ w (by have:=h.size;have:=h.small;omega) h.dig
theorem jG {W w2 w1:World} {y mo d:Value} (hb:Below W.heap.size W w2)
  (h:W.cell? ⟨w1.heap.size,0,none⟩=some y/\W.cell? ⟨w1.heap.size,1,none⟩=some mo/\W.cell? ⟨w1.heap.size,2,none⟩=some d/\w1.heap.size<W.heap.size/\Below w1.heap.size w1 W) :
  w2.cell? ⟨w1.heap.size,0,none⟩=some y/\w2.cell? ⟨w1.heap.size,1,none⟩=some mo/\w2.cell? ⟨w1.heap.size,2,none⟩=some d/\w1.heap.size<w2.heap.size/\Below w1.heap.size w1 w2:=by
 obtain ⟨a,b,c,l,k⟩:=h;have hc:=(JL hb).1;exact ⟨by rw [hc _ _ l,a],by rw [hc _ _ l,b],by rw [hc _ _ l,c],Nat.lt_of_lt_of_le l hb.size,k.trans (hb.mono (by omega))⟩
theorem qC (s:ByteArray) (w:World) (h:EU s.data.toList=true) (hn:s.size=15) (p1:Part s 0 4) (p2:Part s 4 6) (p3:Part s 6 8) (p4:Part s 9 11) (p5:Part s 11 13) :
  Calls prog 226 #[.string s] w fun e w'=>e=.returned (.tuple #[.int .i64 (IJ (pvc s 0 4) (pvc s 4 6) (pvc s 6 8) (pvc s 9 11) (pvc s 11 13)).1,.int .i64 (IJ (pvc s 0 4) (pvc s 4 6) (pvc s 6 8) (pvc s 9 11) (pvc s 11 13)).2])/\Below w.heap.size w w':=by
 have H:=A5 h;clear h;go_enter func226,ntmps226;go_wp2_with fail;refine (VD true s _ H.out).mono ?_;rintro e w' ⟨rfl,rfl⟩;go_wp2_with fail
 go_region_held3 (fun _=>True) (first|exact trivial|go_keep)
  (first|(go_at_call 235;with_reducible refine (JM s 0 4 _ p1).mono ?_;rintro e w2 ⟨rfl,rfl⟩)|(go_at_call 235;with_reducible refine (JM s 4 6 _ p2).mono ?_;rintro e w2 ⟨rfl,rfl⟩)|(go_at_call 235;with_reducible refine (JM s 6 8 _ p3).mono ?_;rintro e w2 ⟨rfl,rfl⟩))
 all_goals
  go_wp2_with fail
  go_region_held3 (fun w'=>w'.cell? ⟨w.heap.size,0,none⟩=some (.int .i64 (pvc s 0 4))/\w'.cell? ⟨w.heap.size,1,none⟩=some (.int .i64 (pvc s 4 6))/\w'.cell? ⟨w.heap.size,2,none⟩=some (.int .i64 (pvc s 6 8))/\w.heap.size<w'.heap.size/\Below w.heap.size w w')
   (first|exact ⟨by simp,by simp,by simp,by simp,by repeat (first|exact Below.refl _ _|refine Below.drew ?_|refine Below.setCell ?_ (by simp) _|refine Below.alloc ?_ (by simp) _)⟩|assumption|exact jG (by assumption) (by assumption)|go_keep)
   (first|(go_at_call 235;with_reducible refine (JM s 9 11 _ p4).mono ?_;rintro e w2 ⟨rfl,rfl⟩)|(go_at_call 235;with_reducible refine (JM s 11 13 _ p5).mono ?_;rintro e w2 ⟨rfl,rfl⟩)|(go_at_call 236;with_reducible refine (jC _ _ _ _ _ _).mono ?_;rintro e w2 ⟨rfl,hb2⟩))
  obtain ⟨_,_,_,_,hbel⟩:_/\_/\_/\_/\_:=by assumption
  go_wp2_with fail;go_ret2;exact ⟨rfl,hbel⟩
def BZ (l:List UInt8):Int×Int:=if EU l then IJ (val (l.take 4)) (val ((l.drop 4).take 2)) (val ((l.drop 6).take 2)) (val ((l.drop 9).take 2)) (val ((l.drop 11).take 2)) else (0,14)
theorem OT (l:List UInt8) (h:EU l=true):l.length=15/\AT (l.take 8)=true/\AT (l.drop 9)=true:=by
 unfold EU at h;simp only [Bool.and_eq_true,decide_eq_true_eq] at h;exact ⟨h.1.1.1.1,h.1.2,h.2⟩
theorem VE (s:ByteArray) (a b:Nat) (hn:s.size=15) (h:AT (s.data.toList.take 8)=true) (hb:b<=8) (hab:b-a<=4):Part s a b where
 size:=by rw [ByteArray.size_extract];omega
 small:=hab
 dig:=by
  rw [Lib.extract_data];have e:(s.data.toList.drop a).take (b-a)=((s.data.toList.take 8).drop a).take (b-a):=by
   rw [List.drop_take,List.take_take,Nat.min_eq_left (by omega)]
  rw [e];exact LF _ _ (Q1 _ _ h)
theorem XW (s:ByteArray) (a b:Nat) (hn:s.size=15) (h:AT (s.data.toList.drop 9)=true) (ha:9<=a) (hb:b<=15) (hab:b-a<=4):Part s a b where
 size:=by rw [ByteArray.size_extract];omega
 small:=hab
 dig:=by
  rw [Lib.extract_data];have e:s.data.toList.drop a=(s.data.toList.drop 9).drop (a-9):=by
   rw [List.drop_drop];congr 1;omega
  rw [e];exact LF _ _ (Q1 _ _ h)
theorem qD (s:ByteArray) (w:World) :
  Calls prog 226 #[.string s] w fun e w'=>e=.returned (.tuple #[.int .i64 (BZ s.data.toList).1,.int .i64 (BZ s.data.toList).2])/\Below w.heap.size w w':=by
 cases hf:EU s.data.toList
 ·have e:BZ s.data.toList=(0,14):=by unfold BZ;rw [hf];rfl
  rw [e];exact wZ s w hf
 ·obtain ⟨hl,hd1,hd2⟩:=OT _ hf;have hn:s.size=15:=by rw [<- hl];simp
  have e:BZ s.data.toList=IJ (pvc s 0 4) (pvc s 4 6) (pvc s 6 8) (pvc s 9 11) (pvc s 11 13):=by
   unfold BZ pvc;rw [hf];simp only [Lib.extract_data,if_true,List.drop_zero]
  rw [e];exact qC s w hf hn (VE s 0 4 hn hd1 (by omega) (by omega)) (VE s 4 6 hn hd1 (by omega) (by omega)) (VE s 6 8 hn hd1 (by omega) (by omega)) (XW s 9 11 hn hd2 (by omega) (by omega) (by omega)) (XW s 11 13 hn hd2 (by omega) (by omega) (by omega))
theorem VF (d:Nat) (h:d<10):(dg d).toNat=48+d:=by
 unfold dg;rw [UInt8.toNat_ofNat'];omega
theorem eR (d:Nat) (h:d<10):digit (dg d)=true:=by rw [KN,VF d h];omega
theorem JN (u:Nat) (h:u<100):AT (two u)=true:=by
 simp only [two,AT,List.all_cons,List.all_nil,Bool.and_true,Bool.and_eq_true];exact ⟨eR _ (by omega),eR _ (by omega)⟩
theorem eS (a b:List UInt8):AT (a++b)=(AT a&&AT b):=by simp [AT]
theorem val_two (u:Nat) (h:u<100):val (two u)=u:=by
 simp only [two,val,List.foldl_cons,List.foldl_nil,VF (u / 10) (by omega),VF (u % 10) (by omega)];omega
theorem xA (u:Nat) (h:u<100):val ([50,48]++two u)=2000+u:=by
 simp only [two,val,List.cons_append,List.nil_append,List.foldl_cons,List.foldl_nil,VF (u / 10) (by omega),VF (u % 10) (by omega)];have e1:((50:UInt8).toNat:Int)=50:=rfl;have e2:((48:UInt8).toNat:Int)=48:=rfl;rw [e1,e2];omega
structure Fields (y m d h mi:Int):Prop where
 y1:2000<=y
 y2:y<=2099
 m1:0<=m
 m2:m<100
 d1:0<=d
 d2:d<100
 h1:0<=h
 h2:h<100
 i1:0<=mi
 i2:mi<100
theorem eT (y m d h mi:Int) (f:Fields y m d h mi):EU (txt y m d h mi)=true:=by
 obtain ⟨y1,y2,m1,m2,d1,d2,h1,h2,i1,i2⟩:=f;have e8:(txt y m d h mi).take 8=[50,48]++two (y-2000).toNat++two m.toNat++two d.toNat:=rfl;have e9:(txt y m d h mi).drop 9=two h.toNat++two mi.toNat++[48,48]:=rfl;have el:(txt y m d h mi).length=15:=rfl;have eg:(txt y m d h mi).getD 8 0=84:=rfl;have ed:(txt y m d h mi).drop 13=[48,48]:=rfl;have z:AT [48,48]=true:=by decide
 have t:AT [50,48]=true:=by decide
 unfold EU;rw [e8,e9,el,eg,ed];simp only [eS,JN _ (show (y-2000).toNat<100 by omega),JN _ (show m.toNat<100 by omega),JN _ (show d.toNat<100 by omega),JN _ (show h.toNat<100 by omega),JN _ (show mi.toNat<100 by omega),z,t]
 decide
theorem qE (y m d h mi:Int) (f:Fields y m d h mi):BZ (txt y m d h mi)=IJ y m d h mi:=by
 have hf:=eT y m d h mi f;obtain ⟨y1,y2,m1,m2,d1,d2,h1,h2,i1,i2⟩:=f;unfold BZ;rw [if_pos hf];have e1:(txt y m d h mi).take 4=[50,48]++two (y-2000).toNat:=rfl;have e2:((txt y m d h mi).drop 4).take 2=two m.toNat:=rfl;have e3:((txt y m d h mi).drop 6).take 2=two d.toNat:=rfl;have e4:((txt y m d h mi).drop 9).take 2=two h.toNat:=rfl;have e5:((txt y m d h mi).drop 11).take 2=two mi.toNat:=rfl;rw [e1,e2,e3,e4,e5,xA _ (by omega),val_two _ (by omega),val_two _ (by omega),val_two _ (by omega),val_two _ (by omega)]
 congr 1 <;> omega
theorem XX (x:Int) (h1:0<=x) (h2:x<52596000):Fields (Cal.yOf (x / 1440)) (Cal.mOf (x / 1440)) (Cal.dOf (x / 1440)) (x % 1440 / 60) (x % 60):=by
 have hy:=Cal.MC (x / 1440) (by omega) (by omega);have hm:=Cal.iL (x / 1440);have hd:=Cal.iK (x / 1440) (by omega) (by omega);exact ⟨hy.1,hy.2,by omega,by omega,by omega,by omega,by omega,by omega,by omega,by omega⟩
theorem RG (x:Int) (h1:0<=x) (h2:x<52596000):AZ x=txt (Cal.yOf (x / 1440)) (Cal.mOf (x / 1440)) (Cal.dOf (x / 1440)) (x % 1440 / 60) (x % 60):=if_pos ⟨h1,h2⟩
theorem A0K (n:Int) (h1:0<=n) (h2:n<36525):IP (Cal.yOf n) (Cal.mOf n) (Cal.dOf n)=(n,0):=by
 have hy:=Cal.MC n h1 h2;rw [RE _ _ _ (Cal.A1I n h1 h2) hy.1 hy.2,Cal.A2i]
theorem A0L (x:Int) (h1:0<=x) (h2:x<52596000):IJ (Cal.yOf (x / 1440)) (Cal.mOf (x / 1440)) (Cal.dOf (x / 1440)) (x % 1440 / 60) (x % 60)=(x,0):=by
 unfold IJ;rw [A0K (x / 1440) (by omega) (by omega)];simp only;rw [if_pos trivial,if_pos ((J5 _ _).2 (by omega))];have:x / 1440*1440+x % 1440 / 60*60+x % 60=x:=by omega
 rw [this]
theorem jH (x:Int) (h1:0<=x) (h2:x<52596000):BZ (AZ x)=(x,0):=by
 rw [RG x h1 h2,qE _ _ _ _ _ (XX x h1 h2),A0L x h1 h2]
end Go.Proofs.YtfecnkhoojnkbaaGreatDoor

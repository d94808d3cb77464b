import Derived.Test.YtfecnkhoojnkbaaGreatDoorXW1
set_option maxHeartbeats 8000000
set_option maxRecDepth 1000000
namespace Go.Proofs.YtfecnkhoojnkbaaGreatDoor
open Go.RowKit Tryz
theorem pG (y:Int) (w:World) :
  Calls prog 100 #[.int .i64 y] w fun e w'=>e=.returned (.bool (Cal.lpB y))/\w=w':=by
 by_cases h4:(y.tmod 4==0)=true
 all_goals
  go_enter func100,ntmps100
  go_wp2
  all_goals
   go_ret;exact ⟨AA (by simp_all [Cal.lpB]),rfl⟩
theorem idx_1 (w:World):(Instr.index 172 (.agg #[.int .i64 31,.int .i64 28,.int .i64 31,.int .i64 30,.int .i64 31,.int .i64 30,.int .i64 31,.int .i64 31,.int .i64 30,.int .i64 31,.int .i64 30,.int .i64 31]) (.int .i64 0)).run prog w=.ok (.int .i64 31) w:=by kernel_rfl
theorem A1K (w:World):(Instr.index 172 (.agg #[.int .i64 31,.int .i64 28,.int .i64 31,.int .i64 30,.int .i64 31,.int .i64 30,.int .i64 31,.int .i64 31,.int .i64 30,.int .i64 31,.int .i64 30,.int .i64 31]) (.int .i64 1)).run prog w=.ok (.int .i64 28) w:=by kernel_rfl
theorem idx_3 (w:World):(Instr.index 172 (.agg #[.int .i64 31,.int .i64 28,.int .i64 31,.int .i64 30,.int .i64 31,.int .i64 30,.int .i64 31,.int .i64 31,.int .i64 30,.int .i64 31,.int .i64 30,.int .i64 31]) (.int .i64 2)).run prog w=.ok (.int .i64 31) w:=by kernel_rfl
theorem idx_4 (w:World):(Instr.index 172 (.agg #[.int .i64 31,.int .i64 28,.int .i64 31,.int .i64 30,.int .i64 31,.int .i64 30,.int .i64 31,.int .i64 31,.int .i64 30,.int .i64 31,.int .i64 30,.int .i64 31]) (.int .i64 3)).run prog w=.ok (.int .i64 30) w:=by kernel_rfl
theorem idx_5 (w:World):(Instr.index 172 (.agg #[.int .i64 31,.int .i64 28,.int .i64 31,.int .i64 30,.int .i64 31,.int .i64 30,.int .i64 31,.int .i64 31,.int .i64 30,.int .i64 31,.int .i64 30,.int .i64 31]) (.int .i64 4)).run prog w=.ok (.int .i64 31) w:=by kernel_rfl
theorem idx_6 (w:World):(Instr.index 172 (.agg #[.int .i64 31,.int .i64 28,.int .i64 31,.int .i64 30,.int .i64 31,.int .i64 30,.int .i64 31,.int .i64 31,.int .i64 30,.int .i64 31,.int .i64 30,.int .i64 31]) (.int .i64 5)).run prog w=.ok (.int .i64 30) w:=by kernel_rfl
theorem idx_7 (w:World):(Instr.index 172 (.agg #[.int .i64 31,.int .i64 28,.int .i64 31,.int .i64 30,.int .i64 31,.int .i64 30,.int .i64 31,.int .i64 31,.int .i64 30,.int .i64 31,.int .i64 30,.int .i64 31]) (.int .i64 6)).run prog w=.ok (.int .i64 31) w:=by kernel_rfl
theorem idx_8 (w:World):(Instr.index 172 (.agg #[.int .i64 31,.int .i64 28,.int .i64 31,.int .i64 30,.int .i64 31,.int .i64 30,.int .i64 31,.int .i64 31,.int .i64 30,.int .i64 31,.int .i64 30,.int .i64 31]) (.int .i64 7)).run prog w=.ok (.int .i64 31) w:=by kernel_rfl
theorem idx_9 (w:World):(Instr.index 172 (.agg #[.int .i64 31,.int .i64 28,.int .i64 31,.int .i64 30,.int .i64 31,.int .i64 30,.int .i64 31,.int .i64 31,.int .i64 30,.int .i64 31,.int .i64 30,.int .i64 31]) (.int .i64 8)).run prog w=.ok (.int .i64 30) w:=by kernel_rfl
theorem A2t (w:World):(Instr.index 172 (.agg #[.int .i64 31,.int .i64 28,.int .i64 31,.int .i64 30,.int .i64 31,.int .i64 30,.int .i64 31,.int .i64 31,.int .i64 30,.int .i64 31,.int .i64 30,.int .i64 31]) (.int .i64 9)).run prog w=.ok (.int .i64 31) w:=by kernel_rfl
theorem A2u (w:World):(Instr.index 172 (.agg #[.int .i64 31,.int .i64 28,.int .i64 31,.int .i64 30,.int .i64 31,.int .i64 30,.int .i64 31,.int .i64 31,.int .i64 30,.int .i64 31,.int .i64 30,.int .i64 31]) (.int .i64 10)).run prog w=.ok (.int .i64 30) w:=by kernel_rfl
theorem A2v (w:World):(Instr.index 172 (.agg #[.int .i64 31,.int .i64 28,.int .i64 31,.int .i64 30,.int .i64 31,.int .i64 30,.int .i64 31,.int .i64 31,.int .i64 30,.int .i64 31,.int .i64 30,.int .i64 31]) (.int .i64 11)).run prog w=.ok (.int .i64 31) w:=by kernel_rfl
theorem A0m (y m:Int) (h1:1<=m) (h2:m<=12) (h:¬ (m=2/\Cal.lpB y=true)) (w:World) :
  (Instr.index 172 (.agg #[.int .i64 31,.int .i64 28,.int .i64 31,.int .i64 30,.int .i64 31,.int .i64 30,.int .i64 31,.int .i64 31,.int .i64 30,.int .i64 31,.int .i64 30,.int .i64 31]) (.int .i64 (m-1))).run prog w=.ok (.int .i64 (Cal.dim y m)) w:=by
 have hm:m=1∨m=2∨m=3∨m=4∨m=5∨m=6∨m=7∨m=8∨m=9∨m=10∨m=11∨m=12:=by omega
 rcases hm with e|e|e|e|e|e|e|e|e|e|e|e
 ·subst e;rw [<- MM y 1 (by omega)];exact idx_1 w
 ·subst e;rw [<- j8 y (by simpa using h)];exact A1K w
 ·subst e;rw [<- MM y 3 (by omega)];exact idx_3 w
 ·subst e;rw [<- V9 y 4 (by omega)];exact idx_4 w
 ·subst e;rw [<- MM y 5 (by omega)];exact idx_5 w
 ·subst e;rw [<- V9 y 6 (by omega)];exact idx_6 w
 ·subst e;rw [<- MM y 7 (by omega)];exact idx_7 w
 ·subst e;rw [<- MM y 8 (by omega)];exact idx_8 w
 ·subst e;rw [<- V9 y 9 (by omega)];exact idx_9 w
 ·subst e;rw [<- MM y 10 (by omega)];exact A2t w
 ·subst e;rw [<- V9 y 11 (by omega)];exact A2u w
 ·subst e;rw [<- MM y 12 (by omega)];exact A2v w
theorem IG (y:Int) (b:Bool) (w:World) (h:Cal.lpB y=b) :
  Calls prog 100 #[.int .i64 y] w fun e w'=>e=.returned (.bool b)/\w=w':=by
 subst h;exact pG y w
theorem E5 (y m:Int) (w:World) :
  Calls prog 101 #[.int .i64 y,.int .i64 m] w fun e w'=>e=.returned (.int .i64 (Cal.dim y m))/\w=w':=by
 by_cases h1:m<1
 ·rw [Cal.T0 y m (.inl h1)];go_enter func101,ntmps101;go_wp2_with fail;go_ret;exact ⟨rfl,rfl⟩
 by_cases h12:12<m
 ·rw [Cal.T0 y m (.inr h12)];go_enter func101,ntmps101;go_wp2_with fail;go_ret;exact ⟨rfl,rfl⟩
 by_cases h2:m=2
 ·subst h2
  cases hb:Cal.lpB y
  ·have hix:=A1K;rw [<- j8 y hb];have HB:=A5 hb;clear hb;go_enter func101,ntmps101;go_wp2_with fail;refine (IG y false _ HB.out).mono ?_;rintro e w' ⟨rfl,rfl⟩;go_wp2_with fail;go_ret;exact ⟨rfl,rfl⟩
  ·rw [<- wM y hb];have HB:=A5 hb;clear hb;go_enter func101,ntmps101;go_wp2_with fail;refine (IG y true _ HB.out).mono ?_;rintro e w' ⟨rfl,rfl⟩;go_wp2_with fail;go_ret;exact ⟨rfl,rfl⟩
 ·have hix:=A0m y m (by omega) (by omega) (fun h=>h2 h.1);have h2':(m==2)=false:=by rw [beq_eq_false_iff_ne];exact h2
  generalize Cal.dim y m=D at *;clear h2;go_enter func101,ntmps101;go_wp2_with fail;go_ret;exact ⟨rfl,rfl⟩
theorem vU (y m d:Int) (h:1<=d):decide (d<=Cal.dim y m)=Cal.isB y m d:=by simp [Cal.isB,h]
theorem ZD (y m d:Int) (h:m<1∨12<m∨d<1):Cal.isB y m d=false:=by
 rw [Bool.eq_false_iff];intro hb;have:=Cal.MZ hb;rw [Cal.L0] at hb;omega
theorem A0n (y m d:Int) (w:World) :
  Calls prog 211 #[.agg #[.int .i64 y,.int .i64 m,.int .i64 d]] w fun e w'=>e=.returned (.bool (Cal.isB y m d))/\Below w.heap.size w w':=by
 by_cases h1:1<=m
 ·by_cases h2:m<=12
  ·by_cases h3:1<=d
   ·go_enter func211,ntmps211;go_wp2_with fail;go_quiet ((go_at_call 101;exact FL (E5 _ _ _)))
    go_wp2
    go_ret;exact ⟨AA (vU y m d h3),below_drewN ((Below.refl _ _).alloc (Nat.le_refl _) _) _⟩
   ·rw [ZD y m d (by omega)];have hd:decide (1<=d)=false:=by simpa using h3
    go_enter func211,ntmps211;go_wp2_with fail;go_quiet ((go_at_call 101;exact FL (E5 _ _ _)))
    go_wp2
    go_ret;exact ⟨rfl,below_drewN ((Below.refl _ _).alloc (Nat.le_refl _) _) _⟩
  ·rw [ZD y m d (by omega)];have hd:decide (m<=12)=false:=by simpa using h2
   go_enter func211,ntmps211;go_wp2_with fail;go_quiet ((go_at_call 101;exact FL (E5 _ _ _)))
   go_wp2
   go_ret;exact ⟨rfl,below_drewN ((Below.refl _ _).alloc (Nat.le_refl _) _) _⟩
 ·rw [ZD y m d (by omega)];have hd:decide (1<=m)=false:=by simpa using h1
  go_enter func211,ntmps211;go_wp2_with fail;go_quiet ((go_at_call 101;exact FL (E5 _ _ _)))
  go_wp2
  go_ret;exact ⟨rfl,below_drewN ((Below.refl _ _).alloc (Nat.le_refl _) _) _⟩
theorem ZE (b:Bool) (y m d:Int) (w:World) (h:Cal.isB y m d=b) :
  Calls prog 211 #[.agg #[.int .i64 y,.int .i64 m,.int .i64 d]] w fun e w'=>e=.returned (.bool b)/\Below w.heap.size w w':=by
 subst h;exact A0n y m d w
theorem V6:Cal.yst 2000=0:=by decide +kernel
theorem dV (k:Int) (h1:2000<=k) (h2:k<=2099) (h:Cal.lpB k=true):Cal.yst k+365+1=Cal.yst (k+1):=by
 rw [Cal.u7 k h1 h2,decide_eq_true_eq] at h;unfold Cal.yst;omega
theorem XM (k:Int) (h1:2000<=k) (h2:k<=2099) (h:Cal.lpB k=false):Cal.yst k+365=Cal.yst (k+1):=by
 rw [Cal.u7 k h1 h2,decide_eq_false_iff_not] at h;unfold Cal.yst;omega
theorem vV (y:Int):Cal.yst y=Cal.yst y+Cal.cum y 1:=by rw [Cal.H9];omega
theorem pH (y k:Int) (h1:1<=k) (h2:k<=12):Cal.yst y+Cal.cum y k+Cal.dim y k=Cal.yst y+Cal.cum y (k+1):=by
 rw [Cal.JA y k h1 h2];omega
theorem vW (y m d:Int):Cal.yst y+Cal.cum y m+d-1=Cal.num y m d:=by unfold Cal.num;omega
theorem dW (y m d c:Int) (w:World) (h:IP y m d=(0,c)) (hc:c=10∨c=11) :
  Calls prog 196 #[.agg #[.int .i64 y,.int .i64 m,.int .i64 d]] w fun e w'=>e=.returned (.tuple #[.int .i64 0,.int .i64 c])/\Below w.heap.size w w':=by
 cases hb:Cal.isB y m d
 ·have e:=Q0 y m d hb;rw [h] at e;obtain rfl:c=11:=by simpa using e
  have HB:=A5 hb;clear hb h hc e;go_enter func196,ntmps196;go_wp2_with fail;refine (ZE false _ _ _ _ HB.out).mono ?_;rintro e w1 ⟨rfl,hb1⟩;go_wp2_with fail;go_ret2;exact ⟨rfl,((Below.refl _ _).alloc (Nat.le_refl _) _).trans (hb1.mono (by simp))⟩
 ·by_cases h1:y<2000
  ·have e:=LD y m d hb (.inl h1);rw [h] at e;obtain rfl:c=10:=by simpa using e
   have HB:=A5 hb;clear hb h hc e;go_enter func196,ntmps196;go_wp2_with fail;refine (ZE true _ _ _ _ HB.out).mono ?_;rintro e w1 ⟨rfl,hb1⟩;obtain ⟨hc,hf⟩:=JL hb1;go_wp2_with fail;go_ret2;exact ⟨rfl,((Below.refl _ _).alloc (Nat.le_refl _) _).trans (hb1.mono (by simp))⟩
  ·by_cases h2:2099<y
   ·have e:=LD y m d hb (.inr h2);rw [h] at e;obtain rfl:c=10:=by simpa using e
    have HB:=A5 hb;clear hb h hc e;go_enter func196,ntmps196;go_wp2_with fail;refine (ZE true _ _ _ _ HB.out).mono ?_;rintro e w1 ⟨rfl,hb1⟩;obtain ⟨hc,hf⟩:=JL hb1;go_wp2_with fail;go_ret2;exact ⟨rfl,((Below.refl _ _).alloc (Nat.le_refl _) _).trans (hb1.mono (by simp))⟩
   ·have e:=RE y m d hb (by omega) (by omega);rw [h] at e;have:c=0:=by simpa using congrArg Prod.snd e
    omega
theorem A0o (y m d:Int) (w:World) (hb:Cal.isB y m d=true) (h1:2000<=y) (h2:y<=2099) (m1:1<=m) (m2:m<=12) (d1:1<=d) (d2:d<=31) :
  Calls prog 196 #[.agg #[.int .i64 y,.int .i64 m,.int .i64 d]] w fun e w'=>e=.returned (.tuple #[.int .i64 (Cal.num y m d),.int .i64 0])/\Below w.heap.size w w':=by
 have HB:=A5 hb;clear hb;go_enter func196,ntmps196;go_wp2_with fail;refine (ZE true _ _ _ _ HB.out).mono ?_;rintro e w1 ⟨rfl,hb1⟩;have c0:w1.cell? ⟨w.heap.size,0,none⟩=some (.int .i64 y):=by rw [(JL hb1).1 _ _ (by simp)];simp
 have c1:w1.cell? ⟨w.heap.size,1,none⟩=some (.int .i64 m):=by rw [(JL hb1).1 _ _ (by simp)];simp
 have c2:w1.cell? ⟨w.heap.size,2,none⟩=some (.int .i64 d):=by rw [(JL hb1).1 _ _ (by simp)];simp
 go_wp2_with fail
 go_loop [4,5] (fun n i=>∃ k:Int,2000<=k/\k<=y/\i=.int .i64 k/\n=.int .i64 (Cal.yst k)) (fun _ i=>(2099-intOf i).toNat)
 case atStart=>exact ⟨2000,by omega,h1,rfl,by rw [V6]⟩
 case round =>
  obtain ⟨k,hk1,hk2,rfl,rfl⟩:=hrel;have hy:=Cal.U7 k hk1 (by omega)
  by_cases hlt:k<y
  ·cases hl:Cal.lpB k
   ·have HS:=A5 (XM k hk1 (by omega) hl);have HL:=A5 hl;clear hl;go_wp2_with (go_at_call 100;refine (IG k false _ HL.out).mono ?_;rintro e w' ⟨rfl,rfl⟩)
    go_round
    case rel=>exact ⟨k+1,by omega,by omega,rfl,by rw [HS.out]⟩
    case measure=>simp [intOf];omega
   ·have HS:=A5 (dV k hk1 (by omega) hl);have HL:=A5 hl;clear hl;go_wp2_with (go_at_call 100;refine (IG k true _ HL.out).mono ?_;rintro e w' ⟨rfl,rfl⟩)
    go_round
    case rel=>exact ⟨k+1,by omega,by omega,rfl,by rw [HS.out]⟩
    case measure=>simp [intOf];omega
  ·obtain rfl:k=y:=by omega
   go_wp2_with fail
   go_loop [4,6] (fun n i=>∃ j:Int,1<=j/\j<=m/\i=.int .i64 j/\n=.int .i64 (Cal.yst k+Cal.cum k j)) (fun _ i=>(12-intOf i).toNat)
   case atStart=>exact ⟨1,by omega,m1,rfl,by rw [<- vV]⟩
   case round =>
    obtain ⟨j,hj1,hj2,rfl,rfl⟩:=hrel;have hc:=Cal.QL k j hj1 (by omega);have hl:=Cal.KZ k j
    by_cases hlt2:j<m
    ·have HS:=A5 (pH k j hj1 (by omega));go_wp2_with (go_at_call 101;refine (E5 _ _ _).mono ?_;rintro e w' ⟨rfl,rfl⟩)
     go_round
     case rel=>exact ⟨j+1,by omega,by omega,rfl,by rw [HS.out]⟩
     case measure=>simp [intOf];omega
    ·obtain rfl:j=m:=by omega
     have HE:=A5 (vW k j d);go_wp2_with fail;go_ret2;exact ⟨by rw [<- HE.out];rfl,((Below.refl _ _).alloc (Nat.le_refl _) _).trans (hb1.mono (by simp))⟩
theorem dX (y m d:Int) (w:World) :
  Calls prog 196 #[.agg #[.int .i64 y,.int .i64 m,.int .i64 d]] w fun e w'=>e=.returned (.tuple #[.int .i64 (IP y m d).1,.int .i64 (IP y m d).2])/\Below w.heap.size w w':=by
 cases hb:Cal.isB y m d
 ·have e:=Q0 y m d hb;rw [e];exact dW y m d 11 w e (.inr rfl)
 ·by_cases h1:y<2000∨2099<y
  ·have e:=LD y m d hb h1;rw [e];exact dW y m d 10 w e (.inl rfl)
  ·have e:=RE y m d hb (by omega) (by omega);have hm:=Cal.MZ hb;have hd:=(Cal.L0 y m d).1 hb;have hd2:=(Cal.KZ y m).2;rw [e];exact A0o y m d w hb (by omega) (by omega) hm.1 hm.2 hd.1 (by omega)
theorem ON (y m d a c:Int) (w:World) (h:IP y m d=(a,c)) :
  Calls prog 196 #[.agg #[.int .i64 y,.int .i64 m,.int .i64 d]] w fun e w'=>e=.returned (.tuple #[.int .i64 a,.int .i64 c])/\Below w.heap.size w w':=by
 have:=dX y m d w;rw [h] at this;exact this
theorem dY (y mo d h m c:Int) (w:World) (hn:IP y mo d=(0,c)) (hc:(c==0)=false) :
  Calls prog 164 #[.agg #[.int .i64 y,.int .i64 mo,.int .i64 d],.int .i64 h,.int .i64 m] w fun e w'=>e=.returned (.tuple #[.int .i64 0,.int .i64 c])/\Below w.heap.size w w':=by
 have H:=A5 hn;clear hn;have hc':(c != 0)=true:=by simp [bne,hc]
 go_enter func164,ntmps164;go_wp2_with fail;refine (ON y mo d 0 c _ H.out).mono ?_;rintro e w1 ⟨rfl,hb1⟩;go_wp2_with fail;go_ret2;refine ⟨rfl,?_⟩
 repeat (first|exact Below.refl _ _|refine Below.trans ?_ (hb1.mono (by simp))|refine below_drewN ?_ _|refine Below.setCell ?_ (by simp) _|refine Below.alloc ?_ (by simp) _)
theorem ZF (y mo d h m a:Int) (w:World) (hn:IP y mo d=(a,0)) (ht:h<0∨23<h∨m<0∨59<m) :
    Calls prog 164 #[.agg #[.int .i64 y,.int .i64 mo,.int .i64 d],.int .i64 h,.int .i64 m] w fun e w'=>e=.returned (.tuple #[.int .i64 0,.int .i64 11])/\Below w.heap.size w w':=by
  have H:=A5 hn;clear hn
  by_cases c1:h<0 <;> by_cases c2:23<h <;> by_cases c3:m<0 <;> by_cases c4:59<m
  all_goals first
    | omega
    | (clear ht
       go_enter func164,ntmps164;go_wp2_with fail;refine (ON y mo d a 0 _ H.out).mono ?_;rintro e w1 ⟨rfl,hb1⟩;go_wp2_with fail;go_ret2;refine ⟨rfl,?_⟩
       repeat (first|exact Below.refl _ _|refine Below.trans ?_ (hb1.mono (by simp))|refine below_drewN ?_ _|refine Below.setCell ?_ (by simp) _|refine Below.alloc ?_ (by simp) _))
theorem iY (y mo d h m a:Int) (w:World) (hn:IP y mo d=(a,0)) (ha:0<=a) (ha2:a<36525) (hh:0<=h) (hh2:h<=23) (hm:0<=m) (hm2:m<=59) :
  Calls prog 164 #[.agg #[.int .i64 y,.int .i64 mo,.int .i64 d],.int .i64 h,.int .i64 m] w fun e w'=>e=.returned (.tuple #[.int .i64 (a*1440+h*60+m),.int .i64 0])/\Below w.heap.size w w':=by
 have H:=A5 hn;clear hn;go_enter func164,ntmps164;go_wp2_with fail;refine (ON y mo d a 0 _ H.out).mono ?_;rintro e w1 ⟨rfl,hb1⟩;go_wp2_with fail;go_ret2;refine ⟨rfl,?_⟩
 repeat (first|exact Below.refl _ _|refine Below.trans ?_ (hb1.mono (by simp))|refine below_drewN ?_ _|refine Below.setCell ?_ (by simp) _|refine Below.alloc ?_ (by simp) _)
theorem dZ (y mo d h m:Int) (w:World) :
  Calls prog 164 #[.agg #[.int .i64 y,.int .i64 mo,.int .i64 d],.int .i64 h,.int .i64 m] w fun e w'=>e=.returned (.tuple #[.int .i64 (IJ y mo d h m).1,.int .i64 (IJ y mo d h m).2])/\Below w.heap.size w w':=by
 rcases VB y mo d with ⟨c,hn,hc⟩|⟨a,hn,ha,ha2⟩
 ·have e:IJ y mo d h m=(0,c):=by unfold IJ;rw [hn];simp only;rw [if_neg (by omega)]
  rw [e];exact dY y mo d h m c w hn (by rcases hc with rfl|rfl <;> rfl)
 ·by_cases ht:XS h m=true
  ·have e:IJ y mo d h m=(a*1440+h*60+m,0):=by unfold IJ;rw [hn];simp only;rw [if_pos trivial,if_pos ht]
   rw [e];rw [J5] at ht;exact iY y mo d h m a w hn ha ha2 ht.1 ht.2.1 ht.2.2.1 ht.2.2.2
  ·have e:IJ y mo d h m=(0,11):=by unfold IJ;rw [hn];simp only;rw [if_pos trivial,if_neg ht]
   rw [e];rw [J5] at ht;exact ZF y mo d h m a w hn (by omega)
theorem ydays (k:Int) (h1:2000<=k) (h2:k<=2099):Cal.yst (k+1)=Cal.yst k+(if Cal.lpB k then 366 else 365):=by
 cases h:Cal.lpB k
 ·rw [<- XM k h1 h2 h];rfl
 ·rw [<- dV k h1 h2 h];simp;omega
theorem mD (n k:Int) (h0:0<=n) (h:n<36525) (_k1:2000<=k) (_k2:k<=2099) (a:Cal.yst k<=n) (b:n<Cal.yst (k+1)):Cal.yOf n=k:=by
 have hy:=Cal.T8 n h0 h;have hb:=Cal.MC n h0 h;rcases Int.lt_trichotomy (Cal.yOf n) k with g|g|g
 ·have:=Cal.uA (Cal.yOf n+1) k (by omega);omega
 ·exact g
 ·have:=Cal.uA (k+1) (Cal.yOf n) (by omega);omega
theorem iZ (n:Int) (w:World) (h1:0<=n) (h2:n<36525) :
  Calls prog 64 #[.int .i64 n] w fun e w'=>e=.returned (.tuple #[.agg #[.int .i64 (Cal.yOf n),.int .i64 (Cal.mOf n),.int .i64 (Cal.dOf n)],.int .i64 0])/\Below w.heap.size w w':=by
 have hyb:=Cal.MC n h1 h2;have hyy:=Cal.T8 n h1 h2;go_enter func64,ntmps64;go_wp2_with fail
 go_loop [4,5] (fun y r=>∃ k:Int,2000<=k/\k<=2099/\y=.int .i64 k/\0<=n-Cal.yst k/\r=.int .i64 (n-Cal.yst k)) (fun y _=>(2099-intOf y).toNat)
 case atStart=>exact ⟨2000,by omega,by omega,rfl,by rw [V6];omega,by rw [V6,Int.sub_zero]⟩
 case round =>
  obtain ⟨k,hk1,hk2,rfl,hr,rfl⟩:=hrel;have hy:=Cal.U7 k hk1 hk2;have hd:=ydays k hk1 hk2;have hend:Cal.yst 2100=36525:=by decide +kernel
  cases hl:Cal.lpB k
  ·rw [hl] at hd;have hd':Cal.yst (k+1)=Cal.yst k+365:=hd;have HL:=A5 hl;clear hl hd
   by_cases hlt:n-Cal.yst k<365
   ·have hyk:=mD n k h1 h2 hk1 hk2 (by omega) (by omega);have hhi:n-Cal.yst k<Cal.cum k 13:=by have:=Cal.MB k hk1 hk2;omega
    clear hd';go_wp2_with (go_at_call 100;refine (IG k false _ HL.out).mono ?_;rintro e w' ⟨rfl,rfl⟩)
    go_loop [5,7] (fun r i=>∃ j:Int,1<=j/\j<=12/\i=.int .i64 j/\0<=n-Cal.yst k-Cal.cum k j/\r=.int .i64 (n-Cal.yst k-Cal.cum k j)) (fun _ i=>(12-intOf i).toNat)
    case atStart=>exact ⟨1,by omega,by omega,rfl,by rw [Cal.H9];omega,by rw [Cal.H9,Int.sub_zero]⟩
    case round =>
     obtain ⟨j,hj1,hj2,rfl,hrj,rfl⟩:=hrel;have hc:=Cal.QL k j hj1 (by omega);have hdm:=Cal.KZ k j
     by_cases hdj:Cal.dim k j<=n-Cal.yst k-Cal.cum k j
     ·have hst:=OQ k _ j hhi hj1 hj2 hdj;have HN:=A5 (OR k (n-Cal.yst k) j hj1 hj2);go_wp2_with (go_at_call 101;refine (E5 _ _ _).mono ?_;rintro e w' ⟨rfl,rfl⟩)
      go_round
      case rel=>exact ⟨j+1,by omega,by omega,rfl,hst.2,by rw [HN.out]⟩
      case measure=>simp [intOf];omega
     ·have HM:=A5 (VA k (n-Cal.yst k) j hj1 hj2 hrj hdj);have HYK:=A5 hyk;clear hyk;go_wp2_with (go_at_call 101;refine (E5 _ _ _).mono ?_;rintro e w' ⟨rfl,rfl⟩);have em:Cal.mOf n=j:=by unfold Cal.mOf;rw [HYK.out,HM.out]
      have ed:Cal.dOf n=n-Cal.yst k-Cal.cum k j+1:=by unfold Cal.dOf;rw [em,HYK.out]
      rw [em,ed,HYK.out];refine bodyPost_ret (v:=.tuple #[.agg #[.int .i64 k,.int .i64 j,.int .i64 (n-Cal.yst k-Cal.cum k j+1)],.int .i64 0]) (by simp [results,Tryz.results64,go_sem]) rfl ⟨rfl,?_⟩
      repeat (first|exact Below.refl _ _|refine below_drewN ?_ _|refine Below.setCell ?_ (by simp) _|refine Below.alloc ?_ (by simp) _)
   ·have hk3:k+1<=2099:=by
     by_cases e:k=2099
     ·subst e;have:Cal.yst (2099+1)=36525:=hend;omega
     ·omega
    have HS:Hid (n-Cal.yst k-365=n-Cal.yst (k+1)):=by show _=_;omega
    have hr2:0<=n-Cal.yst (k+1):=by omega
    clear hd';go_wp2_with (go_at_call 100;refine (IG k false _ HL.out).mono ?_;rintro e w' ⟨rfl,rfl⟩)
    go_round
    case rel=>exact ⟨k+1,by omega,by omega,rfl,hr2,by rw [HS.out]⟩
    case measure=>simp [intOf];omega
  ·rw [hl] at hd;have hd':Cal.yst (k+1)=Cal.yst k+366:=hd;have HL:=A5 hl;clear hl hd
   by_cases hlt:n-Cal.yst k<366
   ·have hyk:=mD n k h1 h2 hk1 hk2 (by omega) (by omega);have hhi:n-Cal.yst k<Cal.cum k 13:=by have:=Cal.MB k hk1 hk2;omega
    clear hd';go_wp2_with (go_at_call 100;refine (IG k true _ HL.out).mono ?_;rintro e w' ⟨rfl,rfl⟩)
    go_loop [5,7] (fun r i=>∃ j:Int,1<=j/\j<=12/\i=.int .i64 j/\0<=n-Cal.yst k-Cal.cum k j/\r=.int .i64 (n-Cal.yst k-Cal.cum k j)) (fun _ i=>(12-intOf i).toNat)
    case atStart=>exact ⟨1,by omega,by omega,rfl,by rw [Cal.H9];omega,by rw [Cal.H9,Int.sub_zero]⟩
    case round =>
     obtain ⟨j,hj1,hj2,rfl,hrj,rfl⟩:=hrel;have hc:=Cal.QL k j hj1 (by omega);have hdm:=Cal.KZ k j
     by_cases hdj:Cal.dim k j<=n-Cal.yst k-Cal.cum k j
     ·have hst:=OQ k _ j hhi hj1 hj2 hdj;have HN:=A5 (OR k (n-Cal.yst k) j hj1 hj2);go_wp2_with (go_at_call 101;refine (E5 _ _ _).mono ?_;rintro e w' ⟨rfl,rfl⟩)
      go_round
      case rel=>exact ⟨j+1,by omega,by omega,rfl,hst.2,by rw [HN.out]⟩
      case measure=>simp [intOf];omega
     ·have HM:=A5 (VA k (n-Cal.yst k) j hj1 hj2 hrj hdj);have HYK:=A5 hyk;clear hyk;go_wp2_with (go_at_call 101;refine (E5 _ _ _).mono ?_;rintro e w' ⟨rfl,rfl⟩);have em:Cal.mOf n=j:=by unfold Cal.mOf;rw [HYK.out,HM.out]
      have ed:Cal.dOf n=n-Cal.yst k-Cal.cum k j+1:=by unfold Cal.dOf;rw [em,HYK.out]
      rw [em,ed,HYK.out];refine bodyPost_ret (v:=.tuple #[.agg #[.int .i64 k,.int .i64 j,.int .i64 (n-Cal.yst k-Cal.cum k j+1)],.int .i64 0]) (by simp [results,Tryz.results64,go_sem]) rfl ⟨rfl,?_⟩
      repeat (first|exact Below.refl _ _|refine below_drewN ?_ _|refine Below.setCell ?_ (by simp) _|refine Below.alloc ?_ (by simp) _)
   ·have hk3:k+1<=2099:=by
     by_cases e:k=2099
     ·subst e;have:Cal.yst (2099+1)=36525:=hend;omega
     ·omega
    have HS:Hid (n-Cal.yst k-366=n-Cal.yst (k+1)):=by show _=_;omega
    have hr2:0<=n-Cal.yst (k+1):=by omega
    clear hd';go_wp2_with (go_at_call 100;refine (IG k true _ HL.out).mono ?_;rintro e w' ⟨rfl,rfl⟩)
    go_round
    case rel=>exact ⟨k+1,by omega,by omega,rfl,hr2,by rw [HS.out]⟩
    case measure=>simp [intOf];omega
end Go.Proofs.YtfecnkhoojnkbaaGreatDoor

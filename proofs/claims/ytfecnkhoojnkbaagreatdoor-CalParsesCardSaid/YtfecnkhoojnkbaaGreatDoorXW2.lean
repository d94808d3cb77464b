import Derived.Lib.QuietBelow
import Derived.Deep.DrawnRows
import Derived.Test.YtfecnkhoojnkbaaGreatDoorXRefC
set_option maxHeartbeats 8000000
set_option maxRecDepth 1000000
namespace Go.Proofs.YtfecnkhoojnkbaaGreatDoor
open Go.RowKit Rul Tryz
theorem AJ {B:Nat} {a w:World} (h:Below B a w) (n:Nat):Below B a (w.drewN n):=⟨h.os,h.tape,h.output,h.size,h.block⟩
theorem more {a w:World} (h:Below a.heap.size a w) (o:Obj):Below a.heap.size a (w.alloc o):=h.alloc h.size o
theorem andthen {a b c:World} (h:Below a.heap.size a b) (k:Below b.heap.size b c):Below a.heap.size a c:=h.trans (k.mono h.size)
theorem start (a:World):Below a.heap.size a a:=Below.refl _ _
theorem A9 {a b:World} {X k:Nat} {v:Value} (h:Below a.heap.size a b) (c:a.cell? ⟨X,k,none⟩=some v):b.cell? ⟨X,k,none⟩=some v :=
 (h.cell (p:=⟨X,k,none⟩) (block_lt_of_cell c)).trans c
abbrev Ans (w:World) (v:Value):Ending->World->Prop:=fun e w'=>e=.returned v/\Below w.heap.size w w'
theorem AF {P:Program} {f:FuncId} {args:Array Value} {w:World} {a b:Bool} (h:Calls P f args w (Ans w (.bool a))) (e:a=b):Calls P f args w (Ans w (.bool b)):=by subst e;exact h
theorem F6 {P:Program} {f:FuncId} {args:Array Value} {w:World} {v:Value} (h:Calls P f args w fun e w'=>e=.returned v/\w=w'):Calls P f args w (Ans w v) :=
 h.mono fun _ _ ⟨he,hw⟩=>⟨he,hw▸start _⟩
def EL (w:World) (A:Option Addr) (l:List Wd):Prop :=
 l≠[]->∃ b off,A=some ⟨b,off,none⟩/\b<w.heap.size/\∀ i (h:i<l.length),w.cell? ⟨b,off+i*2,none⟩=some (.int .i64 l[i].1)/\w.cell? ⟨b,off+i*2+1,none⟩=some (.int .i64 l[i].2)
def BS (w:World) (A:Option Addr) (l:List Int):Prop :=
 l≠[]->∃ b off,A=some ⟨b,off,none⟩/\b<w.heap.size/\∀ i (h:i<l.length),w.cell? ⟨b,off+i,none⟩=some (.int .i64 l[i])
theorem EL.keep {w w':World} {A:Option Addr} {l:List Wd} (h:EL w A l) (hb:Below w.heap.size w w'):EL w' A l:=fun hn=>by
 obtain ⟨b,off,e,hl,hc⟩:=h hn;exact ⟨b,off,e,Nat.lt_of_lt_of_le hl hb.size,fun i hi=>⟨(hb.cell (p:=⟨b,_,none⟩) hl).trans (hc i hi).1,(hb.cell (p:=⟨b,_,none⟩) hl).trans (hc i hi).2⟩⟩
theorem BS.keep {w w':World} {A:Option Addr} {l:List Int} (h:BS w A l) (hb:Below w.heap.size w w'):BS w' A l:=fun hn=>by
 obtain ⟨b,off,e,hl,hc⟩:=h hn;exact ⟨b,off,e,Nat.lt_of_lt_of_le hl hb.size,fun i hi=>(hb.cell (p:=⟨b,_,none⟩) hl).trans (hc i hi)⟩
theorem EL.nil (w:World) (A:Option Addr):EL w A []:=fun h=>absurd rfl h
theorem BS.nil (w:World) (A:Option Addr):BS w A []:=fun h=>absurd rfl h
theorem TM (a x b:Int) (w:World) :
  Calls prog 184 #[.int .i64 a,.int .i64 x,.int .i64 b] w fun e w'=>e=.returned (.bool (btw a x b))/\w=w':=by
 by_cases h:a<=x
 ·have e:=A5 (show btw a x b=decide (x<=b) by simp [btw,h]);go_enter func184,ntmps184;go_wp2_with fail;go_ret;exact ⟨AA (by rw [e.out]),rfl⟩
 ·have e:=A5 (show btw a x b=false by simp [btw,h]);have hd:decide (a<=x)=false:=by simpa using h
  go_enter func184,ntmps184;go_wp2_with fail;go_ret;exact ⟨AA (by rw [e.out]),rfl⟩
theorem EN (a x b:Int) (c:Bool) (w:World) (h:btw a x b=c) :
  Calls prog 184 #[.int .i64 a,.int .i64 x,.int .i64 b] w fun e w'=>e=.returned (.bool c)/\w=w':=by
 subst h;exact TM a x b w
theorem ZV (x:Int) (w:World) :
  Calls prog 208 #[.int .i64 x] w fun e w'=>e=.returned (.bool false)/\w=w':=by
 have e:=A5 (show (x != x)=false by simp);go_enter func208,ntmps208;go_wp2_with fail;go_ret;exact ⟨AA (by first|rfl|rw [e.out]),rfl⟩
def GZ (a b:Int):Int:=if a<b then -1 else if b<a then 1 else 0
theorem ND (a b:Int):decide (0<=GZ a b)=!AI a b:=by
 unfold GZ AI
 by_cases h:a<b
 ·rw [if_pos h,z0H h];rfl
 ·rw [if_neg h,z0G h];split <;> rfl
theorem A0X (a b:Int):GZ a b=0↔a=b:=by unfold GZ;split <;> (try split) <;> omega
theorem NF (a b:Int) (w:World) :
  Calls prog 190 #[.int .i64 a,.int .i64 b] w fun e w'=>e=.returned (.int .i64 (GZ a b))/\w=w':=by
 by_cases h1:a<b
 ·have e:=A5 (show GZ a b=-1 by simp [GZ,h1]);go_enter func190,ntmps190;go_wp2_with (go_at_call 208;refine (ZV _ _).mono ?_;rintro e w' ⟨rfl,rfl⟩);go_ret;exact ⟨FZ (by rw [e.out]),rfl⟩
 ·by_cases h2:b<a
  ·have e:=A5 (show GZ a b=1 by simp [GZ,h1,h2]);go_enter func190,ntmps190;go_wp2_with (go_at_call 208;refine (ZV _ _).mono ?_;rintro e w' ⟨rfl,rfl⟩);go_ret;exact ⟨FZ (by rw [e.out]),rfl⟩
  ·have e:=A5 (show GZ a b=0 by simp [GZ,h1,h2]);go_enter func190,ntmps190;go_wp2_with (go_at_call 208;refine (ZV _ _).mono ?_;rintro e w' ⟨rfl,rfl⟩);go_ret;exact ⟨FZ (by rw [e.out]),rfl⟩
theorem K1 (n:Int) (w:World) :
  Calls prog 191 #[.int .i64 n] w fun e w'=>e=.returned (.bool (GS n))/\w=w':=by
 go_enter func191,ntmps191;go_wp2_with (go_at_call 184;refine (TM _ _ _ _).mono ?_;rintro e w' ⟨rfl,rfl⟩);go_ret;exact ⟨rfl,rfl⟩
theorem GM (n:Int) (w:World) :
  Calls prog 189 #[.int .i64 n] w fun e w'=>e=.returned (.bool (G5 n))/\w=w':=by
 cases h:(n != 0)
 ·have e:=A5 (show G5 n=false by unfold G5;rw [h];rfl);go_enter func189,ntmps189;go_wp2_with fail;go_ret;exact ⟨AA (by rw [e.out]),rfl⟩
 ·have e:=A5 (show G5 n=btw (-31) n 31 by unfold G5;rw [h];rfl);go_enter func189,ntmps189;go_wp2_with (go_at_call 184;refine (TM _ _ _ _).mono ?_;rintro e w' ⟨rfl,rfl⟩);go_ret;exact ⟨AA (by rw [e.out]),rfl⟩
theorem DN (x y:Int) (w:World) :
  Calls prog 186 #[.agg #[.int .i64 x,.int .i64 y]] w (Ans w (.bool (EF (x,y)))):=by
 cases h:btw (-5) x 5
 ·have e:=A5 (show EF (x,y)=false by unfold EF;rw [h];rfl);have H:=A5 h;clear h;go_enter func186,ntmps186;go_wp2_with (go_at_call 184;refine (EN _ _ _ _ _ H.out).mono ?_;rintro e w' ⟨rfl,rfl⟩);go_ret;exact ⟨AA (by rw [e.out]),more (start _) _⟩
 ·have e:=A5 (show EF (x,y)=btw 0 y 6 by unfold EF;rw [h];rfl);have H:=A5 h;clear h;go_enter func186,ntmps186;go_wp2_with fail;refine (EN _ _ _ _ _ H.out).mono ?_;rintro e w' ⟨rfl,rfl⟩;go_wp2_with (go_at_call 184;refine (TM _ _ _ _).mono ?_;rintro e w' ⟨rfl,rfl⟩);go_ret;exact ⟨AA (by rw [e.out]),more (start _) _⟩
def LJ (a b:Wd):Int:=if a.1=b.1 then GZ a.2 b.2 else GZ a.1 b.1
theorem Q4 (a b:Wd):decide (0<=LJ a b)=!BO a b:=by
 unfold LJ BO
 by_cases h:a.1=b.1
 ·rw [if_pos h,ND];unfold AI;congr 1;simp [h]
 ·rw [if_neg h,ND];unfold AI;congr 1;simp [h]
theorem xZ (x y u v:Int) (w:World) :
  Calls prog 187 #[.agg #[.int .i64 x,.int .i64 y],.agg #[.int .i64 u,.int .i64 v]] w (Ans w (.int .i64 (LJ (x,y) (u,v)))):=by
 by_cases hx:x=u
 ·have e:=A5 (show LJ (x,y) (u,v)=GZ y v by simp [LJ,hx]);have h:(x != u)=false:=by rw [hx];simp
  clear hx;go_enter func187,ntmps187;go_wp2_with (go_at_call 190;refine (NF _ _ _).mono ?_;rintro e w' ⟨rfl,rfl⟩);go_ret;exact ⟨FZ (by rw [e.out]),more (more (start _) _) _⟩
 ·have e:=A5 (show LJ (x,y) (u,v)=GZ x u by simp [LJ,hx]);have h:(x != u)=true:=by rw [bne_iff_ne];exact hx
  clear hx;go_enter func187,ntmps187;go_wp2_with (go_at_call 190;refine (NF _ _ _).mono ?_;rintro e w' ⟨rfl,rfl⟩);go_ret;exact ⟨FZ (by rw [e.out]),more (more (start _) _) _⟩
theorem mO (x y:Int) (w:World) :
  Calls prog 210 #[.agg #[.int .i64 x,.int .i64 y]] w (Ans w (.bool (M5 (x,y)))):=by
 go_enter func210,ntmps210;go_wp2_with fail;go_ret;exact ⟨rfl,more (start _) _⟩
abbrev pv (p:P):Value:=.agg #[.int .i64 p.mo,.int .i64 p.dy,.int .i64 p.de,.int .i64 p.wd,.int .i64 p.po,.int .i64 p.pe]
theorem A0Y {α:Type} (q:α->Bool) (l:List α) (j:Nat) (hj:j=l.length) (h:∀ i (hi:i<l.length),i<j->q l[i]=false):l.any q=false :=
 any_none q l fun i hi=>h i hi (by omega)
theorem qZ {α:Type} (q:α->Bool) (l:List α) (j:Nat) (hj:j<l.length) (h:∀ i (hi:i<l.length),i<j->q l[i]=false) (h2:q l[j]=false):∀ i (hi:i<l.length),i<j+1->q l[i]=false:=fun i hi h3=>by
 rcases Nat.lt_or_ge i j with g|g
 ·exact h i hi g
 ·obtain rfl:i=j:=by omega
  exact h2
def Finds (w:World) (b:Bool) (e:Ending) (w':World):Prop:=∃ v:Int,e=.returned (.int .i64 v)/\decide (0<=v)=b/\Below w.heap.size w w'
theorem yA  (A:Option Addr) (n c:Nat) (l:List Wd) (w:World) (hl:EL w A l) (hn:n=l.length) (hsz:l.length<=10000) :
  Calls prog 225 #[.slice A n c,(.func (.func 210) #[] #[])] w (Finds w (l.any M5)):=by
 subst hn
 by_cases hnil:l=[]
 ·subst hnil;go_enter func225,ntmps225;go_wp2_with fail;refine wp_loop_rounds 1 ?_;rw [rounds_succ];go_wp2_with fail;go_ret;exact ⟨-1,rfl,rfl,start _⟩
 ·obtain ⟨b1,o1,rfl,hb1,hc1⟩:=hl hnil;have HC1:=A5 hc1;clear hl hc1 hnil;go_enter func225,ntmps225;go_wp2_with fail
  go_loopw [8] (fun i wr=>∃ j:Nat,j<=l.length/\i=.int .i64 j/\(∀ i (hi:i<l.length),i<j->M5 l[i]=false)/\Below w.heap.size w wr) (fun i _=>l.length-(intOf i).toNat)
  case atStart=>exact ⟨0,Nat.zero_le _,rfl,fun i hi h=>absurd h (Nat.not_lt_zero _),start _⟩
  case round =>
   obtain ⟨j,hj,rfl,heq,hbw⟩:=hrel;have HE:=A5 heq;clear heq
   by_cases hlt:j<l.length
   ·have p1:wr.cell? ⟨b1,o1+j*2,none⟩=some (.int .i64 l[j].1):=(hbw.cell (p:=⟨b1,_,none⟩) hb1).trans (HC1.out j hlt).1;have p2:wr.cell? ⟨b1,o1+j*2+1,none⟩=some (.int .i64 l[j].2):=(hbw.cell (p:=⟨b1,_,none⟩) hb1).trans (HC1.out j hlt).2;have hi0:(0:Int)<=(j:Int):=by omega
    have hi1:(j:Int)<(l.length:Int):=by omega
    cases hq:M5 l[j]
    ·have HN:=A5 (qZ M5 l j hlt HE.out hq);have HQ:=A5 hq;clear hq;go_wp2_with fail;refine (AF (mO l[j].1 l[j].2 _) HQ.out).mono ?_;rintro e w1 ⟨rfl,hb2⟩;have hbw2:=hbw.trans (hb2.mono hbw.size);go_wp2_with fail
     go_roundw
     case rel=>exact ⟨j+1,by omega,by go_num,HN.out,hbw2⟩
     case measure=>simp [intOf];omega
    ·have HN:=A5 (QN M5 l j hlt hq);have HQ:=A5 hq;clear hq;go_wp2_with fail;refine (AF (mO l[j].1 l[j].2 _) HQ.out).mono ?_;rintro e w1 ⟨rfl,hb2⟩;have hbw2:=hbw.trans (hb2.mono hbw.size);go_wp2_with fail;go_ret;exact ⟨_,rfl,by rw [HN.out];exact z0H hi0,hbw2⟩
   ·obtain rfl:j=l.length:=by omega
    have HF:=A5 (A0Y M5 l l.length rfl HE.out);go_wp2_with fail;go_ret;exact ⟨-1,rfl,by rw [HF.out];rfl,hbw⟩
theorem rA  (A:Option Addr) (n c:Nat) (l:List Wd) (w:World) (hl:EL w A l) (hn:n=l.length) (hsz:l.length<=10000) :
  Calls prog 209 #[.slice A n c,(.func (.func 210) #[] #[])] w (Ans w (.bool (l.any M5))):=by
 subst hn;have HL:=A5 hl;clear hl;go_enter func209,ntmps209;go_wp2_with fail;refine (yA A _ c l _ HL.out rfl hsz).mono ?_;rintro e w1 ⟨v,rfl,hv,hb⟩;have HV:=A5 hv;clear hv;go_wp2_with fail;go_ret;exact ⟨AA (by rw [<- HV.out]),hb⟩
end Go.Proofs.YtfecnkhoojnkbaaGreatDoor
namespace Go.Proofs.YtfecnkhoojnkbaaGreatDoor
open Go.RowKit Rul Go.Sort Tryz
theorem CL {α:Type} (q:α->Bool) (lt:α->α->Bool) (d:α) (l:List α) (j:Nat) (h:∀ i,i<j->F0 q lt d l i=true) (h2:F0 q lt d l j=true):∀ i,i<j+1->F0 q lt d l i=true:=fun i h3=>by
 rcases Nat.lt_or_ge i j with g|g
 ·exact h i g
 ·obtain rfl:i=j:=by omega
  exact h2
theorem ZW (a b v:Int) (w:World) (h:GZ a b=v) :
  Calls prog 190 #[.int .i64 a,.int .i64 b] w (Ans w (.int .i64 v)):=by subst h;exact F6 (NF a b w)
theorem TN (a b:Wd) (v:Int) (w:World) (h:LJ a b=v) :
  Calls prog 187 #[.agg #[.int .i64 a.1,.int .i64 a.2],.agg #[.int .i64 b.1,.int .i64 b.2]] w (Ans w (.int .i64 v)):=by subst h;exact xZ _ _ _ _ w
theorem fI (a b:Int) (h:AI a b=true):∃ v,GZ a b=v/\¬ 0<=v/\decide (0<=v)=false:=⟨_,rfl,by have:=ND a b;rw [h] at this;simpa using this,by rw [ND,h];rfl⟩
theorem mP (a b:Int) (h:AI a b=false):∃ v,GZ a b=v/\0<=v/\decide (0<=v)=true:=⟨_,rfl,by have:=ND a b;rw [h] at this;simpa using this,by rw [ND,h];rfl⟩
theorem yB (a b:Wd) (h:BO a b=true):∃ v,LJ a b=v/\¬ 0<=v/\decide (0<=v)=false:=⟨_,rfl,by have:=Q4 a b;rw [h] at this;simpa using this,by rw [Q4,h];rfl⟩
theorem A0Z (a b:Wd) (h:BO a b=false):∃ v,LJ a b=v/\0<=v/\decide (0<=v)=true:=⟨_,rfl,by have:=Q4 a b;rw [h] at this;simpa using this,by rw [Q4,h];rfl⟩
theorem Y4 (A:Option Addr) (n c:Nat) (l:List Int) (w:World) (hl:BS w A l) (hn:n=l.length) (hsz:l.length<=10000) :
  Calls prog 188 #[.func (.func 189) #[] #[],.func (.func 190) #[] #[],.slice A n c] w (Ans w (.bool (C0 G5 AI 0 l))):=by
 subst hn
 by_cases hlong:12<l.length
 ·have e:=A5 (O9 G5 AI 0 l hlong);have h1:12<(l.length:Int):=by omega
  clear hl;go_enter func188,ntmps188;go_wp2_with fail;go_ret;exact ⟨AA (by rw [e.out]),start _⟩
 have hshort:¬ 12<(l.length:Int):=by omega
 by_cases hnil:l=[]
 ·subst hnil;go_enter func188,ntmps188;go_wp2_with fail;refine wp_loop_rounds 1 ?_;rw [rounds_succ];go_wp2_with fail;go_ret;exact ⟨rfl,start _⟩
 ·obtain ⟨b1,o1,rfl,hb1,hc1⟩:=hl hnil;have HC1:=A5 hc1;clear hl hc1 hnil;go_enter func188,ntmps188;go_wp2_with fail
  go_loopw [14] (fun i wr=>∃ j:Nat,j<=l.length/\i=.int .i64 j/\(∀ i,i<j->F0 G5 AI 0 l i=true)/\Below w.heap.size w wr) (fun i _=>l.length-(intOf i).toNat)
  case atStart=>exact ⟨0,Nat.zero_le _,rfl,fun i h=>absurd h (Nat.not_lt_zero _),start _⟩
  case round =>
   obtain ⟨j,hj,rfl,heq,hbw⟩:=hrel;have HE:=A5 heq;clear heq
   by_cases hlt:j<l.length
   ·have hi0:(0:Int)<=(j:Int):=by omega
    have hi1:(j:Int)<(l.length:Int):=by omega
    cases hq:G5 l[j]
    ·have p1:wr.cell? ⟨b1,o1+j,none⟩=some (.int .i64 l[j]):=(hbw.cell (p:=⟨b1,_,none⟩) hb1).trans (by first|exact HC1.out j hlt|simpa using HC1.out j hlt);have HN:=A5 (DC G5 AI 0 l j hlt (EW _ _ _ _ _ hlt hq));have HQ:=A5 hq;clear hq;go_wp2_with fail;refine (AF (F6 (GM l[j] _)) HQ.out).mono ?_;rintro e w1 ⟨rfl,hb2⟩;replace hbw:=hbw.trans (hb2.mono hbw.size);clear hb2;go_wp2_with fail;go_ret;exact ⟨AA (by rw [HN.out]),hbw⟩
    ·have HQ:=A5 hq;rcases Nat.eq_zero_or_pos j with hz|hz
     ·subst hz;have p1:wr.cell? ⟨b1,o1,none⟩=some (.int .i64 l[0]):=(hbw.cell (p:=⟨b1,_,none⟩) hb1).trans (by first|exact HC1.out 0 hlt|simpa using HC1.out 0 hlt);have HN:=A5 (CL G5 AI 0 l 0 HE.out (by rw [I1 _ _ _ _ hlt];exact hq));clear hq;have g0:¬ (0:Int)<((0:Nat):Int):=by omega
      have g1:decide ((0:Int)<((0:Nat):Int))=false:=rfl;go_wp2_with fail;refine (AF (F6 (GM l[0] _)) HQ.out).mono ?_;rintro e w1 ⟨rfl,hb2⟩;replace hbw:=hbw.trans (hb2.mono hbw.size);clear hb2;go_wp2_with fail
      go_roundw
      case rel=>exact ⟨1,by omega,by go_num,HN.out,hbw⟩
      case measure=>simp [intOf];omega
     ·obtain ⟨m,rfl⟩:∃ m,j=m+1:=⟨j-1,by omega⟩;have hlm:m<l.length:=Nat.lt_of_succ_lt hlt;have p1:wr.cell? ⟨b1,o1+(m+1),none⟩=some (.int .i64 l[(m+1)]):=(hbw.cell (p:=⟨b1,_,none⟩) hb1).trans (by first|exact HC1.out (m+1) hlt|simpa using HC1.out (m+1) hlt);have p0:wr.cell? ⟨b1,o1+m,none⟩=some (.int .i64 l[m]):=(hbw.cell (p:=⟨b1,_,none⟩) hb1).trans (by first|exact HC1.out m hlm|simpa using HC1.out m hlm);have g0:(0:Int)<((m+1:Nat):Int):=by omega
      have g1:decide ((0:Int)<((m+1:Nat):Int))=true:=z0H g0;have g2:((m+1:Nat):Int)-1=(m:Int):=by omega
      have g3:(0:Int)<=(m:Int):=by omega
      have g4:(m:Int)<(l.length:Int):=by omega
      have hs:=DP G5 AI 0 l m hlt;rw [hq,Bool.true_and] at hs;clear hq
      cases hc:AI l[m] l[m+1]
      ·obtain ⟨v,hv,hv1,hv2⟩:=mP l[m] l[m+1] hc;have HV:=A5 hv;have HN:=A5 (DC G5 AI 0 l (m+1) hlt (by rw [hs,hc]));clear hv hs hc;go_wp2_with fail;refine (AF (F6 (GM l[m+1] _)) HQ.out).mono ?_;rintro e w1 ⟨rfl,hb2⟩;replace hbw:=hbw.trans (hb2.mono hbw.size);have q0:=A9 hb2 p0;have q1:=A9 hb2 p1;clear hb2;go_wp2_with fail;refine (ZW l[m] l[m+1] v _ HV.out).mono ?_;rintro e w2 ⟨rfl,hb2⟩;replace hbw:=hbw.trans (hb2.mono hbw.size);clear hb2;go_wp2_with fail;go_ret;exact ⟨AA (by rw [HN.out]),hbw⟩
      ·obtain ⟨v,hv,hv1,hv2⟩:=fI l[m] l[m+1] hc;have HV:=A5 hv;have HN:=A5 (CL G5 AI 0 l (m+1) HE.out (by rw [hs,hc]));clear hv hs hc;go_wp2_with fail;refine (AF (F6 (GM l[m+1] _)) HQ.out).mono ?_;rintro e w1 ⟨rfl,hb2⟩;replace hbw:=hbw.trans (hb2.mono hbw.size);have q0:=A9 hb2 p0;have q1:=A9 hb2 p1;clear hb2;go_wp2_with fail;refine (ZW l[m] l[m+1] v _ HV.out).mono ?_;rintro e w2 ⟨rfl,hb2⟩;replace hbw:=hbw.trans (hb2.mono hbw.size);clear hb2;go_wp2_with fail
       go_roundw
       case rel=>exact ⟨m+1+1,by omega,by go_num,HN.out,hbw⟩
       case measure=>simp [intOf];omega
   ·obtain rfl:j=l.length:=by omega
    have HF:=A5 (QM G5 AI 0 l (by omega) HE.out);go_wp2_with fail;go_ret;exact ⟨AA (by rw [HF.out]),hbw⟩
theorem rB (A:Option Addr) (n c:Nat) (l:List Int) (w:World) (hl:BS w A l) (hn:n=l.length) (hsz:l.length<=10000) :
  Calls prog 188 #[.func (.func 191) #[] #[],.func (.func 190) #[] #[],.slice A n c] w (Ans w (.bool (C0 GS AI 0 l))):=by
 subst hn
 by_cases hlong:12<l.length
 ·have e:=A5 (O9 GS AI 0 l hlong);have h1:12<(l.length:Int):=by omega
  clear hl;go_enter func188,ntmps188;go_wp2_with fail;go_ret;exact ⟨AA (by rw [e.out]),start _⟩
 have hshort:¬ 12<(l.length:Int):=by omega
 by_cases hnil:l=[]
 ·subst hnil;go_enter func188,ntmps188;go_wp2_with fail;refine wp_loop_rounds 1 ?_;rw [rounds_succ];go_wp2_with fail;go_ret;exact ⟨rfl,start _⟩
 ·obtain ⟨b1,o1,rfl,hb1,hc1⟩:=hl hnil;have HC1:=A5 hc1;clear hl hc1 hnil;go_enter func188,ntmps188;go_wp2_with fail
  go_loopw [14] (fun i wr=>∃ j:Nat,j<=l.length/\i=.int .i64 j/\(∀ i,i<j->F0 GS AI 0 l i=true)/\Below w.heap.size w wr) (fun i _=>l.length-(intOf i).toNat)
  case atStart=>exact ⟨0,Nat.zero_le _,rfl,fun i h=>absurd h (Nat.not_lt_zero _),start _⟩
  case round =>
   obtain ⟨j,hj,rfl,heq,hbw⟩:=hrel;have HE:=A5 heq;clear heq
   by_cases hlt:j<l.length
   ·have hi0:(0:Int)<=(j:Int):=by omega
    have hi1:(j:Int)<(l.length:Int):=by omega
    cases hq:GS l[j]
    ·have p1:wr.cell? ⟨b1,o1+j,none⟩=some (.int .i64 l[j]):=(hbw.cell (p:=⟨b1,_,none⟩) hb1).trans (by first|exact HC1.out j hlt|simpa using HC1.out j hlt);have HN:=A5 (DC GS AI 0 l j hlt (EW _ _ _ _ _ hlt hq));have HQ:=A5 hq;clear hq;go_wp2_with fail;refine (AF (F6 (K1 l[j] _)) HQ.out).mono ?_;rintro e w1 ⟨rfl,hb2⟩;replace hbw:=hbw.trans (hb2.mono hbw.size);clear hb2;go_wp2_with fail;go_ret;exact ⟨AA (by rw [HN.out]),hbw⟩
    ·have HQ:=A5 hq;rcases Nat.eq_zero_or_pos j with hz|hz
     ·subst hz;have p1:wr.cell? ⟨b1,o1,none⟩=some (.int .i64 l[0]):=(hbw.cell (p:=⟨b1,_,none⟩) hb1).trans (by first|exact HC1.out 0 hlt|simpa using HC1.out 0 hlt);have HN:=A5 (CL GS AI 0 l 0 HE.out (by rw [I1 _ _ _ _ hlt];exact hq));clear hq;have g0:¬ (0:Int)<((0:Nat):Int):=by omega
      have g1:decide ((0:Int)<((0:Nat):Int))=false:=rfl;go_wp2_with fail;refine (AF (F6 (K1 l[0] _)) HQ.out).mono ?_;rintro e w1 ⟨rfl,hb2⟩;replace hbw:=hbw.trans (hb2.mono hbw.size);clear hb2;go_wp2_with fail
      go_roundw
      case rel=>exact ⟨1,by omega,by go_num,HN.out,hbw⟩
      case measure=>simp [intOf];omega
     ·obtain ⟨m,rfl⟩:∃ m,j=m+1:=⟨j-1,by omega⟩;have hlm:m<l.length:=Nat.lt_of_succ_lt hlt;have p1:wr.cell? ⟨b1,o1+(m+1),none⟩=some (.int .i64 l[(m+1)]):=(hbw.cell (p:=⟨b1,_,none⟩) hb1).trans (by first|exact HC1.out (m+1) hlt|simpa using HC1.out (m+1) hlt);have p0:wr.cell? ⟨b1,o1+m,none⟩=some (.int .i64 l[m]):=(hbw.cell (p:=⟨b1,_,none⟩) hb1).trans (by first|exact HC1.out m hlm|simpa using HC1.out m hlm);have g0:(0:Int)<((m+1:Nat):Int):=by omega
      have g1:decide ((0:Int)<((m+1:Nat):Int))=true:=z0H g0;have g2:((m+1:Nat):Int)-1=(m:Int):=by omega
      have g3:(0:Int)<=(m:Int):=by omega
      have g4:(m:Int)<(l.length:Int):=by omega
      have hs:=DP GS AI 0 l m hlt;rw [hq,Bool.true_and] at hs;clear hq
      cases hc:AI l[m] l[m+1]
      ·obtain ⟨v,hv,hv1,hv2⟩:=mP l[m] l[m+1] hc;have HV:=A5 hv;have HN:=A5 (DC GS AI 0 l (m+1) hlt (by rw [hs,hc]));clear hv hs hc;go_wp2_with fail;refine (AF (F6 (K1 l[m+1] _)) HQ.out).mono ?_;rintro e w1 ⟨rfl,hb2⟩;replace hbw:=hbw.trans (hb2.mono hbw.size);have q0:=A9 hb2 p0;have q1:=A9 hb2 p1;clear hb2;go_wp2_with fail;refine (ZW l[m] l[m+1] v _ HV.out).mono ?_;rintro e w2 ⟨rfl,hb2⟩;replace hbw:=hbw.trans (hb2.mono hbw.size);clear hb2;go_wp2_with fail;go_ret;exact ⟨AA (by rw [HN.out]),hbw⟩
      ·obtain ⟨v,hv,hv1,hv2⟩:=fI l[m] l[m+1] hc;have HV:=A5 hv;have HN:=A5 (CL GS AI 0 l (m+1) HE.out (by rw [hs,hc]));clear hv hs hc;go_wp2_with fail;refine (AF (F6 (K1 l[m+1] _)) HQ.out).mono ?_;rintro e w1 ⟨rfl,hb2⟩;replace hbw:=hbw.trans (hb2.mono hbw.size);have q0:=A9 hb2 p0;have q1:=A9 hb2 p1;clear hb2;go_wp2_with fail;refine (ZW l[m] l[m+1] v _ HV.out).mono ?_;rintro e w2 ⟨rfl,hb2⟩;replace hbw:=hbw.trans (hb2.mono hbw.size);clear hb2;go_wp2_with fail
       go_roundw
       case rel=>exact ⟨m+1+1,by omega,by go_num,HN.out,hbw⟩
       case measure=>simp [intOf];omega
   ·obtain rfl:j=l.length:=by omega
    have HF:=A5 (QM GS AI 0 l (by omega) HE.out);go_wp2_with fail;go_ret;exact ⟨AA (by rw [HF.out]),hbw⟩
theorem RH (A:Option Addr) (n c:Nat) (l:List Wd) (w:World) (hl:EL w A l) (hn:n=l.length) (hsz:l.length<=10000) :
  Calls prog 185 #[.func (.func 186) #[] #[],.func (.func 187) #[] #[],.slice A n c] w (Ans w (.bool (C0 EF BO (0,0) l))):=by
 subst hn
 by_cases hlong:12<l.length
 ·have e:=A5 (O9 EF BO (0,0) l hlong);have h1:12<(l.length:Int):=by omega
  clear hl;go_enter func185,ntmps185;go_wp2_with fail;go_ret;exact ⟨AA (by rw [e.out]),start _⟩
 have hshort:¬ 12<(l.length:Int):=by omega
 by_cases hnil:l=[]
 ·subst hnil;go_enter func185,ntmps185;go_wp2_with fail;refine wp_loop_rounds 1 ?_;rw [rounds_succ];go_wp2_with fail;go_ret;exact ⟨rfl,start _⟩
 ·obtain ⟨b1,o1,rfl,hb1,hc1⟩:=hl hnil;have HC1:=A5 hc1;clear hl hc1 hnil;go_enter func185,ntmps185;go_wp2_with fail
  go_loopw [14] (fun i wr=>∃ j:Nat,j<=l.length/\i=.int .i64 j/\(∀ i,i<j->F0 EF BO (0,0) l i=true)/\Below w.heap.size w wr) (fun i _=>l.length-(intOf i).toNat)
  case atStart=>exact ⟨0,Nat.zero_le _,rfl,fun i h=>absurd h (Nat.not_lt_zero _),start _⟩
  case round =>
   obtain ⟨j,hj,rfl,heq,hbw⟩:=hrel;have HE:=A5 heq;clear heq
   by_cases hlt:j<l.length
   ·have hi0:(0:Int)<=(j:Int):=by omega
    have hi1:(j:Int)<(l.length:Int):=by omega
    cases hq:EF l[j]
    ·have p1:wr.cell? ⟨b1,o1+j*2,none⟩=some (.int .i64 l[j].1):=(hbw.cell (p:=⟨b1,_,none⟩) hb1).trans (by first|exact (HC1.out j hlt).1|simpa using (HC1.out j hlt).1);have p1':wr.cell? ⟨b1,o1+j*2+1,none⟩=some (.int .i64 l[j].2):=(hbw.cell (p:=⟨b1,_,none⟩) hb1).trans (by first|exact (HC1.out j hlt).2|simpa using (HC1.out j hlt).2);have HN:=A5 (DC EF BO (0,0) l j hlt (EW _ _ _ _ _ hlt hq));have HQ:=A5 hq;clear hq;go_wp2_with fail;have hbx:=more hbw (.cells #[.int .i64 l[j].1,.int .i64 l[j].2] 114);have x0:(wr.alloc (.cells #[.int .i64 l[j].1,.int .i64 l[j].2] 114)).cell? ⟨wr.heap.size,0,none⟩=some (.int .i64 l[j].1):=by rw [World.cell?_alloc_at _ _ _ _ rfl];rfl
     have x1:(wr.alloc (.cells #[.int .i64 l[j].1,.int .i64 l[j].2] 114)).cell? ⟨wr.heap.size,1,none⟩=some (.int .i64 l[j].2):=by rw [World.cell?_alloc_at _ _ _ _ rfl];rfl
     generalize wr.alloc (.cells #[.int .i64 l[j].1,.int .i64 l[j].2] 114)=W at *;generalize wr.heap.size=X at *;have f0:=fun d os=>cell_regrown x0 d os
     have f1:=fun d os=>cell_regrown x1 d os
     clear x0 x1 p1 p1';refine wp_region_quiet_below (by kernel_rfl) (by kernel_rfl) ?_
     repeat (first|go_big_quiet_step ((first|(go_at_call 186;exact Calls.regrown_of (AF (DN l[j].1 l[j].2 _) HQ.out))))|quiet_step ((first|(go_at_call 186;exact Calls.regrown_of (AF (DN l[j].1 l[j].2 _) HQ.out)))))
     refine wpQuiet_nil ?_;intro _ hw';obtain ⟨⟨nq,osq⟩,hw''⟩:=hw';subst hw'';replace hbw:=hbx.trans ((below_regrown W nq osq).mono hbx.size);clear hbx;generalize grow (redrawn W nq) osq=W2 at *;go_wp2_with fail;go_ret;exact ⟨AA (by rw [HN.out]),hbw⟩
    ·have HQ:=A5 hq;rcases Nat.eq_zero_or_pos j with hz|hz
     ·subst hz;have p1:wr.cell? ⟨b1,o1,none⟩=some (.int .i64 l[0].1):=(hbw.cell (p:=⟨b1,_,none⟩) hb1).trans (by first|exact (HC1.out 0 hlt).1|simpa using (HC1.out 0 hlt).1);have p1':wr.cell? ⟨b1,o1+1,none⟩=some (.int .i64 l[0].2):=(hbw.cell (p:=⟨b1,_,none⟩) hb1).trans (by first|exact (HC1.out 0 hlt).2|simpa using (HC1.out 0 hlt).2);have HN:=A5 (CL EF BO (0,0) l 0 HE.out (by rw [I1 _ _ _ _ hlt];exact hq));clear hq;have g0:¬ (0:Int)<((0:Nat):Int):=by omega
      have g1:decide ((0:Int)<((0:Nat):Int))=false:=rfl;go_wp2_with fail;have hbx:=more hbw (.cells #[.int .i64 l[0].1,.int .i64 l[0].2] 114);have x0:(wr.alloc (.cells #[.int .i64 l[0].1,.int .i64 l[0].2] 114)).cell? ⟨wr.heap.size,0,none⟩=some (.int .i64 l[0].1):=by rw [World.cell?_alloc_at _ _ _ _ rfl];rfl
      have x1:(wr.alloc (.cells #[.int .i64 l[0].1,.int .i64 l[0].2] 114)).cell? ⟨wr.heap.size,1,none⟩=some (.int .i64 l[0].2):=by rw [World.cell?_alloc_at _ _ _ _ rfl];rfl
      generalize wr.alloc (.cells #[.int .i64 l[0].1,.int .i64 l[0].2] 114)=W at *;generalize wr.heap.size=X at *;have f0:=fun d os=>cell_regrown x0 d os
      have f1:=fun d os=>cell_regrown x1 d os
      clear x0 x1 p1 p1';refine wp_region_quiet_below (by kernel_rfl) (by kernel_rfl) ?_
      repeat (first|go_big_quiet_step ((first|(go_at_call 186;exact Calls.regrown_of (AF (DN l[0].1 l[0].2 _) HQ.out))))|quiet_step ((first|(go_at_call 186;exact Calls.regrown_of (AF (DN l[0].1 l[0].2 _) HQ.out)))))
      refine wpQuiet_nil ?_;intro _ hw';obtain ⟨⟨nq,osq⟩,hw''⟩:=hw';subst hw'';replace hbw:=hbx.trans ((below_regrown W nq osq).mono hbx.size);clear hbx;generalize grow (redrawn W nq) osq=W2 at *;go_wp2_with fail
      go_roundw
      case rel=>exact ⟨1,by omega,by go_num,HN.out,hbw⟩
      case measure=>simp [intOf];omega
     ·obtain ⟨m,rfl⟩:∃ m,j=m+1:=⟨j-1,by omega⟩;have hlm:m<l.length:=Nat.lt_of_succ_lt hlt;have p1:wr.cell? ⟨b1,o1+(m+1)*2,none⟩=some (.int .i64 l[(m+1)].1):=(hbw.cell (p:=⟨b1,_,none⟩) hb1).trans (by first|exact (HC1.out (m+1) hlt).1|simpa using (HC1.out (m+1) hlt).1);have p1':wr.cell? ⟨b1,o1+(m+1)*2+1,none⟩=some (.int .i64 l[(m+1)].2):=(hbw.cell (p:=⟨b1,_,none⟩) hb1).trans (by first|exact (HC1.out (m+1) hlt).2|simpa using (HC1.out (m+1) hlt).2);have p0:wr.cell? ⟨b1,o1+m*2,none⟩=some (.int .i64 l[m].1):=(hbw.cell (p:=⟨b1,_,none⟩) hb1).trans (by first|exact (HC1.out m hlm).1|simpa using (HC1.out m hlm).1);have p0':wr.cell? ⟨b1,o1+m*2+1,none⟩=some (.int .i64 l[m].2):=(hbw.cell (p:=⟨b1,_,none⟩) hb1).trans (by first|exact (HC1.out m hlm).2|simpa using (HC1.out m hlm).2);have g0:(0:Int)<((m+1:Nat):Int):=by omega
      have g1:decide ((0:Int)<((m+1:Nat):Int))=true:=z0H g0;have g2:((m+1:Nat):Int)-1=(m:Int):=by omega
      have g3:(0:Int)<=(m:Int):=by omega
      have g4:(m:Int)<(l.length:Int):=by omega
      have hs:=DP EF BO (0,0) l m hlt;rw [hq,Bool.true_and] at hs;clear hq
      cases hc:BO l[m] l[m+1]
      ·obtain ⟨v,hv,hv1,hv2⟩:=A0Z l[m] l[m+1] hc;have HV:=A5 hv;have HN:=A5 (DC EF BO (0,0) l (m+1) hlt (by rw [hs,hc]));clear hv hs hc;go_wp2_with fail;have hbx:=more hbw (.cells #[.int .i64 l[m+1].1,.int .i64 l[m+1].2] 114);have x0:(wr.alloc (.cells #[.int .i64 l[m+1].1,.int .i64 l[m+1].2] 114)).cell? ⟨wr.heap.size,0,none⟩=some (.int .i64 l[m+1].1):=by rw [World.cell?_alloc_at _ _ _ _ rfl];rfl
       have x1:(wr.alloc (.cells #[.int .i64 l[m+1].1,.int .i64 l[m+1].2] 114)).cell? ⟨wr.heap.size,1,none⟩=some (.int .i64 l[m+1].2):=by rw [World.cell?_alloc_at _ _ _ _ rfl];rfl
       have q0:=A9 (more (start wr) (.cells #[.int .i64 l[m+1].1,.int .i64 l[m+1].2] 114)) p0;have q0':=A9 (more (start wr) (.cells #[.int .i64 l[m+1].1,.int .i64 l[m+1].2] 114)) p0';generalize wr.alloc (.cells #[.int .i64 l[m+1].1,.int .i64 l[m+1].2] 114)=W at *;generalize wr.heap.size=X at *;have f0:=fun d os=>cell_regrown x0 d os
       have f1:=fun d os=>cell_regrown x1 d os
       have f2:=fun d os=>cell_regrown q0 d os
       have f3:=fun d os=>cell_regrown q0' d os
       clear x0 x1 p1 p1' q0 q0' p0 p0';refine wp_region_quiet_below (by kernel_rfl) (by kernel_rfl) ?_
       repeat (first|go_big_quiet_step ((first|(go_at_call 186;exact Calls.regrown_of (AF (DN l[m+1].1 l[m+1].2 _) HQ.out))|(go_at_call 187;exact Calls.regrown_of (TN l[m] l[m+1] v _ HV.out))))|quiet_step ((first|(go_at_call 186;exact Calls.regrown_of (AF (DN l[m+1].1 l[m+1].2 _) HQ.out))|(go_at_call 187;exact Calls.regrown_of (TN l[m] l[m+1] v _ HV.out)))))
       refine wpQuiet_nil ?_;intro _ hw';obtain ⟨⟨nq,osq⟩,hw''⟩:=hw';subst hw'';replace hbw:=hbx.trans ((below_regrown W nq osq).mono hbx.size);clear hbx;generalize grow (redrawn W nq) osq=W2 at *;go_wp2_with fail;go_ret;exact ⟨AA (by rw [HN.out]),hbw⟩
      ·obtain ⟨v,hv,hv1,hv2⟩:=yB l[m] l[m+1] hc;have HV:=A5 hv;have HN:=A5 (CL EF BO (0,0) l (m+1) HE.out (by rw [hs,hc]));clear hv hs hc;go_wp2_with fail;have hbx:=more hbw (.cells #[.int .i64 l[m+1].1,.int .i64 l[m+1].2] 114);have x0:(wr.alloc (.cells #[.int .i64 l[m+1].1,.int .i64 l[m+1].2] 114)).cell? ⟨wr.heap.size,0,none⟩=some (.int .i64 l[m+1].1):=by rw [World.cell?_alloc_at _ _ _ _ rfl];rfl
       have x1:(wr.alloc (.cells #[.int .i64 l[m+1].1,.int .i64 l[m+1].2] 114)).cell? ⟨wr.heap.size,1,none⟩=some (.int .i64 l[m+1].2):=by rw [World.cell?_alloc_at _ _ _ _ rfl];rfl
       have q0:=A9 (more (start wr) (.cells #[.int .i64 l[m+1].1,.int .i64 l[m+1].2] 114)) p0;have q0':=A9 (more (start wr) (.cells #[.int .i64 l[m+1].1,.int .i64 l[m+1].2] 114)) p0';generalize wr.alloc (.cells #[.int .i64 l[m+1].1,.int .i64 l[m+1].2] 114)=W at *;generalize wr.heap.size=X at *;have f0:=fun d os=>cell_regrown x0 d os
       have f1:=fun d os=>cell_regrown x1 d os
       have f2:=fun d os=>cell_regrown q0 d os
       have f3:=fun d os=>cell_regrown q0' d os
       clear x0 x1 p1 p1' q0 q0' p0 p0';refine wp_region_quiet_below (by kernel_rfl) (by kernel_rfl) ?_
       repeat (first|go_big_quiet_step ((first|(go_at_call 186;exact Calls.regrown_of (AF (DN l[m+1].1 l[m+1].2 _) HQ.out))|(go_at_call 187;exact Calls.regrown_of (TN l[m] l[m+1] v _ HV.out))))|quiet_step ((first|(go_at_call 186;exact Calls.regrown_of (AF (DN l[m+1].1 l[m+1].2 _) HQ.out))|(go_at_call 187;exact Calls.regrown_of (TN l[m] l[m+1] v _ HV.out)))))
       refine wpQuiet_nil ?_;intro _ hw';obtain ⟨⟨nq,osq⟩,hw''⟩:=hw';subst hw'';replace hbw:=hbx.trans ((below_regrown W nq osq).mono hbx.size);clear hbx;generalize grow (redrawn W nq) osq=W2 at *;go_wp2_with fail
       go_roundw
       case rel=>exact ⟨m+1+1,by omega,by go_num,HN.out,hbw⟩
       case measure=>simp [intOf];omega
   ·obtain rfl:j=l.length:=by omega
    have HF:=A5 (QM EF BO (0,0) l (by omega) HE.out);go_wp2_with fail;go_ret;exact ⟨AA (by rw [HF.out]),hbw⟩
theorem LK {α:Type} {l k:List α} {i:Nat} (hi:i<l.length) (hk:i<k.length) (h:l[i]≠k[i]):l≠k:=by
 rintro rfl;exact h rfl
theorem MP {α:Type} {l k:List α} (hl:l.length=k.length) (h:l.take l.length=k.take l.length):l=k:=by
 rw [List.take_length,hl,List.take_length] at h;exact h
theorem ZX (A B:Option Addr) (n m c d:Nat) (l k:List Int) (w:World) (hl:BS w A l) (hk:BS w B k) (hn:n=l.length) (hm:m=k.length) (hsz:l.length<=1000000) (hsk:k.length<=1000000) :
  Calls prog 194 #[.slice A n c,.slice B m d] w (Ans w (.bool (decide (l=k)))):=by
 subst hn hm
 by_cases hlen:l.length=k.length
 ·by_cases hnil:l=[]
  ·subst hnil;have hkn:k=[]:=List.eq_nil_of_length_eq_zero hlen.symm;subst hkn;go_enter func194,ntmps194;go_wp2_with fail;refine wp_loop_rounds 1 ?_;rw [rounds_succ];go_wp2_with fail;go_ret;exact ⟨rfl,start _⟩
  ·obtain ⟨b1,o1,rfl,hb1,hc1⟩:=hl hnil;obtain ⟨b2,o2,rfl,hb2,hc2⟩:=hk (by rintro rfl;exact hnil (List.eq_nil_of_length_eq_zero hlen));have HC1:=A5 hc1;have HC2:=A5 hc2;have HL:=A5 hlen;rw [<- hlen];clear hl hk hc1 hc2 hlen hnil;go_enter func194,ntmps194;go_wp2_with fail
   go_loopw [13] (fun i wr=>∃ j:Nat,j<=l.length/\i=.int .i64 j/\l.take j=k.take j/\Below w.heap.size w wr) (fun i _=>l.length-(intOf i).toNat)
   case atStart=>exact ⟨0,Nat.zero_le _,rfl,rfl,start _⟩
   case round =>
    obtain ⟨j,hj,rfl,heq,hbw⟩:=hrel;have HE:=A5 heq;clear heq
    by_cases hlt:j<l.length
    ·have hlk:j<k.length:=by have:=HL.out;omega
     have p1:wr.cell? ⟨b1,o1+j,none⟩=some (.int .i64 l[j]):=(hbw.cell (p:=⟨b1,_,none⟩) hb1).trans (HC1.out j hlt);have p3:wr.cell? ⟨b2,o2+j,none⟩=some (.int .i64 k[j]):=(hbw.cell (p:=⟨b2,_,none⟩) hb2).trans (HC2.out j hlk);have hi0:(0:Int)<=(j:Int):=by omega
     have hi1:(j:Int)<(l.length:Int):=by omega
     cases e1:(l[j]==k[j])
     ·have HN:Hid (l≠k):=by
       show l≠k
       refine LK hlt hlk fun h=>?_
       rw [h,beq_self_eq_true] at e1;cases e1
      have e9:(l[j] != k[j])=true:=by rw [bne,e1];rfl
      go_wp2_with fail;go_quiet (fail);go_wp2_with fail;go_ret;exact ⟨AA (z0G HN.out).symm,AJ hbw _⟩
     ·have HN:Hid (l.take (j+1)=k.take (j+1)):=by
       show l.take (j+1)=k.take (j+1)
       rw [List.take_succ_eq_append_getElem hlt,List.take_succ_eq_append_getElem hlk,HE.out]
       congr 2
       exact by simpa using e1
      have e9:(l[j] != k[j])=false:=by rw [bne,e1];rfl
      go_wp2_with fail;go_quiet (fail);go_wp2_with fail
      go_roundw
      case rel=>exact ⟨j+1,by omega,by go_num,HN.out,AJ hbw _⟩
      case measure=>simp [intOf];omega
    ·obtain rfl:j=l.length:=by omega
     have HF:Hid (l=k):=MP HL.out HE.out;go_wp2_with fail;go_ret;exact ⟨AA (z0H HF.out).symm,hbw⟩
 ·have HF:Hid (l≠k):=fun h=>hlen (by rw [h])
  have e0:(l.length==k.length)=false:=by rw [beq_eq_false_iff_ne];exact hlen
  have e1:((l.length:Int)==(k.length:Int))=false:=by rw [beq_eq_false_iff_ne];omega
  have e2:((l.length:Int) != (k.length:Int))=true:=by rw [bne_iff_ne];omega
  clear hl hk;go_enter func194,ntmps194;go_wp2_with fail;go_ret;exact ⟨AA (z0G HF.out).symm,start _⟩
theorem ZY (A B:Option Addr) (n m c d:Nat) (l k:List Wd) (w:World) (hl:EL w A l) (hk:EL w B k) (hn:n=l.length) (hm:m=k.length) (hsz:l.length<=1000000) (hsk:k.length<=1000000) :
  Calls prog 193 #[.slice A n c,.slice B m d] w (Ans w (.bool (decide (l=k)))):=by
 subst hn hm
 by_cases hlen:l.length=k.length
 ·by_cases hnil:l=[]
  ·subst hnil;have hkn:k=[]:=List.eq_nil_of_length_eq_zero hlen.symm;subst hkn;go_enter func193,ntmps193;go_wp2_with fail;refine wp_loop_rounds 1 ?_;rw [rounds_succ];go_wp2_with fail;go_ret;exact ⟨rfl,start _⟩
  ·obtain ⟨b1,o1,rfl,hb1,hc1⟩:=hl hnil;obtain ⟨b2,o2,rfl,hb2,hc2⟩:=hk (by rintro rfl;exact hnil (List.eq_nil_of_length_eq_zero hlen));have HC1:=A5 hc1;have HC2:=A5 hc2;have HL:=A5 hlen;rw [<- hlen];clear hl hk hc1 hc2 hlen hnil;go_enter func193,ntmps193;go_wp2_with fail
   go_loopw [13] (fun i wr=>∃ j:Nat,j<=l.length/\i=.int .i64 j/\l.take j=k.take j/\Below w.heap.size w wr) (fun i _=>l.length-(intOf i).toNat)
   case atStart=>exact ⟨0,Nat.zero_le _,rfl,rfl,start _⟩
   case round =>
    obtain ⟨j,hj,rfl,heq,hbw⟩:=hrel;have HE:=A5 heq;clear heq
    by_cases hlt:j<l.length
    ·have hlk:j<k.length:=by have:=HL.out;omega
     have p1:wr.cell? ⟨b1,o1+j*2,none⟩=some (.int .i64 l[j].1):=(hbw.cell (p:=⟨b1,_,none⟩) hb1).trans (HC1.out j hlt).1;have p2:wr.cell? ⟨b1,o1+j*2+1,none⟩=some (.int .i64 l[j].2):=(hbw.cell (p:=⟨b1,_,none⟩) hb1).trans (HC1.out j hlt).2;have p3:wr.cell? ⟨b2,o2+j*2,none⟩=some (.int .i64 k[j].1):=(hbw.cell (p:=⟨b2,_,none⟩) hb2).trans (HC2.out j hlk).1;have p4:wr.cell? ⟨b2,o2+j*2+1,none⟩=some (.int .i64 k[j].2):=(hbw.cell (p:=⟨b2,_,none⟩) hb2).trans (HC2.out j hlk).2;have hi0:(0:Int)<=(j:Int):=by omega
     have hi1:(j:Int)<(l.length:Int):=by omega
     cases e1:(l[j].1==k[j].1)
     ·have HN:Hid (l≠k):=by
       show l≠k
       refine LK hlt hlk fun h=>?_
       rw [h,beq_self_eq_true] at e1;cases e1
      have e9:(l[j].1 != k[j].1)=true:=by rw [bne,e1];rfl
      go_wp2_with fail;go_quiet (fail);go_wp2_with fail;go_ret;exact ⟨AA (z0G HN.out).symm,AJ hbw _⟩
     ·have e8:(l[j].1 != k[j].1)=false:=by rw [bne,e1];rfl
      cases e2:(l[j].2==k[j].2)
      ·have HN:Hid (l≠k):=by
        show l≠k
        refine LK hlt hlk fun h=>?_
        rw [h,beq_self_eq_true] at e2;cases e2
       have e9:(l[j].2 != k[j].2)=true:=by rw [bne,e2];rfl
       go_wp2_with fail;go_quiet (fail);go_wp2_with fail;go_ret;exact ⟨AA (z0G HN.out).symm,AJ hbw _⟩
      ·have HN:Hid (l.take (j+1)=k.take (j+1)):=by
        show l.take (j+1)=k.take (j+1)
        rw [List.take_succ_eq_append_getElem hlt,List.take_succ_eq_append_getElem hlk,HE.out]
        congr 2
        exact Prod.ext (by simpa using e1) (by simpa using e2)
       have e9:(l[j].2 != k[j].2)=false:=by rw [bne,e2];rfl
       go_wp2_with fail;go_quiet (fail);go_wp2_with fail
       go_roundw
       case rel=>exact ⟨j+1,by omega,by go_num,HN.out,AJ hbw _⟩
       case measure=>simp [intOf];omega
    ·obtain rfl:j=l.length:=by omega
     have HF:Hid (l=k):=MP HL.out HE.out;go_wp2_with fail;go_ret;exact ⟨AA (z0H HF.out).symm,hbw⟩
 ·have HF:Hid (l≠k):=fun h=>hlen (by rw [h])
  have e0:(l.length==k.length)=false:=by rw [beq_eq_false_iff_ne];exact hlen
  have e1:((l.length:Int)==(k.length:Int))=false:=by rw [beq_eq_false_iff_ne];omega
  have e2:((l.length:Int) != (k.length:Int))=true:=by rw [bne_iff_ne];omega
  clear hl hk;go_enter func193,ntmps193;go_wp2_with fail;go_ret;exact ⟨AA (z0G HF.out).symm,start _⟩
theorem NG (A B:Option Addr) (n m c d:Nat) (l k:List Int) (w:World) (hl:BS w A l) (hk:BS w B k) (hn:n=l.length) (hm:m=k.length) (hsz:l.length<=1000000) (hsk:k.length<=1000000) :
  Calls prog 78 #[.slice A n c,.slice B m d] w (Ans w (.bool (decide (l=k)))):=by
 subst hn hm
 by_cases hlen:l.length=k.length
 ·by_cases hnil:l=[]
  ·subst hnil;have hkn:k=[]:=List.eq_nil_of_length_eq_zero hlen.symm;subst hkn;go_enter func78,ntmps78;go_wp2_with fail;refine wp_loop_rounds 1 ?_;rw [rounds_succ];go_wp2_with fail;go_ret;exact ⟨rfl,start _⟩
  ·obtain ⟨b1,o1,rfl,hb1,hc1⟩:=hl hnil;obtain ⟨b2,o2,rfl,hb2,hc2⟩:=hk (by rintro rfl;exact hnil (List.eq_nil_of_length_eq_zero hlen));have HC1:=A5 hc1;have HC2:=A5 hc2;have HL:=A5 hlen;rw [<- hlen];clear hl hk hc1 hc2 hlen hnil;go_enter func78,ntmps78;go_wp2_with fail
   go_loopw [5] (fun i wr=>∃ j:Nat,j<=l.length/\i=.int .i64 j/\l.take j=k.take j/\Below w.heap.size w wr) (fun i _=>l.length-(intOf i).toNat)
   case atStart=>exact ⟨0,Nat.zero_le _,rfl,rfl,start _⟩
   case round =>
    obtain ⟨j,hj,rfl,heq,hbw⟩:=hrel;have HE:=A5 heq;clear heq
    by_cases hlt:j<l.length
    ·have hlk:j<k.length:=by have:=HL.out;omega
     have p1:wr.cell? ⟨b1,o1+j,none⟩=some (.int .i64 l[j]):=(hbw.cell (p:=⟨b1,_,none⟩) hb1).trans (HC1.out j hlt);have p3:wr.cell? ⟨b2,o2+j,none⟩=some (.int .i64 k[j]):=(hbw.cell (p:=⟨b2,_,none⟩) hb2).trans (HC2.out j hlk);have hi0:(0:Int)<=(j:Int):=by omega
     have hi1:(j:Int)<(l.length:Int):=by omega
     cases e1:(l[j]==k[j])
     ·have HN:Hid (l≠k):=by
       show l≠k
       refine LK hlt hlk fun h=>?_
       rw [h,beq_self_eq_true] at e1;cases e1
      have e9:(l[j] != k[j])=true:=by rw [bne,e1];rfl
      go_wp2_with fail;go_quiet (fail);go_wp2_with fail;go_ret;exact ⟨AA (z0G HN.out).symm,AJ hbw _⟩
     ·have HN:Hid (l.take (j+1)=k.take (j+1)):=by
       show l.take (j+1)=k.take (j+1)
       rw [List.take_succ_eq_append_getElem hlt,List.take_succ_eq_append_getElem hlk,HE.out]
       congr 2
       exact by simpa using e1
      have e9:(l[j] != k[j])=false:=by rw [bne,e1];rfl
      go_wp2_with fail;go_quiet (fail);go_wp2_with fail
      go_roundw
      case rel=>exact ⟨j+1,by omega,by go_num,HN.out,AJ hbw _⟩
      case measure=>simp [intOf];omega
    ·obtain rfl:j=l.length:=by omega
     have HF:Hid (l=k):=MP HL.out HE.out;go_wp2_with fail;go_ret;exact ⟨AA (z0H HF.out).symm,hbw⟩
 ·have HF:Hid (l≠k):=fun h=>hlen (by rw [h])
  have e0:(l.length==k.length)=false:=by rw [beq_eq_false_iff_ne];exact hlen
  have e1:((l.length:Int)==(k.length:Int))=false:=by rw [beq_eq_false_iff_ne];omega
  have e2:((l.length:Int) != (k.length:Int))=true:=by rw [bne_iff_ne];omega
  clear hl hk;go_enter func78,ntmps78;go_wp2_with fail;go_ret;exact ⟨AA (z0G HF.out).symm,start _⟩
structure DS (w:World) (D:Option Addr) (dn:Nat) (M:Option Addr) (mn:Nat) (Y:Option Addr) (yn:Nat) (ds:List Wd) (ms ys:List Int):Prop where
 d:EL w D ds
 dn:dn=ds.length
 dl:ds.length<=10000
 m:BS w M ms
 mn:mn=ms.length
 ml:ms.length<=10000
 y:BS w Y ys
 yn:yn=ys.length
 yl:ys.length<=10000
theorem DS.keep {w w':World} {D M Y:Option Addr} {dn mn yn:Nat} {ds:List Wd} {ms ys:List Int} (h:DS w D dn M mn Y yn ds ms ys) (hb:Below w.heap.size w w'):DS w' D dn M mn Y yn ds ms ys :=
 ⟨h.d.keep hb,h.dn,h.dl,h.m.keep hb,h.mn,h.ml,h.y.keep hb,h.yn,h.yl⟩
theorem K2 (fr ev ct un:Int) (D M Y:Option Addr) (dn dc mn mc yn yc:Nat) (w:World) :
  Calls prog 125 #[.agg #[.int .i64 fr,.int .i64 ev,.int .i64 ct,.int .i64 un,.slice D dn dc,.slice M mn mc,.slice Y yn yc]] w (Ans w (.agg #[.int .i64 fr,.int .i64 ev,.int .i64 ct,.int .i64 un,.slice D dn dc,.slice M mn mc,.slice Y yn yc])):=by
 go_enter func125,ntmps125;go_wp2_with fail;exact bodyPost_ret (v:=.agg #[.int .i64 fr,.int .i64 ev,.int .i64 ct,.int .i64 un,.slice D dn dc,.slice M mn mc,.slice Y yn yc]) (by simp [results,Tryz.results125,go_sem]) rfl ⟨rfl,more (more (start _) _) _⟩
theorem DE (w:World) :
  Calls prog 90 #[] w (Ans w (.agg #[.int .i64 0,.int .i64 0,.int .i64 0,.int .i64 (-1),.slice none 0 0,.slice none 0 0,.slice none 0 0])):=by
 go_enter func90,ntmps90;go_wp2_with fail;exact bodyPost_ret (v:=.agg #[.int .i64 0,.int .i64 0,.int .i64 0,.int .i64 (-1),.slice none 0 0,.slice none 0 0,.slice none 0 0]) (by simp [results,Tryz.results90,go_sem]) rfl ⟨rfl,more (start _) _⟩
def GQ (fr ev ct un:Int):Bool:=btw 1 fr 4&&(btw 1 ev 100&&(btw 0 ct 40&&(btw (-1) un 52595999&&((ct==0)||(un==-1)))))
theorem MQ (fr ev ct un:Int) (w:World) :
  Calls prog 159 #[.agg #[.int .i64 fr,.int .i64 ev,.int .i64 ct,.int .i64 un]] w (Ans w (.bool (GQ fr ev ct un))):=by
 cases h1:btw 1 fr 4
 ·have e:=A5 (show GQ fr ev ct un=false by unfold GQ;simp only [h1];rfl);have H1:=A5 h1;clear h1;go_enter func159,ntmps159;go_wp2_with fail;refine (EN _ _ _ _ _ H1.out).mono ?_;rintro e w' ⟨rfl,rfl⟩;go_wp2_with fail;go_ret;exact ⟨AA (by rw [e.out]),more (start _) _⟩
 ·cases h2:btw 1 ev 100
  ·have e:=A5 (show GQ fr ev ct un=false by unfold GQ;simp only [h1,h2];rfl);have H1:=A5 h1;have H2:=A5 h2;clear h1 h2;go_enter func159,ntmps159;go_wp2_with fail;refine (EN _ _ _ _ _ H1.out).mono ?_;rintro e w' ⟨rfl,rfl⟩;go_wp2_with fail;refine (EN _ _ _ _ _ H2.out).mono ?_;rintro e w' ⟨rfl,rfl⟩;go_wp2_with fail;go_ret;exact ⟨AA (by rw [e.out]),more (start _) _⟩
  ·cases h3:btw 0 ct 40
   ·have e:=A5 (show GQ fr ev ct un=false by unfold GQ;simp only [h1,h2,h3];rfl);have H1:=A5 h1;have H2:=A5 h2;have H3:=A5 h3;clear h1 h2 h3;go_enter func159,ntmps159;go_wp2_with fail;refine (EN _ _ _ _ _ H1.out).mono ?_;rintro e w' ⟨rfl,rfl⟩;go_wp2_with fail;refine (EN _ _ _ _ _ H2.out).mono ?_;rintro e w' ⟨rfl,rfl⟩;go_wp2_with fail;refine (EN _ _ _ _ _ H3.out).mono ?_;rintro e w' ⟨rfl,rfl⟩;go_wp2_with fail;go_ret;exact ⟨AA (by rw [e.out]),more (start _) _⟩
   ·cases h4:btw (-1) un 52595999
    ·have e:=A5 (show GQ fr ev ct un=false by unfold GQ;simp only [h1,h2,h3,h4];rfl);have H1:=A5 h1;have H2:=A5 h2;have H3:=A5 h3;have H4:=A5 h4;clear h1 h2 h3 h4;go_enter func159,ntmps159;go_wp2_with fail;refine (EN _ _ _ _ _ H1.out).mono ?_;rintro e w' ⟨rfl,rfl⟩;go_wp2_with fail;refine (EN _ _ _ _ _ H2.out).mono ?_;rintro e w' ⟨rfl,rfl⟩;go_wp2_with fail;refine (EN _ _ _ _ _ H3.out).mono ?_;rintro e w' ⟨rfl,rfl⟩;go_wp2_with fail;refine (EN _ _ _ _ _ H4.out).mono ?_;rintro e w' ⟨rfl,rfl⟩;go_wp2_with fail;go_ret;exact ⟨AA (by rw [e.out]),more (start _) _⟩
    ·cases h5:(ct==0)
     ·have e:=A5 (show GQ fr ev ct un=(un==-1) by unfold GQ;simp only [h1,h2,h3,h4,h5];rfl);have H1:=A5 h1;have H2:=A5 h2;have H3:=A5 h3;have H4:=A5 h4;clear h1 h2 h3 h4;go_enter func159,ntmps159;go_wp2_with fail;refine (EN _ _ _ _ _ H1.out).mono ?_;rintro e w' ⟨rfl,rfl⟩;go_wp2_with fail;refine (EN _ _ _ _ _ H2.out).mono ?_;rintro e w' ⟨rfl,rfl⟩;go_wp2_with fail;refine (EN _ _ _ _ _ H3.out).mono ?_;rintro e w' ⟨rfl,rfl⟩;go_wp2_with fail;refine (EN _ _ _ _ _ H4.out).mono ?_;rintro e w' ⟨rfl,rfl⟩;go_wp2_with fail;go_ret;exact ⟨AA (by rw [e.out]),more (start _) _⟩
     ·have e:=A5 (show GQ fr ev ct un=true by unfold GQ;simp only [h1,h2,h3,h4,h5];rfl);have H1:=A5 h1;have H2:=A5 h2;have H3:=A5 h3;have H4:=A5 h4;clear h1 h2 h3 h4;go_enter func159,ntmps159;go_wp2_with fail;refine (EN _ _ _ _ _ H1.out).mono ?_;rintro e w' ⟨rfl,rfl⟩;go_wp2_with fail;refine (EN _ _ _ _ _ H2.out).mono ?_;rintro e w' ⟨rfl,rfl⟩;go_wp2_with fail;refine (EN _ _ _ _ _ H3.out).mono ?_;rintro e w' ⟨rfl,rfl⟩;go_wp2_with fail;refine (EN _ _ _ _ _ H4.out).mono ?_;rintro e w' ⟨rfl,rfl⟩;go_wp2_with fail;go_ret;exact ⟨AA (by rw [e.out]),more (start _) _⟩
theorem OU (D M Y:Option Addr) (dn dc mn mc yn yc:Nat) (ds:List Wd) (w:World) (h:EL w D ds) (hn:dn=ds.length) (hl:ds.length<=10000) :
  Calls prog 192 #[.agg #[.slice D dn dc,.slice M mn mc,.slice Y yn yc]] w (Ans w (.bool (ds.any M5))):=by
 have hbx:=more (start w) (.cells #[.slice D dn dc,.slice M mn mc,.slice Y yn yc] 164);have HL:=A5 (h.keep hbx);have HN:=A5 hn;clear h hn;go_enter func192,ntmps192;go_wp2_with fail;refine (rA D dn dc ds _ HL.out HN.out hl).mono ?_;rintro e w1 ⟨rfl,hb1⟩;have HB:=A5 (andthen hbx hb1);clear hbx hb1;go_wp2_with fail;go_ret;exact ⟨rfl,HB.out⟩
def ZZ (ds:List Wd) (ms ys:List Int):Bool:=C0 EF BO (0,0) ds&&(C0 G5 AI 0 ms&&C0 GS AI 0 ys)
theorem fJ (D M Y:Option Addr) (dn dc mn mc yn yc:Nat) (ds:List Wd) (ms ys:List Int) (w:World) (h:DS w D dn M mn Y yn ds ms ys) :
  Calls prog 160 #[.agg #[.slice D dn dc,.slice M mn mc,.slice Y yn yc]] w (Ans w (.bool (ZZ ds ms ys))):=by
 have HBX:=A5 (more (start w) (.cells #[.slice D dn dc,.slice M mn mc,.slice Y yn yc] 164));have s1:(w.alloc (.cells #[.slice D dn dc,.slice M mn mc,.slice Y yn yc] 164)).cell? ⟨w.heap.size,1,none⟩=some (.slice M mn mc):=by rw [World.cell?_alloc_at _ _ _ _ rfl];rfl
 have s2:(w.alloc (.cells #[.slice D dn dc,.slice M mn mc,.slice Y yn yc] 164)).cell? ⟨w.heap.size,2,none⟩=some (.slice Y yn yc):=by rw [World.cell?_alloc_at _ _ _ _ rfl];rfl
 have HL:=A5 (h.keep HBX.out);clear h
 cases h1:C0 EF BO (0,0) ds
 ·have e:=A5 (show ZZ ds ms ys=false by unfold ZZ;simp only [h1];rfl);have H1:=A5 h1;clear h1;go_enter func160,ntmps160;go_wp2_with fail;refine (AF (RH D dn dc ds _ HL.out.d HL.out.dn HL.out.dl) H1.out).mono ?_;rintro e w1 ⟨rfl,hb1⟩;replace HBX:=A5 (andthen HBX.out hb1);clear hb1;clear s1 s2;go_wp2_with fail;go_ret;exact ⟨AA (by rw [e.out]),HBX.out⟩
 ·cases h2:C0 G5 AI 0 ms
  ·have e:=A5 (show ZZ ds ms ys=false by unfold ZZ;simp only [h1,h2];rfl);have H1:=A5 h1;have H2:=A5 h2;clear h1 h2;go_enter func160,ntmps160;go_wp2_with fail;refine (AF (RH D dn dc ds _ HL.out.d HL.out.dn HL.out.dl) H1.out).mono ?_;rintro e w1 ⟨rfl,hb1⟩;replace HBX:=A5 (andthen HBX.out hb1);replace HL:=A5 (HL.out.keep hb1);replace s1:=A9 hb1 s1;replace s2:=A9 hb1 s2;clear hb1;go_wp2_with fail;refine (AF (Y4 M mn mc ms _ HL.out.m HL.out.mn HL.out.ml) H2.out).mono ?_;rintro e w1 ⟨rfl,hb1⟩;replace HBX:=A5 (andthen HBX.out hb1);clear hb1;clear s1 s2;go_wp2_with fail;go_ret;exact ⟨AA (by rw [e.out]),HBX.out⟩
  ·have e:=A5 (show ZZ ds ms ys=C0 GS AI 0 ys by unfold ZZ;simp only [h1,h2];rfl);have H1:=A5 h1;have H2:=A5 h2;clear h1 h2;go_enter func160,ntmps160;go_wp2_with fail;refine (AF (RH D dn dc ds _ HL.out.d HL.out.dn HL.out.dl) H1.out).mono ?_;rintro e w1 ⟨rfl,hb1⟩;replace HBX:=A5 (andthen HBX.out hb1);replace HL:=A5 (HL.out.keep hb1);replace s1:=A9 hb1 s1;replace s2:=A9 hb1 s2;clear hb1;go_wp2_with fail;refine (AF (Y4 M mn mc ms _ HL.out.m HL.out.mn HL.out.ml) H2.out).mono ?_;rintro e w1 ⟨rfl,hb1⟩;replace HBX:=A5 (andthen HBX.out hb1);replace HL:=A5 (HL.out.keep hb1);replace s1:=A9 hb1 s1;replace s2:=A9 hb1 s2;clear hb1;go_wp2_with fail;refine (rB Y yn yc ys _ HL.out.y HL.out.yn HL.out.yl).mono ?_;rintro e w1 ⟨rfl,hb1⟩;replace HBX:=A5 (andthen HBX.out hb1);clear hb1;clear s1 s2;go_wp2_with fail;go_ret;exact ⟨AA (by rw [e.out]),HBX.out⟩
def NQ (fr:Int) (ds:List Wd) (ms ys:List Int):Bool :=
 if fr=1 then !ds.any M5
 else if fr=2 then !ds.any M5&&decide (ms.length=0)
 else if fr=4 then decide (0<ys.length)||(decide (ds.length=0)&&decide (ms.length=0))
 else true
theorem mQ (l:Nat) (h:l=0):((l:Int)==0)=true:=by subst h;rfl
theorem aA (l:Nat) (h:¬ l=0):((l:Int)==0)=false:=by rw [beq_eq_false_iff_ne];omega
theorem jV (fr ev ct un:Int) (D M Y:Option Addr) (dn dc mn mc yn yc:Nat) (ds:List Wd) (ms ys:List Int) (w:World) (h:DS w D dn M mn Y yn ds ms ys) :
  Calls prog 161 #[.agg #[.int .i64 fr,.int .i64 ev,.int .i64 ct,.int .i64 un,.slice D dn dc,.slice M mn mc,.slice Y yn yc]] w (Ans w (.bool (NQ fr ds ms ys))):=by
 have HBX:=A5 (more (start w) (.cells #[.int .i64 fr,.int .i64 ev,.int .i64 ct,.int .i64 un,.slice D dn dc,.slice M mn mc,.slice Y yn yc] 166));have HL:=A5 (h.keep HBX.out);have HN:=A5 (And.intro h.dn (And.intro h.mn h.yn));have s1:(w.alloc (.cells #[.int .i64 fr,.int .i64 ev,.int .i64 ct,.int .i64 un,.slice D dn dc,.slice M mn mc,.slice Y yn yc] 166)).cell? ⟨w.heap.size,5,none⟩=some (.slice M mn mc):=by rw [World.cell?_alloc_at _ _ _ _ rfl];rfl
 clear h
 by_cases k1:fr=1
 ·subst k1;have e:=A5 (show NQ 1 ds ms ys=!ds.any M5 from rfl);clear s1;go_enter func161,ntmps161;go_wp2_with fail;refine (OU D M Y dn dc mn mc yn yc ds _ HL.out.d HL.out.dn HL.out.dl).mono ?_;rintro e w1 ⟨rfl,hb1⟩;replace HBX:=A5 (andthen HBX.out hb1);clear hb1;go_wp2_with fail;go_ret;exact ⟨AA (by rw [e.out]),HBX.out⟩
 have n1:(fr==1)=false:=by rw [beq_eq_false_iff_ne];exact k1
 by_cases k2:fr=2
 ·subst k2
  cases hp:ds.any M5
  ·have e:=A5 (show NQ 2 ds ms ys=decide (ms.length=0) by unfold NQ;rw [if_neg (by omega),if_pos rfl,hp];rfl);have HP:=A5 hp;have hm:((mn:Int)==0)=decide (ms.length=0):=by
    rw [HN.out.2.1]
    by_cases hz:ms.length=0
    ·rw [mQ _ hz,z0H hz]
    ·rw [aA _ hz,z0G hz]
   have HM:=A5 hm;clear hp hm k1 n1;go_enter func161,ntmps161;go_wp2_with fail;refine (AF (OU D M Y dn dc mn mc yn yc ds _ HL.out.d HL.out.dn HL.out.dl) HP.out).mono ?_;rintro e w1 ⟨rfl,hb1⟩;replace HBX:=A5 (andthen HBX.out hb1);replace s1:=A9 hb1 s1;clear hb1;go_wp2_with fail;go_ret;exact ⟨AA (by rw [e.out,<- HM.out]),HBX.out⟩
  ·have e:=A5 (show NQ 2 ds ms ys=false by unfold NQ;rw [if_neg (by omega),if_pos rfl,hp];rfl);have HP:=A5 hp;clear hp k1 n1 s1;go_enter func161,ntmps161;go_wp2_with fail;refine (AF (OU D M Y dn dc mn mc yn yc ds _ HL.out.d HL.out.dn HL.out.dl) HP.out).mono ?_;rintro e w1 ⟨rfl,hb1⟩;replace HBX:=A5 (andthen HBX.out hb1);clear hb1;go_wp2_with fail;go_ret;exact ⟨AA (by rw [e.out]),HBX.out⟩
 have n2:(fr==2)=false:=by rw [beq_eq_false_iff_ne];exact k2
 by_cases k4:fr=4
 ·subst k4;clear s1 k1 k2 n1 n2
  by_cases hy:0<ys.length
  ·have e:=A5 (show NQ 4 ds ms ys=true by unfold NQ;rw [if_neg (by omega),if_neg (by omega),if_pos rfl,z0H hy];rfl);have g0:0<yn:=by rw [HN.out.2.2];exact hy
   have g:decide (0<(yn:Int))=true:=z0H (by omega);have g1:decide (0<yn)=true:=z0H g0;clear hy;go_enter func161,ntmps161;go_wp2_with fail;go_ret;exact ⟨AA (by rw [e.out]),HBX.out⟩
  ·obtain rfl:yn=0:=by rw [HN.out.2.2];omega
   by_cases hd:ds.length=0
   ·have e:=A5 (show NQ 4 ds ms ys=decide (ms.length=0) by unfold NQ;rw [if_neg (by omega),if_neg (by omega),if_pos rfl,z0G hy,z0H hd];rfl);obtain rfl:dn=0:=by rw [HN.out.1];exact hd
    have hm:((mn:Int)==0)=decide (ms.length=0):=by
     rw [HN.out.2.1]
     by_cases hz:ms.length=0
     ·rw [mQ _ hz,z0H hz]
     ·rw [aA _ hz,z0G hz]
    have HM:=A5 hm;clear hm hd hy;go_enter func161,ntmps161;go_wp2_with fail;go_ret;exact ⟨AA (by rw [e.out,<- HM.out];try simp),HBX.out⟩
   ·have e:=A5 (show NQ 4 ds ms ys=false by unfold NQ;rw [if_neg (by omega),if_neg (by omega),if_pos rfl,z0G hy,z0G hd];rfl);have g2:((dn:Int)==0)=false:=by rw [HN.out.1];exact aA _ hd
    have g3:¬ dn=0:=by rw [HN.out.1];exact hd
    have g4:(dn==0)=false:=by rw [beq_eq_false_iff_ne];exact g3
    clear hd hy;go_enter func161,ntmps161;go_wp2_with fail;go_ret;exact ⟨AA (by rw [e.out]),HBX.out⟩
 have n4:(fr==4)=false:=by rw [beq_eq_false_iff_ne];exact k4
 have e:=A5 (show NQ fr ds ms ys=true by unfold NQ;rw [if_neg k1,if_neg k2,if_neg k4]);clear s1 k1 k2 k4;go_enter func161,ntmps161;go_wp2_with fail;go_ret;exact ⟨AA (by rw [e.out]),HBX.out⟩
theorem C7 (w:World):DS w none 0 none 0 none 0 [] [] [] :=
 ⟨EL.nil _ _,rfl,by simp,BS.nil _ _,rfl,by simp,BS.nil _ _,rfl,by simp⟩
def eq3 (ds ds2:List Wd) (ms ms2 ys ys2:List Int):Bool:=decide (ds=ds2)&&(decide (ms=ms2)&&decide (ys=ys2))
theorem rC (D M Y D2 M2 Y2:Option Addr) (dn dc mn mc yn yc dn2 dc2 mn2 mc2 yn2 yc2:Nat) (ds:List Wd) (ms ys:List Int) (ds2:List Wd) (ms2 ys2:List Int) (w:World) (h:DS w D dn M mn Y yn ds ms ys) (h2:DS w D2 dn2 M2 mn2 Y2 yn2 ds2 ms2 ys2) :
  Calls prog 162 #[.agg #[.slice D dn dc,.slice M mn mc,.slice Y yn yc],.agg #[.slice D2 dn2 dc2,.slice M2 mn2 mc2,.slice Y2 yn2 yc2]] w (Ans w (.bool (eq3 ds ds2 ms ms2 ys ys2))):=by
 have HBX:=A5 (more (more (start w) (.cells #[.slice D dn dc,.slice M mn mc,.slice Y yn yc] 164)) (.cells #[.slice D2 dn2 dc2,.slice M2 mn2 mc2,.slice Y2 yn2 yc2] 164));have s1:((w.alloc (.cells #[.slice D dn dc,.slice M mn mc,.slice Y yn yc] 164)).alloc (.cells #[.slice D2 dn2 dc2,.slice M2 mn2 mc2,.slice Y2 yn2 yc2] 164)).cell? ⟨w.heap.size,1,none⟩=some (.slice M mn mc):=by rw [World.cell?_alloc_past _ _ _ (by simp),World.cell?_alloc_at _ _ _ _ rfl];rfl
 have s2:((w.alloc (.cells #[.slice D dn dc,.slice M mn mc,.slice Y yn yc] 164)).alloc (.cells #[.slice D2 dn2 dc2,.slice M2 mn2 mc2,.slice Y2 yn2 yc2] 164)).cell? ⟨w.heap.size,2,none⟩=some (.slice Y yn yc):=by rw [World.cell?_alloc_past _ _ _ (by simp),World.cell?_alloc_at _ _ _ _ rfl];rfl
 have t1:((w.alloc (.cells #[.slice D dn dc,.slice M mn mc,.slice Y yn yc] 164)).alloc (.cells #[.slice D2 dn2 dc2,.slice M2 mn2 mc2,.slice Y2 yn2 yc2] 164)).cell? ⟨w.heap.size+1,1,none⟩=some (.slice M2 mn2 mc2):=by rw [World.cell?_alloc_at _ _ _ _ (by simp)];rfl
 have t2:((w.alloc (.cells #[.slice D dn dc,.slice M mn mc,.slice Y yn yc] 164)).alloc (.cells #[.slice D2 dn2 dc2,.slice M2 mn2 mc2,.slice Y2 yn2 yc2] 164)).cell? ⟨w.heap.size+1,2,none⟩=some (.slice Y2 yn2 yc2):=by rw [World.cell?_alloc_at _ _ _ _ (by simp)];rfl
 have HL:=A5 (h.keep HBX.out);have HL2:=A5 (h2.keep HBX.out);clear h h2
 cases h1:decide (ds=ds2)
 ·have e:=A5 (show eq3 ds ds2 ms ms2 ys ys2=false by unfold eq3;simp only [h1];rfl);have H1:=A5 h1;clear h1;go_enter func162,ntmps162;go_wp2_with fail;refine (AF (ZY D D2 dn dn2 dc dc2 ds ds2 _ HL.out.d HL2.out.d HL.out.dn HL2.out.dn (by have:=HL.out.dl;omega) (by have:=HL2.out.dl;omega)) H1.out).mono ?_;rintro e w1 ⟨rfl,hb1⟩;replace HBX:=A5 (andthen HBX.out hb1);clear hb1 s1 s2 t1 t2;go_wp2_with fail;go_ret;exact ⟨AA (by rw [e.out]),HBX.out⟩
 ·cases h2:decide (ms=ms2)
  ·have e:=A5 (show eq3 ds ds2 ms ms2 ys ys2=false by unfold eq3;simp only [h1,h2];rfl);have H1:=A5 h1;have H2:=A5 h2;clear h1 h2;go_enter func162,ntmps162;go_wp2_with fail;refine (AF (ZY D D2 dn dn2 dc dc2 ds ds2 _ HL.out.d HL2.out.d HL.out.dn HL2.out.dn (by have:=HL.out.dl;omega) (by have:=HL2.out.dl;omega)) H1.out).mono ?_;rintro e w1 ⟨rfl,hb1⟩;replace HBX:=A5 (andthen HBX.out hb1);replace HL:=A5 (HL.out.keep hb1);replace HL2:=A5 (HL2.out.keep hb1);replace s1:=A9 hb1 s1;replace s2:=A9 hb1 s2;replace t1:=A9 hb1 t1;replace t2:=A9 hb1 t2;clear hb1;go_wp2_with fail;refine (AF (ZX M M2 mn mn2 mc mc2 ms ms2 _ HL.out.m HL2.out.m HL.out.mn HL2.out.mn (by have:=HL.out.ml;omega) (by have:=HL2.out.ml;omega)) H2.out).mono ?_;rintro e w1 ⟨rfl,hb1⟩;replace HBX:=A5 (andthen HBX.out hb1);clear hb1 s1 s2 t1 t2;go_wp2_with fail;go_ret;exact ⟨AA (by rw [e.out]),HBX.out⟩
  ·have e:=A5 (show eq3 ds ds2 ms ms2 ys ys2=decide (ys=ys2) by unfold eq3;simp only [h1,h2];rfl);have H1:=A5 h1;have H2:=A5 h2;clear h1 h2;go_enter func162,ntmps162;go_wp2_with fail;refine (AF (ZY D D2 dn dn2 dc dc2 ds ds2 _ HL.out.d HL2.out.d HL.out.dn HL2.out.dn (by have:=HL.out.dl;omega) (by have:=HL2.out.dl;omega)) H1.out).mono ?_;rintro e w1 ⟨rfl,hb1⟩;replace HBX:=A5 (andthen HBX.out hb1);replace HL:=A5 (HL.out.keep hb1);replace HL2:=A5 (HL2.out.keep hb1);replace s1:=A9 hb1 s1;replace s2:=A9 hb1 s2;replace t1:=A9 hb1 t1;replace t2:=A9 hb1 t2;clear hb1;go_wp2_with fail;refine (AF (ZX M M2 mn mn2 mc mc2 ms ms2 _ HL.out.m HL2.out.m HL.out.mn HL2.out.mn (by have:=HL.out.ml;omega) (by have:=HL2.out.ml;omega)) H2.out).mono ?_;rintro e w1 ⟨rfl,hb1⟩;replace HBX:=A5 (andthen HBX.out hb1);replace HL:=A5 (HL.out.keep hb1);replace HL2:=A5 (HL2.out.keep hb1);replace s1:=A9 hb1 s1;replace s2:=A9 hb1 s2;replace t1:=A9 hb1 t1;replace t2:=A9 hb1 t2;clear hb1;go_wp2_with fail;refine (ZX Y Y2 yn yn2 yc yc2 ys ys2 _ HL.out.y HL2.out.y HL.out.yn HL2.out.yn (by have:=HL.out.yl;omega) (by have:=HL2.out.yl;omega)).mono ?_;rintro e w1 ⟨rfl,hb1⟩;replace HBX:=A5 (andthen HBX.out hb1);clear hb1 s1 s2 t1 t2;go_wp2_with fail;go_ret;exact ⟨AA (by rw [e.out]),HBX.out⟩
theorem aB (fr ev ct un:Int) (ds:List Wd) (ms ys:List Int):GH ⟨fr,ev,ct,un,ds,ms,ys⟩=(GQ fr ev ct un&&(ZZ ds ms ys&&NQ fr ds ms ys)):=rfl
theorem VK (fr ev ct un:Int) (D M Y:Option Addr) (dn dc mn mc yn yc:Nat) (ds:List Wd) (ms ys:List Int) (w:World) (h:DS w D dn M mn Y yn ds ms ys) :
  Calls prog 126 #[.agg #[.int .i64 fr,.int .i64 ev,.int .i64 ct,.int .i64 un,.slice D dn dc,.slice M mn mc,.slice Y yn yc]] w (Ans w (.bool (GH ⟨fr,ev,ct,un,ds,ms,ys⟩))):=by
 have HBX:=A5 (more (start w) (.cells #[.int .i64 fr,.int .i64 ev,.int .i64 ct,.int .i64 un,.slice D dn dc,.slice M mn mc,.slice Y yn yc] 166));have hAC:∀ i v,(#[.int .i64 fr,.int .i64 ev,.int .i64 ct,.int .i64 un,.slice D dn dc,.slice M mn mc,.slice Y yn yc]:Array Value)[i]?=some v->(w.alloc (.cells #[.int .i64 fr,.int .i64 ev,.int .i64 ct,.int .i64 un,.slice D dn dc,.slice M mn mc,.slice Y yn yc] 166)).cell? ⟨w.heap.size,i,none⟩=some v:=fun i v h=>by rw [World.cell?_alloc_at _ _ _ _ rfl];exact h
 have s0:=hAC 0 _ rfl;have s1:=hAC 1 _ rfl;have s2:=hAC 2 _ rfl;have s3:=hAC 3 _ rfl;have s4:=hAC 4 _ rfl;have s5:=hAC 5 _ rfl;have s6:=hAC 6 _ rfl;clear hAC;have HL:=A5 (h.keep HBX.out);clear h
 cases h1:GQ fr ev ct un
 ·have e:=A5 (show GH ⟨fr,ev,ct,un,ds,ms,ys⟩=false by rw [aB];simp only [h1];rfl);have H1:=A5 h1;clear h1;go_enter func126,ntmps126;go_wp2_with fail;refine (AF (MQ fr ev ct un _) H1.out).mono ?_;rintro e w1 ⟨rfl,hb1⟩;replace HBX:=A5 (andthen HBX.out hb1);clear hb1 s0 s1 s2 s3 s4 s5 s6;go_wp2_with fail;go_ret;exact ⟨AA (by rw [e.out]),HBX.out⟩
 ·cases h2:ZZ ds ms ys
  ·have e:=A5 (show GH ⟨fr,ev,ct,un,ds,ms,ys⟩=false by rw [aB];simp only [h1,h2];rfl);have H1:=A5 h1;have H2:=A5 h2;clear h1 h2;go_enter func126,ntmps126;go_wp2_with fail;refine (AF (MQ fr ev ct un _) H1.out).mono ?_;rintro e w1 ⟨rfl,hb1⟩;replace HBX:=A5 (andthen HBX.out hb1);replace HL:=A5 (HL.out.keep hb1);replace s0:=A9 hb1 s0;replace s1:=A9 hb1 s1;replace s2:=A9 hb1 s2;replace s3:=A9 hb1 s3;replace s4:=A9 hb1 s4;replace s5:=A9 hb1 s5;replace s6:=A9 hb1 s6;clear hb1;go_wp2_with fail;refine (AF (fJ D M Y dn dc mn mc yn yc ds ms ys _ HL.out) H2.out).mono ?_;rintro e w1 ⟨rfl,hb1⟩;replace HBX:=A5 (andthen HBX.out hb1);clear hb1 s0 s1 s2 s3 s4 s5 s6;go_wp2_with fail;go_ret;exact ⟨AA (by rw [e.out]),HBX.out⟩
  ·have e:=A5 (show GH ⟨fr,ev,ct,un,ds,ms,ys⟩=NQ fr ds ms ys by rw [aB];simp only [h1,h2];rfl);have H1:=A5 h1;have H2:=A5 h2;clear h1 h2;go_enter func126,ntmps126;go_wp2_with fail;refine (AF (MQ fr ev ct un _) H1.out).mono ?_;rintro e w1 ⟨rfl,hb1⟩;replace HBX:=A5 (andthen HBX.out hb1);replace HL:=A5 (HL.out.keep hb1);replace s0:=A9 hb1 s0;replace s1:=A9 hb1 s1;replace s2:=A9 hb1 s2;replace s3:=A9 hb1 s3;replace s4:=A9 hb1 s4;replace s5:=A9 hb1 s5;replace s6:=A9 hb1 s6;clear hb1;go_wp2_with fail;refine (AF (fJ D M Y dn dc mn mc yn yc ds ms ys _ HL.out) H2.out).mono ?_;rintro e w1 ⟨rfl,hb1⟩;replace HBX:=A5 (andthen HBX.out hb1);replace HL:=A5 (HL.out.keep hb1);replace s0:=A9 hb1 s0;replace s1:=A9 hb1 s1;replace s2:=A9 hb1 s2;replace s3:=A9 hb1 s3;replace s4:=A9 hb1 s4;replace s5:=A9 hb1 s5;replace s6:=A9 hb1 s6;clear hb1;go_wp2_with fail;refine (jV fr ev ct un D M Y dn dc mn mc yn yc ds ms ys _ HL.out).mono ?_;rintro e w1 ⟨rfl,hb1⟩;replace HBX:=A5 (andthen HBX.out hb1);clear hb1 s0 s1 s2 s3 s4 s5 s6;go_wp2_with fail;go_ret;exact ⟨AA (by rw [e.out]),HBX.out⟩
theorem DK (fr ev ct un fr2 ev2 ct2 un2:Int) (ds:List Wd) (ms ys:List Int) (ds2:List Wd) (ms2 ys2:List Int):C9 ⟨fr,ev,ct,un,ds,ms,ys⟩ ⟨fr2,ev2,ct2,un2,ds2,ms2,ys2⟩=((fr==fr2)&&((ev==ev2)&&((ct==ct2)&&(un==un2)))&&eq3 ds ds2 ms ms2 ys ys2):=by
 show (decide (fr=fr2/\ev=ev2/\ct=ct2/\un=un2)&&eq3 ds ds2 ms ms2 ys ys2)=_
 congr 1
 rw [Bool.eq_iff_iff];simp
theorem Y5 (fr ev ct un:Int) (D M Y:Option Addr) (dn dc mn mc yn yc:Nat) (fr2 ev2 ct2 un2:Int) (D2 M2 Y2:Option Addr) (dn2 dc2 mn2 mc2 yn2 yc2:Nat) (ds:List Wd) (ms ys:List Int) (ds2:List Wd) (ms2 ys2:List Int) (w:World) (h:DS w D dn M mn Y yn ds ms ys) (h2:DS w D2 dn2 M2 mn2 Y2 yn2 ds2 ms2 ys2) :
  Calls prog 127 #[.agg #[.int .i64 fr,.int .i64 ev,.int .i64 ct,.int .i64 un,.slice D dn dc,.slice M mn mc,.slice Y yn yc],.agg #[.int .i64 fr2,.int .i64 ev2,.int .i64 ct2,.int .i64 un2,.slice D2 dn2 dc2,.slice M2 mn2 mc2,.slice Y2 yn2 yc2]] w (Ans w (.bool (C9 ⟨fr,ev,ct,un,ds,ms,ys⟩ ⟨fr2,ev2,ct2,un2,ds2,ms2,ys2⟩))):=by
 have HBX:=A5 (more (more (start w) (.cells #[.int .i64 fr,.int .i64 ev,.int .i64 ct,.int .i64 un,.slice D dn dc,.slice M mn mc,.slice Y yn yc] 166)) (.cells #[.int .i64 fr2,.int .i64 ev2,.int .i64 ct2,.int .i64 un2,.slice D2 dn2 dc2,.slice M2 mn2 mc2,.slice Y2 yn2 yc2] 166));have HL:=A5 (h.keep HBX.out);have HL2:=A5 (h2.keep HBX.out);clear h h2
 cases h1:(fr==fr2)
 ·have e:=A5 (show C9 ⟨fr,ev,ct,un,ds,ms,ys⟩ ⟨fr2,ev2,ct2,un2,ds2,ms2,ys2⟩=false by rw [DK];simp only [h1];rfl);clear HL HL2;go_enter func127,ntmps127;go_wp2_with fail;go_ret;exact ⟨AA (by rw [e.out]),HBX.out⟩
 ·cases h2:(ev==ev2)
  ·have e:=A5 (show C9 ⟨fr,ev,ct,un,ds,ms,ys⟩ ⟨fr2,ev2,ct2,un2,ds2,ms2,ys2⟩=false by rw [DK];simp only [h1,h2];rfl);clear HL HL2;go_enter func127,ntmps127;go_wp2_with fail;go_ret;exact ⟨AA (by rw [e.out]),HBX.out⟩
  ·cases h3:(ct==ct2)
   ·have e:=A5 (show C9 ⟨fr,ev,ct,un,ds,ms,ys⟩ ⟨fr2,ev2,ct2,un2,ds2,ms2,ys2⟩=false by rw [DK];simp only [h1,h2,h3];rfl);clear HL HL2;go_enter func127,ntmps127;go_wp2_with fail;go_ret;exact ⟨AA (by rw [e.out]),HBX.out⟩
   ·cases h4:(un==un2)
    ·have e:=A5 (show C9 ⟨fr,ev,ct,un,ds,ms,ys⟩ ⟨fr2,ev2,ct2,un2,ds2,ms2,ys2⟩=false by rw [DK];simp only [h1,h2,h3,h4];rfl);clear HL HL2;go_enter func127,ntmps127;go_wp2_with fail;go_ret;exact ⟨AA (by rw [e.out]),HBX.out⟩
    ·have e:=A5 (show C9 ⟨fr,ev,ct,un,ds,ms,ys⟩ ⟨fr2,ev2,ct2,un2,ds2,ms2,ys2⟩=eq3 ds ds2 ms ms2 ys ys2 by rw [DK];simp only [h1,h2,h3,h4];rfl);go_enter func127,ntmps127;go_wp2_with fail;refine (rC D M Y D2 M2 Y2 dn dc mn mc yn yc dn2 dc2 mn2 mc2 yn2 yc2 ds ms ys ds2 ms2 ys2 _ HL.out HL2.out).mono ?_;rintro e w1 ⟨rfl,hb1⟩;replace HBX:=A5 (andthen HBX.out hb1);clear hb1;go_wp2_with fail;go_ret;exact ⟨AA (by rw [e.out]),HBX.out⟩
theorem E7 (fr ev ct un:Int) (D M Y:Option Addr) (dn dc mn mc yn yc:Nat) (fr2 ev2 ct2 un2:Int) (D2 M2 Y2:Option Addr) (dn2 dc2 mn2 mc2 yn2 yc2:Nat) (ds:List Wd) (ms ys:List Int) (ds2:List Wd) (ms2 ys2:List Int) (w:World) (h:DS w D dn M mn Y yn ds ms ys) (h2:DS w D2 dn2 M2 mn2 Y2 yn2 ds2 ms2 ys2) :
  Calls prog 89 #[.agg #[.int .i64 fr,.int .i64 ev,.int .i64 ct,.int .i64 un,.slice D dn dc,.slice M mn mc,.slice Y yn yc],.agg #[.int .i64 fr2,.int .i64 ev2,.int .i64 ct2,.int .i64 un2,.slice D2 dn2 dc2,.slice M2 mn2 mc2,.slice Y2 yn2 yc2]] w (Ans w (.bool (C9 ⟨fr,ev,ct,un,ds,ms,ys⟩ ⟨fr2,ev2,ct2,un2,ds2,ms2,ys2⟩))):=by
 have HBX:=A5 (more (more (start w) (.cells #[.int .i64 fr,.int .i64 ev,.int .i64 ct,.int .i64 un,.slice D dn dc,.slice M mn mc,.slice Y yn yc] 44)) (.cells #[.int .i64 fr2,.int .i64 ev2,.int .i64 ct2,.int .i64 un2,.slice D2 dn2 dc2,.slice M2 mn2 mc2,.slice Y2 yn2 yc2] 44));have HL:=A5 (h.keep HBX.out);have HL2:=A5 (h2.keep HBX.out);have s0:((w.alloc (.cells #[.int .i64 fr,.int .i64 ev,.int .i64 ct,.int .i64 un,.slice D dn dc,.slice M mn mc,.slice Y yn yc] 44)).alloc (.cells #[.int .i64 fr2,.int .i64 ev2,.int .i64 ct2,.int .i64 un2,.slice D2 dn2 dc2,.slice M2 mn2 mc2,.slice Y2 yn2 yc2] 44)).cell? ⟨w.heap.size,0,none⟩=some (.int .i64 fr):=by rw [World.cell?_alloc_past _ _ _ (by simp),World.cell?_alloc_at _ _ _ _ rfl];rfl
 have s1:((w.alloc (.cells #[.int .i64 fr,.int .i64 ev,.int .i64 ct,.int .i64 un,.slice D dn dc,.slice M mn mc,.slice Y yn yc] 44)).alloc (.cells #[.int .i64 fr2,.int .i64 ev2,.int .i64 ct2,.int .i64 un2,.slice D2 dn2 dc2,.slice M2 mn2 mc2,.slice Y2 yn2 yc2] 44)).cell? ⟨w.heap.size,1,none⟩=some (.int .i64 ev):=by rw [World.cell?_alloc_past _ _ _ (by simp),World.cell?_alloc_at _ _ _ _ rfl];rfl
 have s2:((w.alloc (.cells #[.int .i64 fr,.int .i64 ev,.int .i64 ct,.int .i64 un,.slice D dn dc,.slice M mn mc,.slice Y yn yc] 44)).alloc (.cells #[.int .i64 fr2,.int .i64 ev2,.int .i64 ct2,.int .i64 un2,.slice D2 dn2 dc2,.slice M2 mn2 mc2,.slice Y2 yn2 yc2] 44)).cell? ⟨w.heap.size,2,none⟩=some (.int .i64 ct):=by rw [World.cell?_alloc_past _ _ _ (by simp),World.cell?_alloc_at _ _ _ _ rfl];rfl
 have s3:((w.alloc (.cells #[.int .i64 fr,.int .i64 ev,.int .i64 ct,.int .i64 un,.slice D dn dc,.slice M mn mc,.slice Y yn yc] 44)).alloc (.cells #[.int .i64 fr2,.int .i64 ev2,.int .i64 ct2,.int .i64 un2,.slice D2 dn2 dc2,.slice M2 mn2 mc2,.slice Y2 yn2 yc2] 44)).cell? ⟨w.heap.size,3,none⟩=some (.int .i64 un):=by rw [World.cell?_alloc_past _ _ _ (by simp),World.cell?_alloc_at _ _ _ _ rfl];rfl
 have s4:((w.alloc (.cells #[.int .i64 fr,.int .i64 ev,.int .i64 ct,.int .i64 un,.slice D dn dc,.slice M mn mc,.slice Y yn yc] 44)).alloc (.cells #[.int .i64 fr2,.int .i64 ev2,.int .i64 ct2,.int .i64 un2,.slice D2 dn2 dc2,.slice M2 mn2 mc2,.slice Y2 yn2 yc2] 44)).cell? ⟨w.heap.size,4,none⟩=some (.slice D dn dc):=by rw [World.cell?_alloc_past _ _ _ (by simp),World.cell?_alloc_at _ _ _ _ rfl];rfl
 have s5:((w.alloc (.cells #[.int .i64 fr,.int .i64 ev,.int .i64 ct,.int .i64 un,.slice D dn dc,.slice M mn mc,.slice Y yn yc] 44)).alloc (.cells #[.int .i64 fr2,.int .i64 ev2,.int .i64 ct2,.int .i64 un2,.slice D2 dn2 dc2,.slice M2 mn2 mc2,.slice Y2 yn2 yc2] 44)).cell? ⟨w.heap.size,5,none⟩=some (.slice M mn mc):=by rw [World.cell?_alloc_past _ _ _ (by simp),World.cell?_alloc_at _ _ _ _ rfl];rfl
 have s6:((w.alloc (.cells #[.int .i64 fr,.int .i64 ev,.int .i64 ct,.int .i64 un,.slice D dn dc,.slice M mn mc,.slice Y yn yc] 44)).alloc (.cells #[.int .i64 fr2,.int .i64 ev2,.int .i64 ct2,.int .i64 un2,.slice D2 dn2 dc2,.slice M2 mn2 mc2,.slice Y2 yn2 yc2] 44)).cell? ⟨w.heap.size,6,none⟩=some (.slice Y yn yc):=by rw [World.cell?_alloc_past _ _ _ (by simp),World.cell?_alloc_at _ _ _ _ rfl];rfl
 have t0:((w.alloc (.cells #[.int .i64 fr,.int .i64 ev,.int .i64 ct,.int .i64 un,.slice D dn dc,.slice M mn mc,.slice Y yn yc] 44)).alloc (.cells #[.int .i64 fr2,.int .i64 ev2,.int .i64 ct2,.int .i64 un2,.slice D2 dn2 dc2,.slice M2 mn2 mc2,.slice Y2 yn2 yc2] 44)).cell? ⟨w.heap.size+1,0,none⟩=some (.int .i64 fr2):=by rw [World.cell?_alloc_at _ _ _ _ (by simp)];rfl
 have t1:((w.alloc (.cells #[.int .i64 fr,.int .i64 ev,.int .i64 ct,.int .i64 un,.slice D dn dc,.slice M mn mc,.slice Y yn yc] 44)).alloc (.cells #[.int .i64 fr2,.int .i64 ev2,.int .i64 ct2,.int .i64 un2,.slice D2 dn2 dc2,.slice M2 mn2 mc2,.slice Y2 yn2 yc2] 44)).cell? ⟨w.heap.size+1,1,none⟩=some (.int .i64 ev2):=by rw [World.cell?_alloc_at _ _ _ _ (by simp)];rfl
 have t2:((w.alloc (.cells #[.int .i64 fr,.int .i64 ev,.int .i64 ct,.int .i64 un,.slice D dn dc,.slice M mn mc,.slice Y yn yc] 44)).alloc (.cells #[.int .i64 fr2,.int .i64 ev2,.int .i64 ct2,.int .i64 un2,.slice D2 dn2 dc2,.slice M2 mn2 mc2,.slice Y2 yn2 yc2] 44)).cell? ⟨w.heap.size+1,2,none⟩=some (.int .i64 ct2):=by rw [World.cell?_alloc_at _ _ _ _ (by simp)];rfl
 have t3:((w.alloc (.cells #[.int .i64 fr,.int .i64 ev,.int .i64 ct,.int .i64 un,.slice D dn dc,.slice M mn mc,.slice Y yn yc] 44)).alloc (.cells #[.int .i64 fr2,.int .i64 ev2,.int .i64 ct2,.int .i64 un2,.slice D2 dn2 dc2,.slice M2 mn2 mc2,.slice Y2 yn2 yc2] 44)).cell? ⟨w.heap.size+1,3,none⟩=some (.int .i64 un2):=by rw [World.cell?_alloc_at _ _ _ _ (by simp)];rfl
 have t4:((w.alloc (.cells #[.int .i64 fr,.int .i64 ev,.int .i64 ct,.int .i64 un,.slice D dn dc,.slice M mn mc,.slice Y yn yc] 44)).alloc (.cells #[.int .i64 fr2,.int .i64 ev2,.int .i64 ct2,.int .i64 un2,.slice D2 dn2 dc2,.slice M2 mn2 mc2,.slice Y2 yn2 yc2] 44)).cell? ⟨w.heap.size+1,4,none⟩=some (.slice D2 dn2 dc2):=by rw [World.cell?_alloc_at _ _ _ _ (by simp)];rfl
 have t5:((w.alloc (.cells #[.int .i64 fr,.int .i64 ev,.int .i64 ct,.int .i64 un,.slice D dn dc,.slice M mn mc,.slice Y yn yc] 44)).alloc (.cells #[.int .i64 fr2,.int .i64 ev2,.int .i64 ct2,.int .i64 un2,.slice D2 dn2 dc2,.slice M2 mn2 mc2,.slice Y2 yn2 yc2] 44)).cell? ⟨w.heap.size+1,5,none⟩=some (.slice M2 mn2 mc2):=by rw [World.cell?_alloc_at _ _ _ _ (by simp)];rfl
 have t6:((w.alloc (.cells #[.int .i64 fr,.int .i64 ev,.int .i64 ct,.int .i64 un,.slice D dn dc,.slice M mn mc,.slice Y yn yc] 44)).alloc (.cells #[.int .i64 fr2,.int .i64 ev2,.int .i64 ct2,.int .i64 un2,.slice D2 dn2 dc2,.slice M2 mn2 mc2,.slice Y2 yn2 yc2] 44)).cell? ⟨w.heap.size+1,6,none⟩=some (.slice Y2 yn2 yc2):=by rw [World.cell?_alloc_at _ _ _ _ (by simp)];rfl
 clear h h2;go_enter func89,ntmps89;go_wp2_with fail;generalize ((w.alloc (.cells #[.int .i64 fr,.int .i64 ev,.int .i64 ct,.int .i64 un,.slice D dn dc,.slice M mn mc,.slice Y yn yc] 44)).alloc (.cells #[.int .i64 fr2,.int .i64 ev2,.int .i64 ct2,.int .i64 un2,.slice D2 dn2 dc2,.slice M2 mn2 mc2,.slice Y2 yn2 yc2] 44))=W at *;have fs0:=fun d os=>cell_regrown s0 d os
 have fs1:=fun d os=>cell_regrown s1 d os
 have fs2:=fun d os=>cell_regrown s2 d os
 have fs3:=fun d os=>cell_regrown s3 d os
 have fs4:=fun d os=>cell_regrown s4 d os
 have fs5:=fun d os=>cell_regrown s5 d os
 have fs6:=fun d os=>cell_regrown s6 d os
 have ft0:=fun d os=>cell_regrown t0 d os
 have ft1:=fun d os=>cell_regrown t1 d os
 have ft2:=fun d os=>cell_regrown t2 d os
 have ft3:=fun d os=>cell_regrown t3 d os
 have ft4:=fun d os=>cell_regrown t4 d os
 have ft5:=fun d os=>cell_regrown t5 d os
 have ft6:=fun d os=>cell_regrown t6 d os
 have L1:=fun d os=>DS.keep HL.out (below_regrown W d os)
 have L2:=fun d os=>DS.keep HL2.out (below_regrown W d os)
 replace L1:=A5 L1;replace L2:=A5 L2;clear HL HL2 s0 s1 s2 s3 s4 s5 s6 t0 t1 t2 t3 t4 t5 t6;refine wp_region_quiet_below (by kernel_rfl) (by kernel_rfl) ?_
 repeat (first|go_big_quiet_step ((first|(go_at_call 125;exact Calls.regrown_of (K2 _ _ _ _ _ _ _ _ _ _ _ _ _ _))|(go_at_call 127;exact Calls.regrown_of (Y5 fr ev ct un D M Y dn dc mn mc yn yc fr2 ev2 ct2 un2 D2 M2 Y2 dn2 dc2 mn2 mc2 yn2 yc2 ds ms ys ds2 ms2 ys2 _ (L1.out _ _) (L2.out _ _)))))|quiet_step ((first|(go_at_call 125;exact Calls.regrown_of (K2 _ _ _ _ _ _ _ _ _ _ _ _ _ _))|(go_at_call 127;exact Calls.regrown_of (Y5 fr ev ct un D M Y dn dc mn mc yn yc fr2 ev2 ct2 un2 D2 M2 Y2 dn2 dc2 mn2 mc2 yn2 yc2 ds ms ys ds2 ms2 ys2 _ (L1.out _ _) (L2.out _ _))))))
 refine wpQuiet_nil ?_;intro _ hw';obtain ⟨⟨nq,osq⟩,hw''⟩:=hw';subst hw'';replace HBX:=A5 (andthen HBX.out (below_regrown W nq osq));go_wp2_with fail;go_ret;exact ⟨rfl,HBX.out⟩
theorem CY (fr ev ct un:Int) (D M Y:Option Addr) (dn dc mn mc yn yc:Nat) (ds:List Wd) (ms ys:List Int) (w:World) (h:DS w D dn M mn Y yn ds ms ys) :
  Calls prog 88 #[.agg #[.int .i64 fr,.int .i64 ev,.int .i64 ct,.int .i64 un,.slice D dn dc,.slice M mn mc,.slice Y yn yc]] w (Ans w (.bool (isB ⟨fr,ev,ct,un,ds,ms,ys⟩))):=by
 have HBX:=A5 (more (start w) (.cells #[.int .i64 fr,.int .i64 ev,.int .i64 ct,.int .i64 un,.slice D dn dc,.slice M mn mc,.slice Y yn yc] 44));have HL:=A5 (h.keep HBX.out);have hAC:∀ i v,(#[.int .i64 fr,.int .i64 ev,.int .i64 ct,.int .i64 un,.slice D dn dc,.slice M mn mc,.slice Y yn yc]:Array Value)[i]?=some v->(w.alloc (.cells #[.int .i64 fr,.int .i64 ev,.int .i64 ct,.int .i64 un,.slice D dn dc,.slice M mn mc,.slice Y yn yc] 44)).cell? ⟨w.heap.size,i,none⟩=some v:=fun i v h=>by rw [World.cell?_alloc_at _ _ _ _ rfl];exact h
 have s0:=hAC 0 _ rfl;have s1:=hAC 1 _ rfl;have s2:=hAC 2 _ rfl;have s3:=hAC 3 _ rfl;have s4:=hAC 4 _ rfl;have s5:=hAC 5 _ rfl;have s6:=hAC 6 _ rfl;clear hAC;clear h
 cases hs:C9 ⟨fr,ev,ct,un,ds,ms,ys⟩ ⟨0,0,0,-1,[],[],[]⟩
 ·have e:=A5 (show isB ⟨fr,ev,ct,un,ds,ms,ys⟩=GH ⟨fr,ev,ct,un,ds,ms,ys⟩ by unfold isB;rw [show C9 ⟨fr,ev,ct,un,ds,ms,ys⟩ once=false from hs];rfl);have HS:=A5 hs;clear hs;go_enter func88,ntmps88;go_wp2_with fail;generalize (w.alloc (.cells #[.int .i64 fr,.int .i64 ev,.int .i64 ct,.int .i64 un,.slice D dn dc,.slice M mn mc,.slice Y yn yc] 44))=W at *;have fs0:=fun d os=>cell_regrown s0 d os
  have fs1:=fun d os=>cell_regrown s1 d os
  have fs2:=fun d os=>cell_regrown s2 d os
  have fs3:=fun d os=>cell_regrown s3 d os
  have fs4:=fun d os=>cell_regrown s4 d os
  have fs5:=fun d os=>cell_regrown s5 d os
  have fs6:=fun d os=>cell_regrown s6 d os
  have L1:=A5 (fun d os=>DS.keep HL.out (below_regrown W d os));clear HL s0 s1 s2 s3 s4 s5 s6;refine wp_region_quiet_below (by kernel_rfl) (by kernel_rfl) ?_
  repeat (first|go_big_quiet_step ((first|(go_at_call 90;exact Calls.regrown_of (DE _))|(go_at_call 89;exact Calls.regrown_of (AF (E7 fr ev ct un D M Y dn dc mn mc yn yc 0 0 0 (-1) none none none 0 0 0 0 0 0 ds ms ys [] [] [] _ (L1.out _ _) (C7 _)) HS.out))|(go_at_call 125;exact Calls.regrown_of (K2 _ _ _ _ _ _ _ _ _ _ _ _ _ _))|(go_at_call 126;exact Calls.regrown_of (VK fr ev ct un D M Y dn dc mn mc yn yc ds ms ys _ (L1.out _ _)))))|quiet_step ((first|(go_at_call 90;exact Calls.regrown_of (DE _))|(go_at_call 89;exact Calls.regrown_of (AF (E7 fr ev ct un D M Y dn dc mn mc yn yc 0 0 0 (-1) none none none 0 0 0 0 0 0 ds ms ys [] [] [] _ (L1.out _ _) (C7 _)) HS.out))|(go_at_call 125;exact Calls.regrown_of (K2 _ _ _ _ _ _ _ _ _ _ _ _ _ _))|(go_at_call 126;exact Calls.regrown_of (VK fr ev ct un D M Y dn dc mn mc yn yc ds ms ys _ (L1.out _ _))))))
  refine wpQuiet_nil ?_;intro _ hw';obtain ⟨⟨nq,osq⟩,hw''⟩:=hw';subst hw'';replace HBX:=A5 (andthen HBX.out (below_regrown W nq osq));go_wp2_with fail;go_ret;exact ⟨AA (by rw [e.out]),HBX.out⟩
 ·have e:=A5 (show isB ⟨fr,ev,ct,un,ds,ms,ys⟩=true by unfold isB;rw [show C9 ⟨fr,ev,ct,un,ds,ms,ys⟩ once=true from hs];rfl);have HS:=A5 hs;clear hs;go_enter func88,ntmps88;go_wp2_with fail;generalize (w.alloc (.cells #[.int .i64 fr,.int .i64 ev,.int .i64 ct,.int .i64 un,.slice D dn dc,.slice M mn mc,.slice Y yn yc] 44))=W at *;have fs0:=fun d os=>cell_regrown s0 d os
  have fs1:=fun d os=>cell_regrown s1 d os
  have fs2:=fun d os=>cell_regrown s2 d os
  have fs3:=fun d os=>cell_regrown s3 d os
  have fs4:=fun d os=>cell_regrown s4 d os
  have fs5:=fun d os=>cell_regrown s5 d os
  have fs6:=fun d os=>cell_regrown s6 d os
  have L1:=A5 (fun d os=>DS.keep HL.out (below_regrown W d os));clear HL s0 s1 s2 s3 s4 s5 s6;refine wp_region_quiet_below (by kernel_rfl) (by kernel_rfl) ?_
  repeat (first|go_big_quiet_step ((first|(go_at_call 90;exact Calls.regrown_of (DE _))|(go_at_call 89;exact Calls.regrown_of (AF (E7 fr ev ct un D M Y dn dc mn mc yn yc 0 0 0 (-1) none none none 0 0 0 0 0 0 ds ms ys [] [] [] _ (L1.out _ _) (C7 _)) HS.out))))|quiet_step ((first|(go_at_call 90;exact Calls.regrown_of (DE _))|(go_at_call 89;exact Calls.regrown_of (AF (E7 fr ev ct un D M Y dn dc mn mc yn yc 0 0 0 (-1) none none none 0 0 0 0 0 0 ds ms ys [] [] [] _ (L1.out _ _) (C7 _)) HS.out)))))
  refine wpQuiet_nil ?_;intro _ hw';obtain ⟨⟨nq,osq⟩,hw''⟩:=hw';subst hw'';replace HBX:=A5 (andthen HBX.out (below_regrown W nq osq));go_wp2_with fail;go_ret;exact ⟨AA (by rw [e.out]),HBX.out⟩
theorem B6 {P:Program} {f:Func} {Q:Ending->World->Prop} {a:Act} {W:World} (E:World->Prop) (he:E W) (k:∀ WF,E WF->bodyPost P f Q .ret a WF):bodyPost P f Q .ret a W:=k W he
abbrev Six (w:World) (p:Nat) (x0 x1 x2 x3 x4 x5:Value) (W:World):Prop :=
 W.cell? ⟨p,0,none⟩=some x0/\W.cell? ⟨p,1,none⟩=some x1/\W.cell? ⟨p,2,none⟩=some x2/\W.cell? ⟨p,3,none⟩=some x3/\W.cell? ⟨p,4,none⟩=some x4/\W.cell? ⟨p,5,none⟩=some x5/\Below w.heap.size w W
theorem Six.keep {w W W1:World} {p:Nat} {x0 x1 x2 x3 x4 x5:Value} (h:Six w p x0 x1 x2 x3 x4 x5 W) (hb:Below W.heap.size W W1):Six w p x0 x1 x2 x3 x4 x5 W1 :=
 ⟨A9 hb h.1,A9 hb h.2.1,A9 hb h.2.2.1,A9 hb h.2.2.2.1,A9 hb h.2.2.2.2.1,A9 hb h.2.2.2.2.2.1,andthen h.2.2.2.2.2.2 hb⟩
abbrev yC (p q:Nat) (m:Int) (W:World):Prop:=W.cell? ⟨q,1,none⟩=some (.int .i64 m)/\W.cell? ⟨p,0,none⟩=some (.int .i64 0)/\W.cell? ⟨p,1,none⟩=some (.int .i64 0)/\W.cell? ⟨p,2,none⟩=some (.int .i64 0)/\W.cell? ⟨p,3,none⟩=some (.int .i64 0)/\W.cell? ⟨p,4,none⟩=some (.int .i64 0)/\W.cell? ⟨p,5,none⟩=some (.int .i64 0)/\W.frozen? ⟨p,0,none⟩=false/\W.frozen? ⟨p,1,none⟩=false/\W.frozen? ⟨p,2,none⟩=false/\W.frozen? ⟨p,3,none⟩=false/\W.frozen? ⟨p,4,none⟩=false/\W.frozen? ⟨p,5,none⟩=false
theorem yC.keep {p q:Nat} {m:Int} {W W1:World} (hb:Below W.heap.size W W1) (h:yC p q m W):yC p q m W1:=by
 obtain ⟨c,z0,z1,z2,z3,z4,z5,f0,f1,f2,f3,f4,f5⟩:=h;have hp:=block_lt_of_cell z0;exact ⟨A9 hb c,A9 hb z0,A9 hb z1,A9 hb z2,A9 hb z3,A9 hb z4,A9 hb z5,(hb.frozen (p:=⟨p,0,none⟩) hp).trans f0,(hb.frozen (p:=⟨p,1,none⟩) hp).trans f1,(hb.frozen (p:=⟨p,2,none⟩) hp).trans f2,(hb.frozen (p:=⟨p,3,none⟩) hp).trans f3,(hb.frozen (p:=⟨p,4,none⟩) hp).trans f4,(hb.frozen (p:=⟨p,5,none⟩) hp).trans f5⟩
theorem plus (g j:Nat):(⟨g,0,none⟩:Addr).add j=⟨g,j,none⟩:=by unfold Addr.add;split <;> simp_all
def GN (l:List Int):List Value:=l.map (Value.int .i64)
theorem LM (l:List Int):(GN l).length=l.length:=List.length_map _
theorem WJ (l k:List Int):GN (l++k)=GN l++GN k:=List.map_append
abbrev BV (w:World) (B:Nat) (v:Value) (l:List Int):Prop:=w.ownsRow B 3 1 v l.length (GN l)
theorem BV.row {w:World} {B:Nat} {v:Value} {l:List Int} (h:BV w B v l):∃ A cap,v=.slice A l.length cap/\BS w A l:=by
 have h2:=h.2;rcases h2 with ⟨rfl,hn⟩|⟨g,cap,cur,rfl,hb,hg,hnc,hcm,hcs,htake⟩
 ·refine ⟨none,0,by rw [hn],fun hl=>absurd (List.eq_nil_of_length_eq_zero hn) hl⟩
 ·refine ⟨some ⟨g,0,none⟩,cap,rfl,fun _=>⟨g,0,rfl,(h.lt g rfl).2,fun i hi=>?_⟩⟩;have hc:=World.ownsRow.cells h (g:=g) rfl;have g1:=hc i (.int .i64 l[i]) (by simp [GN,hi]);rw [plus] at g1;rw [Nat.zero_add];exact g1
theorem BV.keep {w w1:World} {B:Nat} {v:Value} {l:List Int} (h:BV w B v l) (hb:Below w.heap.size w w1):BV w1 B v l :=
 World.ownsRow.kept (row:=none) h ⟨hb.os,hb.tape,hb.output,hb.size,fun i hi _=>hb.block i hi⟩ (by cases v.ownBlock <;> simp)
theorem KQ (w:World) (B:Nat):BV w B (.slice none 0 0) []:=World.ownsRow_nil _ _ _ _
theorem VL:(prog.info? 3).map (fun i=>(i.zero,i.size,i.bytes))=some (some (.int .i64 0),1,8):=by kernel_rfl
theorem FR {ops:Array Oper} {rest:List Oper} {o:Oper} {a:Act} {Q:Exit->Act->World->Prop} {w:World} {B:Nat} {v:Value} {l:List Int} {p:Int} (hgd:o.guard=none) (s x:Operand)
  (ho:o.op=.call { callee:=.builtin .append,args:=#[s,x],argTypes:=#[41,41] }) (hs:a.eval s=v) {N:Nat} (hN:w.heap.size=N) (hx:a.eval x=.slice (some ⟨N,0,none⟩) 1 1)
  (hown:BV w B v l) (hB:B<=w.heap.size) (hn:l.length<=1000000)
  (h:∀ v' w',BV w' B v' (l++[p])->Below B w w'->wpList prog ops Q rest (a.put o.dst v') w') :
  wpList prog ops Q (o :: rest) a (w.alloc (.cells #[.int .i64 p] 3)):=by
 subst hN;obtain ⟨i0,hi,hz0,hz1,hz2⟩:=info_parts VL;refine wpList_append_own _ hgd s x 41 ho B 3 i0 _ 1 8 underlying41 hi hz0 hz1 hz2 rfl (by decide) v l.length (GN l) hs (hown.alloc _) ⟨w.heap.size,0,none⟩ 1 1 [.int .i64 p] hx rfl ?_ ?_ ?_ ?_ ?_ ?_
 ·intro j u hu;rw [plus,World.cell?_alloc_at _ _ _ _ rfl];exact (by simpa using hu)
 ·intro u hu;simp only [List.mem_cons,List.not_mem_nil,or_false] at hu;subst hu;rfl
 ·unfold maxLen;omega
 ·omega
 ·simp only [World.size_alloc];omega
 ·intro v' w' h2 h3 _;refine h v' w' (by rw [BV,WJ,z0J];exact h2) (((Below.refl B w).alloc hB _).grown h3 (by simp only [World.size_alloc];omega) fun j hj=>(hown.lt j hj).1)
def FC (l:List Wd):List Value:=l.flatMap fun a=>[.int .i64 a.1,.int .i64 a.2]
theorem MR (a:Wd) (l:List Wd):FC (a :: l)=.int .i64 a.1 :: .int .i64 a.2 :: FC l:=rfl
theorem WK (l k:List Wd):FC (l++k)=FC l++FC k:=by simp [FC]
theorem JO:∀ l:List Wd,(FC l).length=l.length*2
 | []=>rfl
 | a :: l=>by rw [MR,List.length_cons,List.length_cons,JO l,List.length_cons];omega
theorem LP:∀ (l:List Wd) (i:Nat) (h:i<l.length),(FC l)[i*2]?=some (.int .i64 l[i].1)/\(FC l)[i*2+1]?=some (.int .i64 l[i].2)
 | [],i,h=>absurd h (Nat.not_lt_zero i)
 | a :: l,0,_=>by simp [MR]
 | a :: l,i+1,h=>by
  have hi:i<l.length:=by simpa using h
  have:=LP l i hi;rw [MR,show (i+1)*2=i*2+1+1 by omega]
  simpa using this
abbrev DO (w:World) (B:Nat) (v:Value) (l:List Wd):Prop:=w.ownsRow B 114 2 v l.length (FC l)
theorem DO.row {w:World} {B:Nat} {v:Value} {l:List Wd} (h:DO w B v l):∃ A cap,v=.slice A l.length cap/\EL w A l:=by
 have h2:=h.2;rcases h2 with ⟨rfl,hn⟩|⟨g,cap,cur,rfl,hb,hg,hnc,hcm,hcs,htake⟩
 ·refine ⟨none,0,by rw [hn],fun hl=>absurd (List.eq_nil_of_length_eq_zero hn) hl⟩
 ·refine ⟨some ⟨g,0,none⟩,cap,rfl,fun _=>⟨g,0,rfl,(h.lt g rfl).2,fun i hi=>?_⟩⟩;have hc:=World.ownsRow.cells h (g:=g) rfl;obtain ⟨c1,c2⟩:=LP l i hi;have g1:=hc _ _ c1;have g2:=hc _ _ c2;rw [plus] at g1 g2;rw [Nat.zero_add];exact ⟨g1,g2⟩
theorem DO.keep {w w1:World} {B:Nat} {v:Value} {l:List Wd} (h:DO w B v l) (hb:Below w.heap.size w w1):DO w1 B v l :=
 World.ownsRow.kept (row:=none) h ⟨hb.os,hb.tape,hb.output,hb.size,fun i hi _=>hb.block i hi⟩ (by cases v.ownBlock <;> simp)
theorem Q5 (w:World) (B:Nat):DO w B (.slice none 0 0) []:=World.ownsRow_nil _ _ _ _
theorem VM:(prog.info? 114).map (fun i=>(i.zero,i.size,i.bytes))=some (some (.agg #[.int .i64 0,.int .i64 0]),2,16):=by kernel_rfl
theorem I4 {ops:Array Oper} {rest:List Oper} {o:Oper} {a:Act} {Q:Exit->Act->World->Prop} {w:World} {B:Nat} {v:Value} {l:List Wd} {p:Wd} (hgd:o.guard=none) (s x:Operand)
  (ho:o.op=.call { callee:=.builtin .append,args:=#[s,x],argTypes:=#[42,42] }) (hs:a.eval s=v) {N:Nat} (hN:w.heap.size=N) (hx:a.eval x=.slice (some ⟨N,0,none⟩) 1 1)
  (hown:DO w B v l) (hB:B<=w.heap.size) (hn:l.length<=1000000)
  (h:∀ v' w',DO w' B v' (l++[p])->Below B w w'->wpList prog ops Q rest (a.put o.dst v') w') :
  wpList prog ops Q (o :: rest) a (w.alloc (.cells #[.int .i64 p.1,.int .i64 p.2] 114)):=by
 subst hN;obtain ⟨i0,hi,hz0,hz1,hz2⟩:=info_parts VM;refine wpList_append_own _ hgd s x 42 ho B 114 i0 _ 2 16 underlying42 hi hz0 hz1 hz2 rfl (by decide) v l.length (FC l) hs (hown.alloc _) ⟨w.heap.size,0,none⟩ 1 1 [.int .i64 p.1,.int .i64 p.2] hx rfl ?_ ?_ ?_ ?_ ?_ ?_
 ·intro j u hu;rw [plus,World.cell?_alloc_at _ _ _ _ rfl];exact (by simpa using hu)
 ·intro u hu;simp only [List.mem_cons,List.not_mem_nil,or_false] at hu;rcases hu with rfl|rfl <;> rfl
 ·unfold maxLen;omega
 ·omega
 ·simp only [World.size_alloc];omega
 ·intro v' w' h2 h3 _;refine h v' w' (by rw [DO,WK,z0J];exact h2) (((Below.refl B w).alloc hB _).grown h3 (by simp only [World.size_alloc];omega) fun j hj=>(hown.lt j hj).1)
end Go.Proofs.YtfecnkhoojnkbaaGreatDoor

import Derived.Test.YtfecnkhoojnkbaaGreatDoorXRtPrF
import Derived.Test.YtfecnkhoojnkbaaGreatDoorXW5b
import Derived.Test.YtfecnkhoojnkbaaGreatDoorXRuU
import Derived.Test.YtfecnkhoojnkbaaGreatDoorXRefF
set_option maxHeartbeats 8000000
set_option maxRecDepth 1000000
namespace Go.Proofs.YtfecnkhoojnkbaaGreatDoor
open Go.RowKit Rul Rt Go.Sort Tryz
structure PrW (w:World) (fr ev ct un:Int) (D M Y:Option Addr) (dn dc mn mc yn yc:Nat) (ds:List Wd) (ms ys:List Int) (W:World):Prop where
 c0:W.cell? ⟨w.heap.size,0,none⟩=some (.int .i64 fr)
 c1:W.cell? ⟨w.heap.size,1,none⟩=some (.int .i64 ev)
 c2:W.cell? ⟨w.heap.size,2,none⟩=some (.int .i64 ct)
 c3:W.cell? ⟨w.heap.size,3,none⟩=some (.int .i64 un)
 c4:W.cell? ⟨w.heap.size,4,none⟩=some (.slice D dn dc)
 c5:W.cell? ⟨w.heap.size,5,none⟩=some (.slice M mn mc)
 c6:W.cell? ⟨w.heap.size,6,none⟩=some (.slice Y yn yc)
 BD:DS W D dn M mn Y yn ds ms ys
 below:Below w.heap.size w W
theorem PrW.keep {w W W1:World} {fr ev ct un:Int} {D M Y:Option Addr} {dn dc mn mc yn yc:Nat} {ds:List Wd} {ms ys:List Int} (h:PrW w fr ev ct un D M Y dn dc mn mc yn yc ds ms ys W) (hb:Below W.heap.size W W1):PrW w fr ev ct un D M Y dn dc mn mc yn yc ds ms ys W1 :=
 ⟨A9 hb h.c0,A9 hb h.c1,A9 hb h.c2,A9 hb h.c3,A9 hb h.c4,A9 hb h.c5,A9 hb h.c6,h.BD.keep hb,andthen h.below hb⟩
theorem mE (w:World) (fr ev ct un:Int) (D M Y:Option Addr) (dn dc mn mc yn yc:Nat) (ds:List Wd) (ms ys:List Int) (hl:DS w D dn M mn Y yn ds ms ys):PrW w fr ev ct un D M Y dn dc mn mc yn yc ds ms ys (w.alloc (.cells #[.int .i64 fr,.int .i64 ev,.int .i64 ct,.int .i64 un,.slice D dn dc,.slice M mn mc,.slice Y yn yc] 44)):=by
 refine ⟨?_,?_,?_,?_,?_,?_,?_,hl.keep (more (start w) _),more (start w) _⟩
 all_goals (rw [World.cell?_alloc_at _ _ _ _ rfl];rfl)
theorem N9 (S V n:Tx) (L:ByteArray) (hL:L=str (59 :: (n++[61]))):(str S++L)++str V=str (S++59 :: (n++61 :: V)):=by
 rw [hL,AM,AM];simp
def pD (S:Tx) (l:List Wd):Tx:=S++seg (decide (l≠[])) ED (AR CC l)
theorem wF (S:Tx):pD S []=S:=by unfold pD;rw [LC _ _ (by simp)];simp
theorem A2x (S:Tx) (x:Wd):pD S [x]=S++59 :: (ED++61 :: CC x):=by unfold pD;rw [IY _ _ (by simp)];rfl
theorem A0r (S:Tx) (l:List Wd) (x:Wd) (h:l≠[]):pD S (l++[x])=(pD S l++[44])++CC x:=by
 unfold pD;rw [IY _ _ (by simp [h]),IY _ _ (by simp [h]),VR CC l x h];simp
theorem A2y (S:Tx) (l:List Wd) (hS:S.length<=10000) (hl:l.length<=1000) (hb:∀ x∈l,EX x.1):(pD S l).length<=60000:=by
 have h1:=FA CC 40 l fun x hx=>VV x (hb x hx)
 unfold pD seg;rw [z0J]
 split
 ·simp only [List.length_cons,z0J,ED,List.length_nil];omega
 ·simp;omega
theorem XO (fr ev ct un:Int) (D M Y:Option Addr) (dn dc mn mc yn yc:Nat) (ds:List Wd) (ms ys:List Int) (w:World) (hl:DS w D dn M mn Y yn ds ms ys) (hi:isB ⟨fr,ev,ct,un,ds,ms,ys⟩=false∨fr=0) :
  Calls prog 40 #[.agg #[.int .i64 fr,.int .i64 ev,.int .i64 ct,.int .i64 un,.slice D dn dc,.slice M mn mc,.slice Y yn yc]] w (Ans w (.string (str []))):=by
 have HI:=A5 (fun w h=>R.OP fr ev ct un D M Y dn dc mn mc yn yc ds ms ys w h);obtain ⟨B,hB⟩:∃ B,isB ⟨fr,ev,ct,un,ds,ms,ys⟩=B:=⟨_,rfl⟩;rw [hB] at HI hi;clear hB;have HW:=A5 (mE w fr ev ct un D M Y dn dc mn mc yn yc ds ms ys hl);clear hl;have q0:=HW.out.c0;have q1:=HW.out.c1;have q2:=HW.out.c2;have q3:=HW.out.c3;have q4:=HW.out.c4;have q5:=HW.out.c5;have q6:=HW.out.c6;go_enter func40,ntmps40;go_wp2_with fail;refine (HI.out _ HW.out.BD).mono ?_;rintro e w1 ⟨rfl,hb1⟩;replace HW:=A5 (HW.out.keep hb1);replace q0:=HW.out.c0;clear hb1 q1 q2 q3 q4 q5 q6
 cases B
 ·go_wp2_with fail;go_ret;exact ⟨rfl,HW.out.below⟩
 ·obtain rfl:fr=0:=by rcases hi with h|h;cases h;exact h
  go_wp2_with fail;go_ret;exact ⟨rfl,HW.out.below⟩
theorem j6 (fr ev ct un:Int) (D M Y:Option Addr) (dn dc mn mc yn yc:Nat) (ds:List Wd) (ms ys:List Int) (w:World) (hl:DS w D dn M mn Y yn ds ms ys) (hi:isB ⟨fr,ev,ct,un,ds,ms,ys⟩=true) (hr:GH ⟨fr,ev,ct,un,ds,ms,ys⟩=true) :
  Calls prog 40 #[.agg #[.int .i64 fr,.int .i64 ev,.int .i64 ct,.int .i64 un,.slice D dn dc,.slice M mn mc,.slice Y yn yc]] w (Ans w (.string (str (p7 unU ⟨fr,ev,ct,un,ds,ms,ys⟩)))):=by
 have hrec:=FP hr;have f1:=hrec.f1;have f2:=hrec.f2;have e1:=hrec.e1;have e2:=hrec.e2;have k1:=hrec.c1;have k2:=hrec.c2;have g1:=hrec.u1;have g2:=hrec.u2;simp only at f1 f2 e1 e2 k1 k2 g1 g2;have hds:∀ x∈ds,-5<=x.1/\x.1<=5:=fun x hx=>by
  have:=((CX UD (0,0) ds).1 hrec.ds).2.1 x hx;rw [EF,Bool.and_eq_true,AY] at this;exact this.1
 have hms:∀ x∈ms,-1000000000<=x/\x<=1000000000:=fun x hx=>by
  have:=((CX ID 0 ms).1 hrec.ms).2.1 x hx;rw [G5,Bool.and_eq_true,AY] at this;omega
 have hys:∀ x∈ys,-1000000000<=x/\x<=1000000000:=fun x hx=>by
  have:=((CX ID 0 ys).1 hrec.ys).2.1 x hx;rw [GS,AY] at this;omega
 have lms:ms.length<=12:=((CX ID 0 ms).1 hrec.ms).1;have lys:ys.length<=12:=((CX ID 0 ys).1 hrec.ys).1;have lds:ds.length<=12:=((CX UD (0,0) ds).1 hrec.ds).1;have vi:∀ n:Int,-1000000000<=n/\n<=1000000000->(Lib.itoa n).length<=30:=fun n h=>Nat.le_trans (Lib.itoa_length_le n (by omega) (by omega)) (by omega)
 have v1:=vi ev (by omega);have v2:=vi ct (by omega);have v3:=IL un;have v4:(AR Lib.itoa ys).length<=400:=Nat.le_trans (FA Lib.itoa 30 ys fun x hx=>vi x (hys x hx)) (by omega);have v5:(AR Lib.itoa ms).length<=400:=Nat.le_trans (FA Lib.itoa 30 ms fun x hx=>vi x (hms x hx)) (by omega);have v0:(IU fr).length<=7:=by rcases (by omega:fr=1∨fr=2∨fr=3∨fr=4) with rfl|rfl|rfl|rfl <;> decide
 have HI:=A5 (fun w h=>R.OP fr ev ct un D M Y dn dc mn mc yn yc ds ms ys w h);rw [hi] at HI;have hq0:(fr==0)=false:=beq_eq_false_iff_ne.2 (by omega);have HC0:=A5 (fun w=>Y6 fr w f1 f2);have HC1:=A5 (fun w=>F7 ev w (by omega) (by omega));have HC2:=A5 (fun w=>F7 ct w (by omega) (by omega));have HC3:=A5 (fun w=>XN un w);have HC4:=A5 (fun w h=>SN Y yn yc ys w h);have HC5:=A5 (fun w h=>SN M mn mc ms w h);have HC6:=A5 (fun (x:Wd) w (h:-5<=x.1/\x.1<=5)=>fL x.1 x.2 w (by omega) (by omega));have HDS:=A5 hds;have HMS:=A5 hms;have HYS:=A5 hys;obtain ⟨S1,hS1⟩:∃ S,p1 ⟨fr,ev,ct,un,ds,ms,ys⟩=S:=⟨_,rfl⟩;obtain ⟨S2,hS2⟩:∃ S,p2 ⟨fr,ev,ct,un,ds,ms,ys⟩=S:=⟨_,rfl⟩;obtain ⟨S3,hS3⟩:∃ S,p3 ⟨fr,ev,ct,un,ds,ms,ys⟩=S:=⟨_,rfl⟩;obtain ⟨S4,hS4⟩:∃ S,p4 unU ⟨fr,ev,ct,un,ds,ms,ys⟩=S:=⟨_,rfl⟩;obtain ⟨S5,hS5⟩:∃ S,p5 unU ⟨fr,ev,ct,un,ds,ms,ys⟩=S:=⟨_,rfl⟩;obtain ⟨S6,hS6⟩:∃ S,p6 unU ⟨fr,ev,ct,un,ds,ms,ys⟩=S:=⟨_,rfl⟩;have HN1:Hid (S1=IE++61 :: IU fr):=A5 hS1.symm;have HN2:Hid (S2=S1++seg (decide (ev≠1)) BW (Lib.itoa ev)):=A5 (by rw [<- hS1];exact hS2.symm);have HN3:Hid (S3=S2++seg (decide (0<ct)) EA (Lib.itoa ct)):=A5 (by rw [<- hS2];exact hS3.symm);have HN4:Hid (S4=S3++seg (decide (0<=un)) EC (AZ un)):=A5 (by rw [<- hS3];exact hS4.symm);have HN5:Hid (S5=S4++seg (decide (ys≠[])) CI (AR Lib.itoa ys)):=A5 (by rw [<- hS4];exact hS5.symm);have HN6:Hid (S6=S5++seg (decide (ms≠[])) BA (AR Lib.itoa ms)):=A5 (by rw [<- hS5];exact hS6.symm);have HN7:Hid (p7 unU ⟨fr,ev,ct,un,ds,ms,ys⟩=pD S6 ds):=A5 (by rw [<- hS6];rfl);rw [HN7.out];have sl:∀ (k:Bool) (n v:Tx) (K:Nat),n.length+v.length+2<=K->(seg k n v).length<=K:=fun k n v K h=>by
  unfold seg;split
  ·simp only [List.length_cons,z0J];omega
  ·simp
 have L1:S1.length<=12:=by rw [HN1.out,z0J,List.length_cons];simp only [IE,List.length_cons,List.length_nil];omega
 have L2:S2.length<=100:=by rw [HN2.out,z0J];have:=sl (decide (ev≠1)) BW (Lib.itoa ev) 60 (by simp only [BW,List.length_cons,List.length_nil];omega);omega
 have L3:S3.length<=200:=by rw [HN3.out,z0J];have:=sl (decide (0<ct)) EA (Lib.itoa ct) 60 (by simp only [EA,List.length_cons,List.length_nil];omega);omega
 have L4:S4.length<=300:=by rw [HN4.out,z0J];have:=sl (decide (0<=un)) EC (AZ un) 60 (by simp only [EC,List.length_cons,List.length_nil];omega);omega
 have L5:S5.length<=1000:=by rw [HN5.out,z0J];have:=sl (decide (ys≠[])) CI (AR Lib.itoa ys) 500 (by simp only [CI,List.length_cons,List.length_nil];omega);omega
 have L6:S6.length<=2000:=by rw [HN6.out,z0J];have:=sl (decide (ms≠[])) BA (AR Lib.itoa ms) 500 (by simp only [BA,List.length_cons,List.length_nil];omega);omega
 have HRG:=A5 (And.intro e1 (And.intro k1 g1));clear hi hr hrec hds hms hys vi hS1 hS2 hS3 hS4 hS5 hS6 sl f1 f2 e1 e2 k1 k2 g1 g2;have HW:=A5 (mE w fr ev ct un D M Y dn dc mn mc yn yc ds ms ys hl);clear hl;have q0:=HW.out.c0;have q1:=HW.out.c1;have q2:=HW.out.c2;have q3:=HW.out.c3;have q4:=HW.out.c4;have q5:=HW.out.c5;have q6:=HW.out.c6;go_enter func40,ntmps40;go_wp2_with fail;refine (HI.out _ HW.out.BD).mono ?_;rintro e w1 ⟨rfl,hb1⟩;replace HW:=A5 (HW.out.keep hb1);replace q0:=HW.out.c0;replace q1:=HW.out.c1;replace q2:=HW.out.c2;replace q3:=HW.out.c3;replace q4:=HW.out.c4;replace q5:=HW.out.c5;replace q6:=HW.out.c6;clear hb1
 go_upto_region 3 with fail
 go_cut [3] from 5 (fun s wx=>s=.string (str S1)/\PrW w fr ev ct un D M Y dn dc mn mc yn yc ds ms ys wx)
 case first =>
  have z0:(str (IU fr)).size<=7:=by rw [AB];exact v0
  have HE:Hid ((⟨#[70,82,69,81,61]⟩:ByteArray)++str (IU fr)=str S1):=A5 (by rw [HN1.out,show (⟨#[70,82,69,81,61]⟩:ByteArray)=str [70,82,69,81,61] from rfl,AM];rfl);generalize IU fr=V at *;go_wp2_with fail;refine (HC0.out _).mono ?_;rintro e w2 ⟨rfl,hb⟩;go_wp2_with fail
  go_meet
  exact ⟨by rw [HE.out],HW.out.keep hb⟩
 obtain ⟨rfl,hW⟩:=hcut;have HW:=A5 hW;have q0:=HW.out.c0;have q1:=HW.out.c1;have q2:=HW.out.c2;have q3:=HW.out.c3;have q4:=HW.out.c4;have q5:=HW.out.c5;have q6:=HW.out.c6;clear hW
 go_upto_if 19 with fail
 go_cut [3] from 5 (fun s wx=>s=.string (str S2)/\PrW w fr ev ct un D M Y dn dc mn mc yn yc ds ms ys wx)
 case first =>
  by_cases hc:ev≠1
  ·have ht:(ev != 1)=true:=by simpa using hc
   have z0:(str S1).size<=100:=by rw [AB];omega
   have z1:(str S1++(⟨#[59,73,78,84,69,82,86,65,76,61]⟩:ByteArray)).size<=100+20:=by rw [show (⟨#[59,73,78,84,69,82,86,65,76,61]⟩:ByteArray)=str (59 :: (BW++[61])) from rfl,AM,AB,z0J];simp only [BW,List.length_cons,z0J,List.length_nil];omega
   have z2:(str (Lib.itoa ev)).size<=30:=by rw [AB];omega
   have HE:Hid ((str S1++(⟨#[59,73,78,84,69,82,86,65,76,61]⟩:ByteArray))++str (Lib.itoa ev)=str S2):=A5 (by rw [HN2.out,N9 S1 (Lib.itoa ev) BW ⟨#[59,73,78,84,69,82,86,65,76,61]⟩ rfl,IY _ _ (z0H hc)]);generalize Lib.itoa ev=V at *;go_wp2_with fail;refine (HC1.out _).mono ?_;rintro e w2 ⟨rfl,hb⟩;go_wp2_with fail
   go_meet
   exact ⟨by rw [HE.out],HW.out.keep hb⟩
  ·have ht:(ev != 1)=false:=by simpa using hc
   have HE:Hid (S2=S1):=A5 (by rw [HN2.out,LC _ _ (z0G hc)];simp);go_wp2_with fail
   go_meet
   exact ⟨by rw [HE.out],HW.out⟩
 obtain ⟨rfl,hW⟩:=hcut;have HW:=A5 hW;have q0:=HW.out.c0;have q1:=HW.out.c1;have q2:=HW.out.c2;have q3:=HW.out.c3;have q4:=HW.out.c4;have q5:=HW.out.c5;have q6:=HW.out.c6;clear hW
 go_upto_if 28 with fail
 go_cut [3] from 5 (fun s wx=>s=.string (str S3)/\PrW w fr ev ct un D M Y dn dc mn mc yn yc ds ms ys wx)
 case first =>
  by_cases hc:0<ct
  ·have ht:decide (0<ct)=true:=z0H hc;have z0:(str S2).size<=200:=by rw [AB];omega
   have z1:(str S2++(⟨#[59,67,79,85,78,84,61]⟩:ByteArray)).size<=200+20:=by rw [show (⟨#[59,67,79,85,78,84,61]⟩:ByteArray)=str (59 :: (EA++[61])) from rfl,AM,AB,z0J];simp only [EA,List.length_cons,z0J,List.length_nil];omega
   have z2:(str (Lib.itoa ct)).size<=30:=by rw [AB];omega
   have HE:Hid ((str S2++(⟨#[59,67,79,85,78,84,61]⟩:ByteArray))++str (Lib.itoa ct)=str S3):=A5 (by rw [HN3.out,N9 S2 (Lib.itoa ct) EA ⟨#[59,67,79,85,78,84,61]⟩ rfl,IY _ _ (z0H hc)]);generalize Lib.itoa ct=V at *;go_wp2_with fail;refine (HC2.out _).mono ?_;rintro e w2 ⟨rfl,hb⟩;go_wp2_with fail
   go_meet
   exact ⟨by rw [HE.out],HW.out.keep hb⟩
  ·have ht:decide (0<ct)=false:=z0G hc;have HE:Hid (S3=S2):=A5 (by rw [HN3.out,LC _ _ (z0G hc)];simp);go_wp2_with fail
   go_meet
   exact ⟨by rw [HE.out],HW.out⟩
 obtain ⟨rfl,hW⟩:=hcut;have HW:=A5 hW;have q0:=HW.out.c0;have q1:=HW.out.c1;have q2:=HW.out.c2;have q3:=HW.out.c3;have q4:=HW.out.c4;have q5:=HW.out.c5;have q6:=HW.out.c6;clear hW
 go_upto_if 37 with fail
 go_cut [3] from 5 (fun s wx=>s=.string (str S4)/\PrW w fr ev ct un D M Y dn dc mn mc yn yc ds ms ys wx)
 case first =>
  by_cases hc:0<=un
  ·have ht:decide (0<=un)=true:=z0H hc;have z0:(str S3).size<=300:=by rw [AB];omega
   have z1:(str S3++(⟨#[59,85,78,84,73,76,61]⟩:ByteArray)).size<=300+20:=by rw [show (⟨#[59,85,78,84,73,76,61]⟩:ByteArray)=str (59 :: (EC++[61])) from rfl,AM,AB,z0J];simp only [EC,List.length_cons,z0J,List.length_nil];omega
   have z2:(str (AZ un)).size<=30:=by rw [AB];omega
   have HE:Hid ((str S3++(⟨#[59,85,78,84,73,76,61]⟩:ByteArray))++str (AZ un)=str S4):=A5 (by rw [HN4.out,N9 S3 (AZ un) EC ⟨#[59,85,78,84,73,76,61]⟩ rfl,IY _ _ (z0H hc)]);generalize AZ un=V at *;go_wp2_with fail;refine (HC3.out _).mono ?_;rintro e w2 ⟨rfl,hb⟩;go_wp2_with fail
   go_meet
   exact ⟨by rw [HE.out],HW.out.keep hb⟩
  ·have ht:decide (0<=un)=false:=z0G hc;have HE:Hid (S4=S3):=A5 (by rw [HN4.out,LC _ _ (z0G hc)];simp);go_wp2_with fail
   go_meet
   exact ⟨by rw [HE.out],HW.out⟩
 obtain ⟨rfl,hW⟩:=hcut;have HW:=A5 hW;have q0:=HW.out.c0;have q1:=HW.out.c1;have q2:=HW.out.c2;have q3:=HW.out.c3;have q4:=HW.out.c4;have q5:=HW.out.c5;have q6:=HW.out.c6;clear hW
 go_upto_if 47 with fail
 go_cut [3] from 5 (fun s wx=>s=.string (str S5)/\PrW w fr ev ct un D M Y dn dc mn mc yn yc ds ms ys wx)
 case first =>
  by_cases hc:ys≠[]
  ·have hp:0<yn:=by rw [HW.out.BD.yn];exact List.length_pos_iff.2 hc
   have hp2:(0:Int)<(yn:Int):=by omega
   have ht:decide ((0:Int)<(yn:Int))=true:=z0H hp2;have ht2:decide (0<yn)=true:=z0H hp;have z0:(str S4).size<=400:=by rw [AB];omega
   have z1:(str S4++(⟨#[59,66,89,77,79,78,84,72,61]⟩:ByteArray)).size<=400+20:=by rw [show (⟨#[59,66,89,77,79,78,84,72,61]⟩:ByteArray)=str (59 :: (CI++[61])) from rfl,AM,AB,z0J];simp only [CI,List.length_cons,z0J,List.length_nil];omega
   have z2:(str (AR Lib.itoa ys)).size<=400:=by rw [AB];omega
   have HE:Hid ((str S4++(⟨#[59,66,89,77,79,78,84,72,61]⟩:ByteArray))++str (AR Lib.itoa ys)=str S5):=A5 (by rw [HN5.out,N9 S4 (AR Lib.itoa ys) CI ⟨#[59,66,89,77,79,78,84,72,61]⟩ rfl,IY _ _ (z0H hc)]);generalize AR Lib.itoa ys=V at *;go_wp2_with fail;refine (HC4.out _ HW.out.BD.y HW.out.BD.yn (by omega) HYS.out).mono ?_;rintro e w2 ⟨rfl,hb⟩;go_wp2_with fail
   go_meet
   exact ⟨by rw [HE.out],HW.out.keep hb⟩
  ·have hp:¬ 0<yn:=by rw [HW.out.BD.yn,Decidable.not_not.1 hc];simp
   have hp2:¬ (0:Int)<(yn:Int):=by omega
   have ht:decide ((0:Int)<(yn:Int))=false:=z0G hp2;have ht2:decide (0<yn)=false:=z0G hp;have HE:Hid (S5=S4):=A5 (by rw [HN5.out,LC _ _ (z0G hc)];simp);go_wp2_with fail
   go_meet
   exact ⟨by rw [HE.out],HW.out⟩
 obtain ⟨rfl,hW⟩:=hcut;have HW:=A5 hW;have q0:=HW.out.c0;have q1:=HW.out.c1;have q2:=HW.out.c2;have q3:=HW.out.c3;have q4:=HW.out.c4;have q5:=HW.out.c5;have q6:=HW.out.c6;clear hW
 go_upto_if 57 with fail
 go_cut [3] from 5 (fun s wx=>s=.string (str S6)/\PrW w fr ev ct un D M Y dn dc mn mc yn yc ds ms ys wx)
 case first =>
  by_cases hc:ms≠[]
  ·have hp:0<mn:=by rw [HW.out.BD.mn];exact List.length_pos_iff.2 hc
   have hp2:(0:Int)<(mn:Int):=by omega
   have ht:decide ((0:Int)<(mn:Int))=true:=z0H hp2;have ht2:decide (0<mn)=true:=z0H hp;have z0:(str S5).size<=1000:=by rw [AB];omega
   have z1:(str S5++(⟨#[59,66,89,77,79,78,84,72,68,65,89,61]⟩:ByteArray)).size<=1000+20:=by rw [show (⟨#[59,66,89,77,79,78,84,72,68,65,89,61]⟩:ByteArray)=str (59 :: (BA++[61])) from rfl,AM,AB,z0J];simp only [BA,List.length_cons,z0J,List.length_nil];omega
   have z2:(str (AR Lib.itoa ms)).size<=400:=by rw [AB];omega
   have HE:Hid ((str S5++(⟨#[59,66,89,77,79,78,84,72,68,65,89,61]⟩:ByteArray))++str (AR Lib.itoa ms)=str S6):=A5 (by rw [HN6.out,N9 S5 (AR Lib.itoa ms) BA ⟨#[59,66,89,77,79,78,84,72,68,65,89,61]⟩ rfl,IY _ _ (z0H hc)]);generalize AR Lib.itoa ms=V at *;go_wp2_with fail;refine (HC5.out _ HW.out.BD.m HW.out.BD.mn (by omega) HMS.out).mono ?_;rintro e w2 ⟨rfl,hb⟩;go_wp2_with fail
   go_meet
   exact ⟨by rw [HE.out],HW.out.keep hb⟩
  ·have hp:¬ 0<mn:=by rw [HW.out.BD.mn,Decidable.not_not.1 hc];simp
   have hp2:¬ (0:Int)<(mn:Int):=by omega
   have ht:decide ((0:Int)<(mn:Int))=false:=z0G hp2;have ht2:decide (0<mn)=false:=z0G hp;have HE:Hid (S6=S5):=A5 (by rw [HN6.out,LC _ _ (z0G hc)];simp);go_wp2_with fail
   go_meet
   exact ⟨by rw [HE.out],HW.out⟩
 obtain ⟨rfl,hW⟩:=hcut;have HW:=A5 hW;obtain rfl:=HW.out.BD.dn;clear hW HN1 HN2 HN3 HN4 HN5 HC0 HC1 HC2 HC3 HC4 HC5 HI HMS HYS lms lys v0 v1 v2 v3 v4 v5 L1 L2 L3 L4 L5 HRG hq0 q0 q1 q2 q3 q4 q5 q6;go_wp2_with fail
 go_loopw [3,4] (fun s i wr=>∃ j:Nat,j<=ds.length/\i=.int .i64 j/\s=.string (str (pD S6 (ds.take j)))/\PrW w fr ev ct un D M Y ds.length dc mn mc yn yc ds ms ys wr) (fun _ i _=>ds.length-(intOf i).toNat)
 case atStart=>exact ⟨0,Nat.zero_le _,rfl,by rw [List.take_zero,wF],HW.out⟩
 case round =>
  obtain ⟨j,hj,rfl,rfl,hW⟩:=hrel;replace HW:=A5 hW;clear hW;have q4:=HW.out.c4
  by_cases hlt:j<ds.length
  ·obtain ⟨b1,o1,rfl,hb1,hc1⟩:=HW.out.BD.d (by intro h0;rw [h0] at hlt;exact absurd hlt (Nat.not_lt_zero _));obtain ⟨m,hm⟩:∃ m,ds[j]=m:=⟨_,rfl⟩;have hmr:=HDS.out ds[j] (List.getElem_mem _);have hc:=hc1 j hlt;rw [hm] at hmr hc;obtain ⟨m1,m2⟩:=m;simp only at hc;obtain ⟨x0,x1⟩:=hc;have hi0:(0:Int)<=(j:Int):=by omega
   have hi1:(j:Int)<(ds.length:Int):=by omega
   have hTK:ds.take (j+1)=ds.take j++[(m1,m2)]:=by rw [List.take_succ_eq_append_getElem hlt,hm]
   have hd64:∀ x∈ds,EX x.1:=fun x hx=>by have:=HDS.out x hx;unfold EX;omega
   have hTL:=A2y S6 (ds.take j) (by omega) (by rw [List.length_take];omega) fun x hx=>hd64 x (List.mem_of_mem_take hx)
   have hML:(str (CC (m1,m2))).size<=40:=by rw [AB];exact VV (m1,m2) (by have:=hmr;simp only at this ⊢;unfold EX;omega)
   have HC:=A5 (HC6.out (m1,m2) · hmr);clear hc1 hm hmr hd64
   by_cases h0:j=0
   ·have HE:Hid ((str (pD S6 (ds.take j))++(⟨#[59,66,89,68,65,89,61]⟩:ByteArray))++str (CC (m1,m2))=str (pD S6 (ds.take (j+1)))):=A5 (by
     rw [hTK,h0,List.take_zero,List.nil_append,wF,A2x];exact N9 S6 (CC (m1,m2)) ED ⟨#[59,66,89,68,65,89,61]⟩ rfl)
    have z0:(str (pD S6 (ds.take j))).size<=60000:=by rw [AB];exact hTL
    have z1:(str (pD S6 (ds.take j))++(⟨#[59,66,89,68,65,89,61]⟩:ByteArray)).size<=60020:=by rw [show (⟨#[59,66,89,68,65,89,61]⟩:ByteArray)=str (59 :: (ED++[61])) from rfl,AM,AB,z0J];simp only [ED,List.length_cons,z0J,List.length_nil];omega
    have hj0:((j:Int)==0)=true:=by rw [h0];rfl
    subst h0;rw [Nat.zero_mul,Nat.add_zero] at x0 x1;generalize pD S6 (ds.take 0)=T1 at *;generalize CC (m1,m2)=V at *;clear hTK hTL hj0;go_wp2_with fail;refine (HC.out _).mono ?_;rintro e w2 ⟨rfl,hb⟩;replace HW:=A5 (HW.out.keep hb);go_wp2_with fail
    go_roundw
    case rel=>exact ⟨0+1,by omega,by go_num,by rw [HE.out],HW.out⟩
    case measure=>simp [intOf];omega
   ·have HE:Hid ((str (pD S6 (ds.take j))++(⟨#[44]⟩:ByteArray))++str (CC (m1,m2))=str (pD S6 (ds.take (j+1)))):=A5 (by
     rw [hTK,A0r _ _ _ (by intro h;have:=congrArg List.length h;rw [List.length_take,List.length_nil] at this;omega),show (⟨#[44]⟩:ByteArray)=str [44] from rfl,AM,AM])
    have z0:(str (pD S6 (ds.take j))).size<=60000:=by rw [AB];exact hTL
    have z1:(str (pD S6 (ds.take j))++(⟨#[44]⟩:ByteArray)).size<=60020:=by rw [show (⟨#[44]⟩:ByteArray)=str [44] from rfl,AM,AB,z0J];simp only [List.length_cons,List.length_nil];omega
    have hj0:((j:Int)==0)=false:=beq_eq_false_iff_ne.2 (by omega);generalize pD S6 (ds.take j)=T1 at *;generalize CC (m1,m2)=V at *;clear hTK hTL;go_wp2_with fail;refine (HC.out _).mono ?_;rintro e w2 ⟨rfl,hb⟩;replace HW:=A5 (HW.out.keep hb);go_wp2_with fail
    go_roundw
    case rel=>exact ⟨j+1,by omega,by go_num,by rw [HE.out],HW.out⟩
    case measure=>simp [intOf];omega
  ·obtain rfl:j=ds.length:=by omega
   rw [List.take_length];generalize pD S6 ds=T2 at *;go_wp2_with fail;go_ret;exact ⟨rfl,HW.out.below⟩
theorem j7 (fr ev ct un:Int) (D M Y:Option Addr) (dn dc mn mc yn yc:Nat) (ds:List Wd) (ms ys:List Int) (w:World) (hl:DS w D dn M mn Y yn ds ms ys) :
  Calls prog 40 #[.agg #[.int .i64 fr,.int .i64 ev,.int .i64 ct,.int .i64 un,.slice D dn dc,.slice M mn mc,.slice Y yn yc]] w (Ans w (.string (str (DU unU ⟨fr,ev,ct,un,ds,ms,ys⟩)))):=by
 by_cases hi:isB ⟨fr,ev,ct,un,ds,ms,ys⟩=true
 ·by_cases h0:fr=0
  ·have hs:C9 ⟨fr,ev,ct,un,ds,ms,ys⟩ once=true:=by
    unfold isB at hi;rw [Bool.or_eq_true] at hi;rcases hi with h|h
    ·exact h
    ·have:=(FP h).f1;simp only at this;omega
   rw [QA unU _ (Or.inr hs)];exact XO fr ev ct un D M Y dn dc mn mc yn yc ds ms ys w hl (Or.inr h0)
  ·have hs:C9 ⟨fr,ev,ct,un,ds,ms,ys⟩ once=false:=by
    rw [Bool.eq_false_iff];intro h;rw [EH] at h;have:=congrArg T.fr h;exact h0 this
   have hr:GH ⟨fr,ev,ct,un,ds,ms,ys⟩=true:=by
    unfold isB at hi;rw [hs,Bool.false_or] at hi;exact hi
   rw [YA unU _ hi hs,eB unU _ (FP hr)];exact j6 fr ev ct un D M Y dn dc mn mc yn yc ds ms ys w hl hi hr
 ·rw [QA unU _ (Or.inl (by simpa using hi))];exact XO fr ev ct un D M Y dn dc mn mc yn yc ds ms ys w hl (Or.inl (by simpa using hi))
end Go.Proofs.YtfecnkhoojnkbaaGreatDoor

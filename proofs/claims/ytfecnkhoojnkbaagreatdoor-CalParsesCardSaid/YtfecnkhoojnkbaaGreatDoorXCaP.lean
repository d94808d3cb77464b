import Derived.Test.YtfecnkhoojnkbaaGreatDoorXCaK
import Derived.Test.YtfecnkhoojnkbaaGreatDoorXCaRE
import Derived.Test.YtfecnkhoojnkbaaGreatDoorXCaRP
namespace Go.Proofs.YtfecnkhoojnkbaaGreatDoor
open Go.RowKit Rul Rt Go.Sort Go.Proofs.Tryz
theorem o5 (t:Tx) (es:List Ev.E) (k:Nat) (z:Int) (w:World) (ht:t.length<=90000) (h:Ca.FU unU t=(es,k,z)) :
  Calls prog 21 #[.string (str t)] w fun e w'=>Below w.heap.size w w'/\∃ A c l,e=.returned (.tuple #[.slice A es.length c,.int .i64 k,.int .i64 z])/\l.map Prod.fst=es/\GD w' A l/\KV w' l:=by
 refine (bW t w ht).mono ?_;rw [h];rintro e w' ⟨hb,v,l,rfl,hl,hh⟩;obtain ⟨A,c,rfl,hr⟩:=GP.row hh.own;have hl2:l.map Prod.fst=es:=hl;have hll:es.length=l.length:=by rw [<- hl2,List.length_map]
 exact ⟨hb,A,c,l,by rw [hll],hl2,hr,hh.ls⟩
theorem U3 (t:Tx) (w:World) (ht:t.length<=90000) (he:EE w):Calls prog 11 #[.string (str t)] w (Ans w (.bool true)):=by
 obtain ⟨P,hP⟩:∃ P,Ca.FU unU t=P:=⟨_,rfl⟩;obtain ⟨es,k,z⟩:=P;have HC:=A5 (fun w he=>QI t es k z w ht he hP);have HD:=A5 (fun w=>o5 t es k z w ht hP);have HSZ:Hid (es.length<=1000000):=A5 (by have:=gY t es k z hP;omega);have HE:=A5 he;have e1:((k:Int)==(k:Int))=true:=beq_self_eq_true _;have e2:(z==z)=true:=beq_self_eq_true _;generalize str t=S at *;clear hP ht he;go_enter func11,ntmps11;go_wp2_with fail;refine (HC.out w HE.out).mono ?_;rintro _ w1 ⟨hb1,A1,c1,l1,rfl,hl1,hr1,he1⟩;have HB1:=A5 hb1;have HL1:=A5 (And.intro hl1 (And.intro hr1 he1));clear hb1 hl1 hr1 he1;go_wp2_with fail;refine (HD.out w1).mono ?_;rintro _ w2 ⟨hb2,A2,c2,l2,rfl,hl2,hr2,he2⟩;have HB2:=A5 (andthen HB1.out hb2);have HL2:=A5 (And.intro HL1.out.1 (And.intro (HL1.out.2.1.keep hb2) (HL1.out.2.2.keep hb2)));have HL3:=A5 (And.intro hl2 (And.intro hr2 he2));clear hb2 hl2 hr2 he2;go_wp2_with fail;refine (kX A1 A2 es.length c1 c2 l1 l2 es w2 HL2.out.2.1 HL3.out.2.1 HL2.out.2.2 HL3.out.2.2 HL2.out.1 HL3.out.1 rfl HSZ.out).mono ?_;rintro _ w3 ⟨rfl,hb3⟩;have HB3:=A5 (andthen HB2.out hb3);clear hb3;go_wp2_with fail;go_ret;exact ⟨rfl,HB3.out⟩
end Go.Proofs.YtfecnkhoojnkbaaGreatDoor
set_option maxHeartbeats 8000000
set_option maxRecDepth 1000000
namespace Go.Proofs.YtfecnkhoojnkbaaGreatDoor
open Go.RowKit Rul Rt Go.Sort Go.Proofs.Tryz
theorem gZ (es:List Ev.E):(Ca.FB unU es).1.length<=8000:=by
 unfold Ca.FB
 split
 ·split
  ·simp
  ·simp only;omega
 ·simp
theorem KX (X:Value) (t:Tx) (w:World) (hX:X=.string (str t)) (ht:t.length<=90000) (he:EE w):Calls prog 11 #[X] w (Ans w (.bool true)):=by
 subst hX;exact U3 t w ht he
theorem A1Z (T:Tx) (k:Nat):(str T).extract 0 k=str (T.take k):=by
 apply ByteArray.ext
 simp [str]
theorem WB (A:Option Addr) (n c:Nat) (l:List EM) (x y:Int) (s:ByteArray) (w:World) (he:EE w) (hr:GD w A l) (hn:n=l.length) (hm:l.length<=maxLen) (hv:∀ p∈l,EvR w p.1 p.2) (x0:0<=x) (x1:x<=65535) (y0:0<=y) (y1:y<=255) :
  Calls prog 4 #[.slice A n c,.int .u16 x,.int .u8 y,.string s] w (Ans w (.bool true)):=by
 have HE:=A5 he;have HR:=A5 hr;have HV:=A5 hv;have HN:=A5 hn;have HM:=A5 hm;obtain ⟨es,hes⟩:∃ es,l.map Prod.fst=es:=⟨_,rfl⟩;have HES:=A5 hes;obtain ⟨b,hb⟩:∃ b,M9 es=b:=⟨_,rfl⟩;have HF:=A5 (show M9 (l.map Prod.fst)=b by rw [hes];exact hb);clear he hr hv hm hb hn hes
 cases b with
 | false =>
  go_enter func4,ntmps4;go_wp2_with fail;refine (JS _ HE.out).mono ?_;rintro _ w1 ⟨rfl,hb1⟩;have HB1:=A5 hb1;clear hb1;go_wp2_with fail;refine (P8 A n c l false w1 (HR.out.keep HB1.out) HN.out HM.out HF.out).mono ?_;rintro _ w2 ⟨rfl,hb2⟩;have HB2:=A5 (andthen HB1.out hb2);clear hb2;go_wp2_with fail;go_ret;exact ⟨rfl,HB2.out⟩
 | true =>
  by_cases hbig:3000<s.size
  ·have hz:(3000:Int)<(s.size:Int):=by omega
   go_enter func4,ntmps4;go_wp2_with fail;refine (JS _ HE.out).mono ?_;rintro _ w1 ⟨rfl,hb1⟩;have HB1:=A5 hb1;clear hb1;go_wp2_with fail;refine (P8 A n c l true w1 (HR.out.keep HB1.out) HN.out HM.out HF.out).mono ?_;rintro _ w2 ⟨rfl,hb2⟩;have HB2:=A5 (andthen HB1.out hb2);clear hb2;go_wp2_with fail;go_ret;exact ⟨rfl,HB2.out⟩
  ·obtain ⟨S,hS⟩:∃ S:Tx,s=str S:=⟨s.data.toList,(Q7 s).symm⟩;have hSs:s.size=S.length:=by rw [hS,AB]
   have hSl:S.length<=3000:=by omega
   have hz:¬ (3000:Int)<(s.size:Int):=by omega
   have HSS:=A5 hS;have HSL:Hid (S.length<=90000):=A5 (by omega);have HSL3:=A5 hSl;have h2:=zR HF.out HV.out;have HEV:=A5 h2.1;have hl10:=h2.2;clear h2 hS hSs hSl;have hTl:=gZ es;have HPR:=A5 (fun w (h1:GD w A l) (h2:KV w l)=>bY A n c l w h1 HN.out (by omega) h2);rw [HES.out] at HPR;obtain ⟨P,hP⟩:∃ P,Ca.FB unU es=P:=⟨_,rfl⟩;obtain ⟨T,z⟩:=P;rw [hP] at hTl;have HP:=A5 hP;have HTL:=A5 hTl;simp only at HTL;clear hP hTl
   cases T with
   | nil =>
    have e1:(str ([]:Tx)).toList=[]:=AH [];go_enter func4,ntmps4;go_wp2_with fail;refine (JS _ HE.out).mono ?_;rintro _ w1 ⟨rfl,hb1⟩;have HB1:=A5 hb1;clear hb1;go_wp2_with fail;refine (P8 A n c l true w1 (HR.out.keep HB1.out) HN.out HM.out HF.out).mono ?_;rintro _ w2 ⟨rfl,hb2⟩;have HB2:=A5 (andthen HB1.out hb2);clear hb2;go_wp2_with fail;refine (HPR.out w2 (HR.out.keep HB2.out) (HEV.out.keep HB2.out)).mono ?_;rintro _ w3 ⟨hb3,rfl⟩;have HB3:=A5 (andthen HB2.out hb3);clear hb3;rw [HP.out];go_wp2_with fail;refine (KX _ S w3 (congrArg Value.string HSS.out) HSL.out (HE.out.keep HB3.out)).mono ?_;rintro _ w4 ⟨rfl,hb4⟩;have HB4:=A5 (andthen HB3.out hb4);clear hb4;go_wp2_with fail;go_ret;exact ⟨rfl,HB4.out⟩
   | cons t0 ts =>
    obtain ⟨T,hT⟩:∃ T,t0 :: ts=T:=⟨_,rfl⟩;obtain ⟨N,hN⟩:∃ N,(str T).size=N:=⟨_,rfl⟩;have hTN:T.length=N:=by rw [<- hN,AB]
    have hN0:0<N:=by rw [<- hTN,<- hT];simp
    have e1:((str T).toList==([]:List UInt8))=false:=by rw [AH,<- hT];rfl
    have e2:(str T).toList=T:=AH T;have e3:(T==([]:List UInt8))=false:=by rw [<- hT];rfl
    rw [hT] at HP HTL;have HTN:=A5 hTN;have hN8:N<=8000:=by have:=HTL.out;omega
    obtain ⟨k,hk,hkN⟩:∃ k:Nat,x.tmod (N:Int)=(k:Int)/\k<N:=by
     refine ⟨(x % (N:Int)).toNat,?_,?_⟩
     ·rw [Int.tmod_eq_emod_of_nonneg x0];have:=Int.emod_nonneg x (show (N:Int)≠0 by omega);omega
     ·have h1:=Int.emod_nonneg x (show (N:Int)≠0 by omega);have h2:=Int.emod_lt_of_pos x (show (0:Int)<(N:Int) by omega);omega
    have hkT:k<T.length:=by omega
    obtain ⟨a,ha⟩:∃ a,T[k]=a:=⟨_,rfl⟩;obtain ⟨d,hd⟩:∃ d:UInt8,y=(d.toNat:Int):=⟨UInt8.ofNat y.toNat,by rw [UInt8.toNat_ofNat'];omega⟩;subst hd;have hxor:bits .xor .u8 (a.toNat:Int) (d.toNat:Int)=((a ^^^ d).toNat:Int):=by rw [u8_xor_nat _ _ a.toNat_lt d.toNat_lt,UInt8.toNat_xor]
    have hcv:=P4 (str T) N hN;have HMK:=A5 (fun w cap=>P5 (str T) w cap);rw [AD] at HMK;have HTA:=A5 ha;have hn0:((N:Nat):Int)≠0:=by omega
    have hk0:(0:Int)<=(k:Int):=by omega
    have hk1:(k:Int)<(N:Int):=by omega
    have hk2:(k:Int)<=(N:Int):=by omega
    clear hT hTN ha;go_enter func4,ntmps4;go_wp2_with fail;refine (JS _ HE.out).mono ?_;rintro _ w1 ⟨rfl,hb1⟩;have HB1:=A5 hb1;clear hb1;go_wp2_with fail;refine (P8 A n c l true w1 (HR.out.keep HB1.out) HN.out HM.out HF.out).mono ?_;rintro _ w2 ⟨rfl,hb2⟩;have HB2:=A5 (andthen HB1.out hb2);clear hb2;go_wp2_with fail;refine (HPR.out w2 (HR.out.keep HB2.out) (HEV.out.keep HB2.out)).mono ?_;rintro _ w3 ⟨hb3,rfl⟩;have HB3:=A5 (andthen HB2.out hb3);clear hb3;rw [HP.out];have hy:=HMK.out w3 (grownCap w3 N 0 5);have p1:=hy.1.at_ k hkT;rw [HTA.out] at p1;have f1:=hy.1.free k hkT;have HY5:=A5 (hy.1.set k (a ^^^ d) _ rfl hkT);have hsw3:=HB3.out.size;have HB5:=A5 ((andthen HB3.out hy.2).setCell (p:=⟨w3.heap.size,k,none⟩) hsw3 (.int .u8 ((a ^^^ d).toNat:Int)));have hcv3:=hcv w3;clear hy hcv;generalize grownCap w3 N 0 5=CP at *;go_wp2_with fail;refine (KX _ S _ (congrArg Value.string HSS.out) HSL.out (HE.out.keep HB5.out)).mono ?_;rintro _ w6 ⟨rfl,hb6⟩;have HY6:=A5 (HY5.out.below hb6);have HB6:=A5 (andthen HB5.out hb6);have hcb:=HY6.out.conv N CP (by rw [List.length_set,HTN.out]);clear hb6 p1 f1 HY5 HB5;go_wp2_with fail;refine (U3 (T.set k (a ^^^ d)) w6 (by rw [List.length_set];have:=HTL.out;omega) (HE.out.keep HB6.out)).mono ?_;rintro _ w7 ⟨rfl,hb7⟩;have HB7:=A5 (andthen HB6.out hb7);clear hb7 hcb;go_wp2_with fail;refine (KX _ (T.take k) w7 (congrArg Value.string (A1Z T k)) (by rw [List.length_take];have:=HTL.out;omega) (HE.out.keep HB7.out)).mono ?_;rintro _ w8 ⟨rfl,hb8⟩;have HB8:=A5 (andthen HB7.out hb8);clear hb8;go_wp2_with fail;refine (KX _ (T++S) w8 (congrArg Value.string (by rw [HSS.out,AM])) (by rw [z0J];have:=HTL.out;have:=HSL3.out;omega) (HE.out.keep HB8.out)).mono ?_;rintro _ w9 ⟨rfl,hb9⟩;have HB9:=A5 (andthen HB8.out hb9);clear hb9;go_wp2_with fail;go_ret;exact ⟨rfl,HB9.out⟩
end Go.Proofs.YtfecnkhoojnkbaaGreatDoor

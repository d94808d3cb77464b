import Derived.Great.BuildSlice
import Derived.Test.YtfecnkhoojnkbaaGreatDoorXRefC
set_option maxHeartbeats 8000000
set_option maxRecDepth 1000000
namespace Go.Proofs.YtfecnkhoojnkbaaGreatDoor
open Go.RowKit Tryz
theorem ML (l:List UInt8) (k:Nat) (h:k<l.length):l.getD k 0=l[k]:=by
 rw [List.getD_eq_getElem?_getD,List.getElem?_eq_getElem h];rfl
theorem pI (l:List UInt8) (hl:l.length=15) (k:Nat) (hk:k<15) (h8:k≠8) (hd:digit (l.getD k 0)=false):EU l=false:=by
 rw [Bool.eq_false_iff];intro hf;obtain ⟨_,d1,d2⟩:=OT l hf;rw [ML l k (by omega)] at hd;unfold AT at d1 d2;rw [List.all_eq_true] at d1 d2
 by_cases h:k<8
 ·have:l[k]∈l.take 8:=by
   rw [List.mem_iff_getElem];exact ⟨k,by simp;omega,by simp⟩
  rw [d1 _ this] at hd;cases hd
 ·have:l[k]∈l.drop 9:=by
   rw [List.mem_iff_getElem];exact ⟨k-9,by simp;omega,by simp [show 9+(k-9)=k by omega]⟩
  rw [d2 _ this] at hd;cases hd
theorem A0p (l:List UInt8) (hl:l.length=15) (h8:l.getD 8 0=84) (h13:l.drop 13=[48,48]) (ha:∀ k,k<15->k≠8->digit (l.getD k 0)=true):EU l=true:=by
 unfold EU;have d1:AT (l.take 8)=true:=by
  unfold AT;rw [List.all_eq_true];intro x hx;rw [List.mem_iff_getElem] at hx;obtain ⟨i,hi,rfl⟩:=hx;simp at hi;have:=ha i (by omega) (by omega);rw [ML l i (by omega)] at this
  simpa using this
 have d2:AT (l.drop 9)=true:=by
  unfold AT;rw [List.all_eq_true];intro x hx;rw [List.mem_iff_getElem] at hx;obtain ⟨i,hi,rfl⟩:=hx;simp at hi;have:=ha (9+i) (by omega) (by omega);rw [ML l (9+i) (by omega)] at this
  simpa using this
 rw [d1,d2,h13,h8,hl];rfl
def dv (l:List UInt8) (k:Nat):Int:=((l.getD k 0).toNat:Int)-48
def arr (l:List UInt8):Nat->Array Value
 | 0=>#[.int .i64 0,.int .i64 0,.int .i64 0,.int .i64 0,.int .i64 0,.int .i64 0,.int .i64 0,.int .i64 0,.int .i64 0,.int .i64 0,.int .i64 0,.int .i64 0,.int .i64 0,.int .i64 0,.int .i64 0]
 | k+1=>(arr l k).setIfInBounds k (.int .i64 (dv l k))
theorem V7 (l:List UInt8):∀ k,(arr l k).size=15
 | 0=>rfl
 | k+1=>by rw [arr,Array.size_setIfInBounds,V7 l k]
theorem EJ (l:List UInt8):∀ (k j:Nat),j<k->k<=15->(arr l k)[j]?=some (.int .i64 (dv l j))
 | 0,j,h,_=>by omega
 | k+1,j,h,hk=>by
  rw [arr,Array.getElem?_setIfInBounds]
  by_cases e:k=j
  ·subst e;rw [if_pos rfl,if_pos (by rw [V7];omega)]
  ·rw [if_neg e];exact EJ l k j (by omega) (by omega)
theorem vZ (l:List UInt8) (k:Nat) (hk:k<15):((arr l k)[k]?).isSome=true:=by
 rw [Array.getElem?_eq_getElem (by rw [V7];exact hk)];rfl
theorem j0 (l:List UInt8) (hl:l.length=15):val (l.take 4)=1000*dv l 0+100*dv l 1+10*dv l 2+dv l 3/\val ((l.drop 4).take 2)=10*dv l 4+dv l 5/\val ((l.drop 6).take 2)=10*dv l 6+dv l 7 ∧
  val ((l.drop 9).take 2)=10*dv l 9+dv l 10/\val ((l.drop 11).take 2)=10*dv l 11+dv l 12:=by
 match l,hl with
 | [a0,a1,a2,a3,a4,a5,a6,a7,a8,a9,a10,a11,a12,a13,a14],_ =>
  simp [val,dv];omega
theorem LW (l:List UInt8) (k:Nat) (h:digit (l.getD k 0)=true):0<=dv l k/\dv l k<=9:=by
 rw [KN] at h;unfold dv;omega
theorem eA (s:ByteArray) (w:World) (hn:s.size≠15) :
  Calls prog 131 #[.string s] w fun e w'=>e=.returned (.tuple #[.int .i64 0,.int .i64 14])/\Below w.heap.size w w':=by
 have h15:((s.size:Int) != 15)=true:=by rw [bne_iff_ne];omega
 have h15':((s.size:Int)==15)=false:=by rw [beq_eq_false_iff_ne];omega
 go_enter func131,ntmps131;go_wp2_with fail;go_ret2;exact ⟨rfl,Below.refl _ _⟩
theorem j3 (s:ByteArray) (w:World) (hn:s.size=15) (ht:(((s[8]'(by omega)).toNat:Int) != 84)=true) :
  Calls prog 131 #[.string s] w fun e w'=>e=.returned (.tuple #[.int .i64 0,.int .i64 14])/\Below w.heap.size w w':=by
 go_enter func131,ntmps131;go_wp2_with fail;go_ret2;exact ⟨rfl,Below.refl _ _⟩
theorem j4 (s:ByteArray) (w:World) (hn:s.size=15) (ht:(((s[8]'(by omega)).toNat:Int) != 84)=false) (he:((s.extract 13 15).toList==[48,48])=false) :
  Calls prog 131 #[.string s] w fun e w'=>e=.returned (.tuple #[.int .i64 0,.int .i64 14])/\Below w.heap.size w w':=by
 go_enter func131,ntmps131;go_wp2_with fail;go_ret2;exact ⟨rfl,Below.refl _ _⟩
theorem wA (s:ByteArray) (k:Nat) (h:k<s.size):arr s.data.toList (k+1)=(arr s.data.toList k).setIfInBounds k (.int .i64 ((s[k].toNat:Int)-48)):=by
 have e:s.data.toList.getD k 0=s[k]:=by rw [ML _ k (by simpa using h)];rfl
 rw [arr,dv,e]
theorem getD_at (s:ByteArray) (k:Nat) (h:k<s.size):s.data.toList.getD k 0=s[k]:=by rw [ML _ k (by simpa using h)];rfl
def ZG (l:List UInt8) (k:Nat):Prop:=∀ j,j<k->j≠8->digit (l.getD j 0)=true
theorem SH (l:List UInt8) (k:Nat) (h:ZG l k) (hd:k≠8->digit (l.getD k 0)=true):ZG l (k+1):=by
 intro j hj h8
 by_cases e:j=k
 ·subst e;exact hd h8
 ·exact h j (by omega) h8
theorem pJ (s:ByteArray) (w:World) (hn:s.size=15) (ht:(((s[8]'(by omega)).toNat:Int) != 84)=false) (he:((s.extract 13 15).toList==[48,48])=true) (hf:∀ k,k<15->k≠8->digit (s.data.toList.getD k 0)=false->EU s.data.toList=false)
  (hg:ZG s.data.toList 15->EU s.data.toList=true) :
  Calls prog 131 #[.string s] w fun e w'=>e=.returned (.tuple #[.int .i64 (BZ s.data.toList).1,.int .i64 (BZ s.data.toList).2])/\Below w.heap.size w w':=by
 have HF:=A5 hf;have HG:=A5 hg;clear hf hg;go_enter func131,ntmps131;go_wp2_with fail
 go_loopw [5] (fun i wr=>∃ k:Nat,k<=15/\i=.int .i64 k/\wr=w.alloc (.cells (arr s.data.toList k) 211)/\Hid (ZG s.data.toList k)) (fun i _=>15-(intOf i).toNat)
 case atStart=>exact ⟨0,Nat.zero_le _,rfl,rfl,fun j hj=>absurd hj (by omega)⟩
 case round =>
  obtain ⟨k,hk,rfl,rfl,hall⟩:=hrel
  by_cases hlt:k<15
  ·have hks:k<s.size:=by omega
   obtain ⟨v,hv⟩:=Option.isSome_iff_exists.1 (vZ s.data.toList k hlt);have HA:=A5 (wA s k hks);have HE:=A5 (getD_at s k hks);have h15:(k:Int)<15:=by omega
   have hu:(s[k].toNat:Int)<=255:=by have:=UInt8.toNat_lt s[k];omega
   by_cases h8:k=8
   ·subst h8;have HN:=A5 (SH _ 8 hall.out (fun h=>absurd rfl h));go_wp2_with fail
    go_roundw
    case rel=>exact ⟨9,by omega,rfl,by rw [HA.out],HN⟩
    case measure=>simp [intOf]
   ·have h8':((k:Int) != 8)=true:=by rw [bne_iff_ne];omega
    by_cases c1:(s[k].toNat:Int)<48
    ·have HB:=A5 (HF.out k hlt h8 (by rw [HE.out];exact XV _ c1));go_wp2_with fail;go_ret2;exact ⟨by unfold BZ;rw [HB.out];rfl,(Below.refl _ _).alloc (Nat.le_refl _) _⟩
    ·by_cases c2:57<(s[k].toNat:Int)
     ·have HB:=A5 (HF.out k hlt h8 (by rw [HE.out];exact VC _ c2));go_wp2_with fail;go_ret2;exact ⟨by unfold BZ;rw [HB.out];rfl,(Below.refl _ _).alloc (Nat.le_refl _) _⟩
     ·have HN:=A5 (SH _ k hall.out (fun _=>by rw [HE.out];exact eL _ c1 c2));go_wp2_with fail
      go_roundw
      case rel=>exact ⟨k+1,by omega,by go_num,by rw [HA.out],HN⟩
      case measure=>simp [intOf];omega
  ·obtain rfl:k=15:=by omega
   have hlen:s.data.toList.length=15:=by simpa using hn
   have hd:=hall.out;have HPE:Hid (BZ s.data.toList=IJ (1000*dv s.data.toList 0+100*dv s.data.toList 1+10*dv s.data.toList 2+dv s.data.toList 3) (10*dv s.data.toList 4+dv s.data.toList 5) (10*dv s.data.toList 6+dv s.data.toList 7) (10*dv s.data.toList 9+dv s.data.toList 10) (10*dv s.data.toList 11+dv s.data.toList 12)):=by
    have hv:=j0 _ hlen
    show _=_
    unfold BZ;rw [HG.out hd,if_pos rfl,hv.1,hv.2.1,hv.2.2.1,hv.2.2.2.1,hv.2.2.2.2]
   have b0:=LW _ 0 (hd 0 (by omega) (by omega));have b1:=LW _ 1 (hd 1 (by omega) (by omega));have b2:=LW _ 2 (hd 2 (by omega) (by omega));have b3:=LW _ 3 (hd 3 (by omega) (by omega));have b4:=LW _ 4 (hd 4 (by omega) (by omega));have b5:=LW _ 5 (hd 5 (by omega) (by omega));have b6:=LW _ 6 (hd 6 (by omega) (by omega));have b7:=LW _ 7 (hd 7 (by omega) (by omega));have b9:=LW _ 9 (hd 9 (by omega) (by omega));have b10:=LW _ 10 (hd 10 (by omega) (by omega));have b11:=LW _ 11 (hd 11 (by omega) (by omega));have b12:=LW _ 12 (hd 12 (by omega) (by omega));have q0:=EJ s.data.toList 15 0 (by omega) (by omega);have q1:=EJ s.data.toList 15 1 (by omega) (by omega);have q2:=EJ s.data.toList 15 2 (by omega) (by omega);have q3:=EJ s.data.toList 15 3 (by omega) (by omega);have q4:=EJ s.data.toList 15 4 (by omega) (by omega);have q5:=EJ s.data.toList 15 5 (by omega) (by omega);have q6:=EJ s.data.toList 15 6 (by omega) (by omega);have q7:=EJ s.data.toList 15 7 (by omega) (by omega);have q9:=EJ s.data.toList 15 9 (by omega) (by omega);have q10:=EJ s.data.toList 15 10 (by omega) (by omega);have q11:=EJ s.data.toList 15 11 (by omega) (by omega);have q12:=EJ s.data.toList 15 12 (by omega) (by omega);clear hd hall;generalize dv s.data.toList 0=D0 at *;generalize dv s.data.toList 1=D1 at *;generalize dv s.data.toList 2=D2 at *;generalize dv s.data.toList 3=D3 at *;generalize dv s.data.toList 4=D4 at *;generalize dv s.data.toList 5=D5 at *;generalize dv s.data.toList 6=D6 at *;generalize dv s.data.toList 7=D7 at *;generalize dv s.data.toList 9=D9 at *;generalize dv s.data.toList 10=D10 at *;generalize dv s.data.toList 11=D11 at *;generalize dv s.data.toList 12=D12 at *;generalize arr s.data.toList 15=A at *;go_wp2_with fail;refine (dZ _ _ _ _ _ _).mono ?_;rintro e w2 ⟨rfl,hb2⟩;go_wp2_with fail;go_ret2;exact ⟨by rw [HPE.out];rfl,(((Below.refl _ _).alloc (Nat.le_refl _) _).alloc (by simp) _).trans (hb2.mono (by simp;omega))⟩
theorem OO (s:ByteArray) (w:World) :
  Calls prog 131 #[.string s] w fun e w'=>e=.returned (.tuple #[.int .i64 (BZ s.data.toList).1,.int .i64 (BZ s.data.toList).2])/\Below w.heap.size w w':=by
 have hl:s.data.toList.length=s.size:=by simp
 have no:EU s.data.toList=false->BZ s.data.toList=(0,14):=fun h=>by unfold BZ;rw [h];rfl
 by_cases hn:s.size=15
 ·have hlen:s.data.toList.length=15:=hl.trans hn;have e13:(s.extract 13 15).toList=s.data.toList.drop 13:=by
   have:=Lib.extract_to_end s 13;rw [hn] at this;rw [ByteArray.toList_eq,this]
  cases ht:((s[8]'(by omega))==84)
  ·rw [no (by unfold EU;rw [at_8 s hn,ht];simp)];exact j3 s w hn (by rw [ZN,ht];rfl)
  ·have ht':(((s[8]'(by omega)).toNat:Int) != 84)=false:=by rw [ZN,ht];rfl
   cases he:(s.data.toList.drop 13==[48,48])
   ·rw [no (by unfold EU;rw [he];simp)];exact j4 s w hn ht' (by rw [e13,he])
   ·refine pJ s w hn ht' (by rw [e13,he]) (fun k hk h8 hd=>pI _ hlen k hk h8 hd) (fun ha=>A0p _ hlen ?_ (by simpa using he) (fun k hk h8=>ha k hk h8));rw [at_8 s hn]
    simpa using ht
 ·rw [no (by unfold EU;rw [hl,z0G hn];simp)];exact eA s w hn
theorem bs2 (p q:Int) (w:World):(Instr.buildSlice 32 2 #[(0,.int .u8 p),(1,.int .u8 q)]).run prog w=.ok (.slice (some ⟨w.heap.size,0,none⟩) 2 2) (w.alloc (.cells #[.int .u8 p,.int .u8 q] 5)):=by kernel_rfl
theorem cv2 (p q:Int) (w:World) (p1:0<=p) (p2:p<=255) (q1:0<=q) (q2:q<=255) :
  (convert 32 9 (.slice (some ⟨w.heap.size,0,none⟩) 2 2)).run prog (w.alloc (.cells #[.int .u8 p,.int .u8 q] 5))=.ok (.string (str [UInt8.ofNat p.toNat,UInt8.ofNat q.toNat])) (w.alloc (.cells #[.int .u8 p,.int .u8 q] 5)):=by
 refine run_convert_bytes_back (P:=prog) (w.alloc (.cells #[.int .u8 p,.int .u8 q] 5)) 32 9 5 ⟨w.heap.size,0,none⟩ 2 [UInt8.ofNat p.toNat,UInt8.ofNat q.toNat] underlying32 underlying5 underlying9 ?_;intro j hj;have hj2:j=0∨j=1:=by simp at hj;omega
 rcases hj2 with e|e
 ·subst e;simp [Addr.add];omega
 ·subst e;simp [Addr.add];omega
theorem A2w (n:Int) (_h1:0<=n):[UInt8.ofNat (48+n / 10 % 10).toNat,UInt8.ofNat (48+n % 10).toNat]=two (n % 100).toNat:=by
 unfold two dg;have e1:(48+n / 10 % 10).toNat=48+(n % 100).toNat / 10:=by omega
 have e2:(48+n % 10).toNat=48+(n % 100).toNat % 10:=by omega
 rw [e1,e2]
theorem wB (n:Int) (w:World) (h1:0<=n) (h2:n<10000) :
  Calls prog 65 #[.int .i64 n] w fun e w'=>e=.returned (.string (str (two (n % 100).toNat)))/\Below w.heap.size w w':=by
 have hbs:=bs2;have hcv:=cv2 (48+n / 10 % 10) (48+n % 10) w (by omega) (by omega) (by omega) (by omega);have HG:=A5 (A2w n h1);go_enter func65,ntmps65;go_wp2_with fail;go_ret;exact ⟨DA (by rw [HG.out]),(Below.refl _ _).alloc (Nat.le_refl _) _⟩
def tw2 (n:Int):ByteArray:=str (two (n % 100).toNat)
theorem wC (n:Int):(tw2 n).size=2:=by unfold tw2;rw [AB];rfl
theorem N8 (n:Int) (w:World) (h1:0<=n) (h2:n<10000) :
  Calls prog 65 #[.int .i64 n] w fun e w'=>e=.returned (.string (tw2 n))/\Below w.heap.size w w':=wB n w h1 h2
theorem A0q (y m d h mi:Int) (y1:2000<=y) (y2:y<=2099) (m1:0<=m) (m2:m<100) (d1:0<=d) (d2:d<100) (h1:0<=h) (h2:h<100) (i1:0<=mi) (i2:mi<100) :
  tw2 (y / 100)++tw2 y++tw2 m++tw2 d++⟨#[84]⟩++tw2 h++tw2 mi++⟨#[48,48]⟩=str (txt y m d h mi):=by
 unfold tw2 txt;have e1:(y / 100 % 100).toNat=20:=by omega
 have e2:(y % 100).toNat=(y-2000).toNat:=by omega
 have e3:(m % 100).toNat=m.toNat:=by omega
 have e4:(d % 100).toNat=d.toNat:=by omega
 have e5:(h % 100).toNat=h.toNat:=by omega
 have e6:(mi % 100).toNat=mi.toNat:=by omega
 have e20:two 20=[50,48]:=by decide
 rw [e1,e2,e3,e4,e5,e6,e20];simp only [T_str,Z_str,AM]
theorem wD (n y m d:Int) (w:World) (h1:0<=n) (h2:n<36525) (h:Cal.yOf n=y/\Cal.mOf n=m/\Cal.dOf n=d) :
  Calls prog 64 #[.int .i64 n] w fun e w'=>e=.returned (.tuple #[.agg #[.int .i64 y,.int .i64 m,.int .i64 d],.int .i64 0])/\Below w.heap.size w w':=by
 obtain ⟨rfl,rfl,rfl⟩:=h;exact iZ n w h1 h2
theorem j5 {W w2 w1:World} {y mo d:Value} (hb:Below W.heap.size W w2)
  (h:W.cell? ⟨w1.heap.size,0,none⟩=some y/\W.cell? ⟨w1.heap.size,1,none⟩=some mo/\W.cell? ⟨w1.heap.size,2,none⟩=some d/\w1.heap.size<W.heap.size/\Below w1.heap.size w1 W) :
  w2.cell? ⟨w1.heap.size,0,none⟩=some y/\w2.cell? ⟨w1.heap.size,1,none⟩=some mo/\w2.cell? ⟨w1.heap.size,2,none⟩=some d/\w1.heap.size<w2.heap.size/\Below w1.heap.size w1 w2:=by
 obtain ⟨a,b,c,l,k⟩:=h;have hc:=(JL hb).1;exact ⟨by rw [hc _ _ l,a],by rw [hc _ _ l,b],by rw [hc _ _ l,c],Nat.lt_of_lt_of_le l hb.size,k.trans (hb.mono (by omega))⟩
theorem wE (n:Int) (w:World) (h:n<0∨52596000<=n) :
  Calls prog 38 #[.int .i64 n] w fun e w'=>e=.returned (.string (str []))/\Below w.heap.size w w':=by
 by_cases h0:n<0
 ·go_enter func38,ntmps38;go_wp2_with fail;go_ret;exact ⟨rfl,Below.refl _ _⟩
 ·have h1:52596000<=n:=by omega
  clear h;go_enter func38,ntmps38;go_wp2_with fail;go_ret;exact ⟨rfl,Below.refl _ _⟩
theorem pK (n y mo d:Int) (w:World) (h1:0<=n) (h2:n<52596000) (hd:Cal.yOf (n / 1440)=y/\Cal.mOf (n / 1440)=mo/\Cal.dOf (n / 1440)=d)
  (y1:2000<=y) (y2:y<=2099) (mo1:0<=mo) (mo2:mo<100) (d1:0<=d) (d2:d<100) :
  Calls prog 38 #[.int .i64 n] w fun e w'=>e=.returned (.string (str (txt y mo d (n % 1440 / 60) (n % 60))))/\Below w.heap.size w w':=by
 have HD:=A5 hd;clear hd;have tsz:=wC;have m1:0<=n % 1440 / 60:=by omega
 have m2:n % 1440 / 60<100:=by omega
 have i1:0<=n % 60:=by omega
 have i2:n % 60<100:=by omega
 go_enter func38,ntmps38;go_wp2_with fail;refine (wD (n / 1440) y mo d _ (by omega) (by omega) HD.out).mono ?_;rintro e w1 ⟨rfl,hb1⟩;go_wp2_with fail;have a1:0<=y / 100:=by omega
 have a2:y / 100<10000:=by omega
 have a3:0<=y:=by omega
 have a4:y<10000:=by omega
 have a5:mo<10000:=by omega
 have a6:d<10000:=by omega
 have a7:n % 1440 / 60<10000:=by omega
 have a8:n % 60<10000:=by omega
 have w1b:w1.heap.size<(w1.alloc (.cells #[.int .i64 y,.int .i64 mo,.int .i64 d] 108)).heap.size:=by simp
 have E1:IntKind.i64.wrap (y.tdiv 100)=y / 100:=by rw [Int.tdiv_eq_ediv_of_nonneg a3];exact IntWalk.i64_in _ (by omega)
 have E2:n.tmod 1440=n % 1440:=Int.tmod_eq_emod_of_nonneg h1;have E3:IntKind.i64.wrap ((n % 1440).tdiv 60)=n % 1440 / 60:=by rw [Int.tdiv_eq_ediv_of_nonneg (by omega)];exact IntWalk.i64_in _ (by omega)
 have E4:n.tmod 60=n % 60:=Int.tmod_eq_emod_of_nonneg h1
 go_region_held3 (fun w'=>w'.cell? ⟨w1.heap.size,0,none⟩=some (.int .i64 y)/\w'.cell? ⟨w1.heap.size,1,none⟩=some (.int .i64 mo)/\w'.cell? ⟨w1.heap.size,2,none⟩=some (.int .i64 d)/\w1.heap.size<w'.heap.size/\Below w1.heap.size w1 w')
  (first|exact ⟨by simp,by simp,by simp,by simp,((Below.refl _ _).alloc (Nat.le_refl _) _).drew⟩|assumption|exact j5 (by assumption) (by assumption)|go_keep)
  (first|(go_at_call 65;with_reducible refine (N8 (y / 100) _ a1 a2).mono ?_;rintro e w2 ⟨rfl,hb2⟩)|(go_at_call 65;with_reducible refine (N8 y _ a3 a4).mono ?_;rintro e w2 ⟨rfl,hb2⟩)|(go_at_call 65;with_reducible refine (N8 mo _ mo1 a5).mono ?_;rintro e w2 ⟨rfl,hb2⟩)|(go_at_call 65;with_reducible refine (N8 d _ d1 a6).mono ?_;rintro e w2 ⟨rfl,hb2⟩)|(go_at_call 65;with_reducible refine (N8 (n % 1440 / 60) _ m1 a7).mono ?_;rintro e w2 ⟨rfl,hb2⟩)|(go_at_call 65;with_reducible refine (N8 (n % 60) _ i1 a8).mono ?_;rintro e w2 ⟨rfl,hb2⟩))
 obtain ⟨_,_,_,_,hbel⟩:_/\_/\_/\_/\_:=by assumption
 go_wp2_with fail;clear E1 E2 E3 E4;go_ret;exact ⟨DA (A0q y mo d _ _ y1 y2 mo1 mo2 d1 d2 m1 m2 i1 i2),hb1.trans (hbel.mono hb1.size)⟩
theorem XN (n:Int) (w:World) :
  Calls prog 38 #[.int .i64 n] w fun e w'=>e=.returned (.string (str (AZ n)))/\Below w.heap.size w w':=by
 by_cases h:0<=n/\n<52596000
 ·have e:AZ n=txt (Cal.yOf (n / 1440)) (Cal.mOf (n / 1440)) (Cal.dOf (n / 1440)) (n % 1440 / 60) (n % 60):=if_pos h;have hy:=Cal.MC (n / 1440) (by omega) (by omega);have hm:=Cal.iL (n / 1440);have hd:=Cal.iK (n / 1440) (by omega) (by omega);rw [e];exact pK n _ _ _ w h.1 h.2 ⟨rfl,rfl,rfl⟩ hy.1 hy.2 (by omega) (by omega) (by omega) (by omega)
 ·have e:AZ n=[]:=if_neg h;rw [e];exact wE n w (by omega)
end Go.Proofs.YtfecnkhoojnkbaaGreatDoor

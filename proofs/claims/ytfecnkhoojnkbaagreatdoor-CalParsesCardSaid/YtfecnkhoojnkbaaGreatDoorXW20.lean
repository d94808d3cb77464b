import Derived.Test.YtfecnkhoojnkbaaGreatDoorXW19
import Derived.Test.YtfecnkhoojnkbaaGreatDoorXW6
import Derived.Test.YtfecnkhoojnkbaaGreatDoorXRefF
import Derived.Test.YtfecnkhoojnkbaaGreatDoorXRuU
set_option maxHeartbeats 8000000
set_option maxRecDepth 1000000
namespace Go.Proofs.YtfecnkhoojnkbaaGreatDoor
open Go.RowKit Rul Rt Go.Sort Tryz
theorem KR {α:Type} [DecidableEq α] {lt:α->α->Bool} {f:Tx->Option α} {t:Tx} {l:List α} (h:FD lt f t=some l):l.length<=t.length+1:=by
 have h1:=JJ _ _ _ h;have h2:=G8 44 t;rw [List.length_nil] at h1;omega
theorem H7 {w w1 w2:World} {b:Nat} (h:w.grownBy w1 (some b)) (hb:Below w1.heap.size w1 w2):w.grownBy w2 (some b):=h.trans (BC hb)
theorem rD {w w1:World} {b i:Nat} {y:Value} (h:w.grownBy w1 (some b)):w.grownBy (w1.setCell ⟨b,i,none⟩ y) (some b):=h.trans (AG (start w1))
def jW (t:Tx) (j:Nat) (f:Bool) (k:Nat):Prop:=(f=false/\∀ i,i+1<j->C8.getD i []≠t)∨(f=true/\k<4/\C8.getD k []=t)
theorem jW.no {t:Tx} {k:Nat} (h:jW t 5 false k):F2 C8 t=none:=by
 rcases h with ⟨_,h⟩|⟨h,_⟩
 ·cases hx:F2 C8 t with
  | none=>rfl
  | some i =>
   have h1:=FO hx;have h2:i<4:=(List.getElem?_eq_some_iff.1 h1).1;exact absurd (by rw [List.getD_eq_getElem?_getD,h1];rfl) (h i (by omega))
 ·cases h
theorem jW.yes {t:Tx} {k:Nat} (h:jW t 5 true k):F2 C8 t=some k:=by
 rcases h with ⟨h,_⟩|⟨_,h4,rfl⟩
 ·cases h
 ·have:∀ k:Nat,k<4->F2 C8 (C8.getD k [])=some k:=by decide
  exact this k h4
def mR (r:T) (f:Bool) (k:Nat):T:=if f then { r with fr:=((k+1:Nat):Int) } else r
theorem A2O (t:Tx) (b:Nat) (v:Value) (r:T) (D M Y:Option Addr) (dn dc mn mc yn yc:Nat) (w:World) (h:AQ w b v r D dn dc M mn mc Y yn yc) (hv:∀ g,v.ownBlock=some g->g<w.heap.size) (ht:t.length<=9000) :
  Calls prog 166 #[.pointer (some ⟨b,0,none⟩),.string (str IE),.string (str t)] w (GR w b v r (Rt.valOf unU rdR IE t)):=by
 rw [yL];obtain ⟨X,hX⟩:∃ X,IE=X:=⟨_,rfl⟩;have e0:(X==[70,82,69,81])=true:=by rw [<- hX];decide
 have q1:=AH X;have hts:(str t).size<=9000:=by rw [AB];exact ht
 have htl:(str t).data.toList=t:=AD t;have H:=A5 h;have HV:=A5 hv;rw [hX];clear h hv hX ht;go_enter func166,ntmps166;go_wp2_with fail
 go_loopw [7,8] (fun ok i wr=>∃ (j:Nat) (f:Bool) (k:Nat),1<=j/\j<=5/\i=.int .i64 j/\ok=.bool f/\AQ wr b v (mR r f k) D dn dc M mn mc Y yn yc/\w.grownBy wr (some b)/\Hid (jW t j f k)) (fun _ i _=>5-(intOf i).toNat)
 case atStart=>exact ⟨1,false,0,Nat.le_refl _,by omega,rfl,rfl,H.out,BC (start _),A5 (Or.inl ⟨rfl,fun i h=>absurd h (by omega)⟩)⟩
 case round =>
  obtain ⟨j,f,k,hj1,hj,rfl,rfl,hru,hg,HA⟩:=hrel;have HU:=A5 hru;have HG:=A5 hg;clear hru hg
  by_cases hlt:j<5
  ·have HC:=A5 (fun w=>Y6 (j:Int) w (by omega) (by omega));have hi0:(j:Int)<=4:=by omega
   have hfq:IU (j:Int)=C8.getD (j-1) []:=by unfold IU;rw [Int.toNat_natCast]
   rw [hfq] at HC;clear hfq
   by_cases hq:C8.getD (j-1) []=t
   ·have HN:Hid (jW t (j+1) true (j-1)):=A5 (Or.inr ⟨rfl,by omega,hq⟩);have q2:(C8.getD (j-1) []==t)=true:=by rw [AO];exact z0H hq
    have hjj:(((j-1+1:Nat)):Int)=(j:Int):=by omega
    generalize C8.getD (j-1) []=F at *;have q3:=AH F;have q4:=AH t;clear hq;go_wp2_with fail;refine (HC.out _).mono ?_;rintro e w2 ⟨rfl,hb⟩;have hu:=HU.out.keep hb;have ck:=hu.c0;have fk:=hu.f0;have HW:=A5 (hu.aH (j:Int));have HGG:=A5 (rD (i:=0) (y:=.int .i64 (j:Int)) (H7 HG.out hb));have HEQ:Hid ({ mR r f k with fr:=(j:Int) }=mR r true (j-1)):=A5 (by unfold mR;rw [hjj];cases f <;> rfl);rw [HEQ.out] at HW;clear hu hb hjj;go_wp2_with fail
    go_roundw
    case rel=>exact ⟨j+1,true,j-1,by omega,by omega,by go_num,rfl,HW.out,HGG.out,HN⟩
    case measure=>simp [intOf];omega
   ·have HN:Hid (jW t (j+1) f k):=A5 (by
     rcases HA.out with ⟨h1,h2⟩|h
     ·refine Or.inl ⟨h1,fun i hi=>?_⟩;rcases Nat.lt_or_ge (i+1) j with g|g
      ·exact h2 i g
      ·obtain rfl:i=j-1:=by omega
       exact hq
     ·exact Or.inr h)
    have q2:(C8.getD (j-1) []==t)=false:=by rw [AO];exact z0G hq
    generalize C8.getD (j-1) []=F at *;have q3:=AH F;have q4:=AH t;clear hq;go_wp2_with fail;refine (HC.out _).mono ?_;rintro e w2 ⟨rfl,hb⟩;have HW:=A5 (HU.out.keep hb);have HGG:=A5 (H7 HG.out hb);clear hb;go_wp2_with fail
    go_roundw
    case rel=>exact ⟨j+1,f,k,by omega,by omega,by go_num,rfl,HW.out,HGG.out,HN⟩
    case measure=>simp [intOf];omega
  ·obtain rfl:j=5:=by omega
   cases f with
   | false =>
    have HX:=A5 HA.out.no;go_wp2_with fail;go_ret;rw [HX.out];exact ⟨HG.out,rfl⟩
   | true =>
    have HX:=A5 HA.out.yes;go_wp2_with fail;go_ret;rw [HX.out];exact ⟨HG.out,rfl,_,_,_,_,_,_,_,_,_,HU.out⟩
theorem A2P (t:Tx) (b:Nat) (v:Value) (r:T) (D M Y:Option Addr) (dn dc mn mc yn yc:Nat) (w:World) (h:AQ w b v r D dn dc M mn mc Y yn yc) (hv:∀ g,v.ownBlock=some g->g<w.heap.size) (ht:t.length<=9000) :
  Calls prog 166 #[.pointer (some ⟨b,0,none⟩),.string (str BW),.string (str t)] w (GR w b v r (Rt.valOf unU rdR BW t)):=by
 rw [yM];obtain ⟨X,hX⟩:∃ X,BW=X:=⟨_,rfl⟩;have e0:(X==[70,82,69,81])=false:=by rw [<- hX];decide
 have e1:(X==[73,78,84,69,82,86,65,76])=true:=by rw [<- hX];decide
 have q1:=AH X;have hts:(str t).size<=9000:=by rw [AB];exact ht
 have htl:(str t).data.toList=t:=AD t;have H:=A5 h;have HV:=A5 hv;rw [hX];clear h hv hX ht;have HD:=A5 (fun w=>MT (str t) false w (by omega));rw [htl] at HD;have ck:=H.out.c1;have fk:=H.out.f1
 cases hd:B8 t false with
 | none =>
  rw [BG hd] at HD;have HO:Hid ((rdR.pos t).map Rt.Part.ev=none):=A5 (by show (posOf (B8 · false) t).map _=none;unfold posOf;simp only [hd];rfl);have ck2:(w.setCell ⟨b,1,none⟩ (.int .i64 0)).cell? ⟨b,1,none⟩=some (.int .i64 0):=JP ck;clear hd;go_enter func166,ntmps166;go_wp2_with fail;refine (HD.out _).mono ?_;rintro e w1 ⟨rfl,rfl⟩;go_wp2_with fail;go_ret;rw [HO.out];exact ⟨AG (start _),rfl⟩
 | some n =>
  rw [EO hd] at HD;have ck2:(w.setCell ⟨b,1,none⟩ (.int .i64 n)).cell? ⟨b,1,none⟩=some (.int .i64 n):=JP ck
  by_cases hp:0<n
  ·have HO:Hid ((rdR.pos t).map Rt.Part.ev=some (Rt.Part.ev n)):=A5 (by show (posOf (B8 · false) t).map _=_;unfold posOf;simp only [hd];rw [if_pos hp];rfl);have q2:decide (0<n)=true:=z0H hp;clear hd;go_enter func166,ntmps166;go_wp2_with fail;refine (HD.out _).mono ?_;rintro e w1 ⟨rfl,rfl⟩;go_wp2_with fail;go_ret;rw [HO.out];exact ⟨AG (start _),rfl,_,_,_,_,_,_,_,_,_,H.out.aI n⟩
  ·have HO:Hid ((rdR.pos t).map Rt.Part.ev=none):=A5 (by show (posOf (B8 · false) t).map _=none;unfold posOf;simp only [hd];rw [if_neg hp];rfl);have q2:decide (0<n)=false:=z0G hp;clear hd;go_enter func166,ntmps166;go_wp2_with fail;refine (HD.out _).mono ?_;rintro e w1 ⟨rfl,rfl⟩;go_wp2_with fail;go_ret;rw [HO.out];exact ⟨AG (start _),rfl⟩
theorem A2Q (t:Tx) (b:Nat) (v:Value) (r:T) (D M Y:Option Addr) (dn dc mn mc yn yc:Nat) (w:World) (h:AQ w b v r D dn dc M mn mc Y yn yc) (hv:∀ g,v.ownBlock=some g->g<w.heap.size) (ht:t.length<=9000) :
  Calls prog 166 #[.pointer (some ⟨b,0,none⟩),.string (str EA),.string (str t)] w (GR w b v r (Rt.valOf unU rdR EA t)):=by
 rw [yN];obtain ⟨X,hX⟩:∃ X,EA=X:=⟨_,rfl⟩;have e0:(X==[70,82,69,81])=false:=by rw [<- hX];decide
 have e1:(X==[73,78,84,69,82,86,65,76])=false:=by rw [<- hX];decide
 have e2:(X==[67,79,85,78,84])=true:=by rw [<- hX];decide
 have q1:=AH X;have hts:(str t).size<=9000:=by rw [AB];exact ht
 have htl:(str t).data.toList=t:=AD t;have H:=A5 h;have HV:=A5 hv;rw [hX];clear h hv hX ht;have HD:=A5 (fun w=>MT (str t) false w (by omega));rw [htl] at HD;have ck:=H.out.c2;have fk:=H.out.f2
 cases hd:B8 t false with
 | none =>
  rw [BG hd] at HD;have HO:Hid ((rdR.pos t).map Rt.Part.ct=none):=A5 (by show (posOf (B8 · false) t).map _=none;unfold posOf;simp only [hd];rfl);have ck2:(w.setCell ⟨b,2,none⟩ (.int .i64 0)).cell? ⟨b,2,none⟩=some (.int .i64 0):=JP ck;clear hd;go_enter func166,ntmps166;go_wp2_with fail;refine (HD.out _).mono ?_;rintro e w1 ⟨rfl,rfl⟩;go_wp2_with fail;go_ret;rw [HO.out];exact ⟨AG (start _),rfl⟩
 | some n =>
  rw [EO hd] at HD;have ck2:(w.setCell ⟨b,2,none⟩ (.int .i64 n)).cell? ⟨b,2,none⟩=some (.int .i64 n):=JP ck
  by_cases hp:0<n
  ·have HO:Hid ((rdR.pos t).map Rt.Part.ct=some (Rt.Part.ct n)):=A5 (by show (posOf (B8 · false) t).map _=_;unfold posOf;simp only [hd];rw [if_pos hp];rfl);have q2:decide (0<n)=true:=z0H hp;clear hd;go_enter func166,ntmps166;go_wp2_with fail;refine (HD.out _).mono ?_;rintro e w1 ⟨rfl,rfl⟩;go_wp2_with fail;go_ret;rw [HO.out];exact ⟨AG (start _),rfl,_,_,_,_,_,_,_,_,_,H.out.aJ n⟩
  ·have HO:Hid ((rdR.pos t).map Rt.Part.ct=none):=A5 (by show (posOf (B8 · false) t).map _=none;unfold posOf;simp only [hd];rw [if_neg hp];rfl);have q2:decide (0<n)=false:=z0G hp;clear hd;go_enter func166,ntmps166;go_wp2_with fail;refine (HD.out _).mono ?_;rintro e w1 ⟨rfl,rfl⟩;go_wp2_with fail;go_ret;rw [HO.out];exact ⟨AG (start _),rfl⟩
theorem A2R (t:Tx) (b:Nat) (v:Value) (r:T) (D M Y:Option Addr) (dn dc mn mc yn yc:Nat) (w:World) (h:AQ w b v r D dn dc M mn mc Y yn yc) (hv:∀ g,v.ownBlock=some g->g<w.heap.size) (ht:t.length<=9000) :
  Calls prog 166 #[.pointer (some ⟨b,0,none⟩),.string (str EC),.string (str t)] w (GR w b v r (Rt.valOf unU rdR EC t)):=by
 rw [yO];obtain ⟨X,hX⟩:∃ X,EC=X:=⟨_,rfl⟩;have e0:(X==[70,82,69,81])=false:=by rw [<- hX];decide
 have e1:(X==[73,78,84,69,82,86,65,76])=false:=by rw [<- hX];decide
 have e2:(X==[67,79,85,78,84])=false:=by rw [<- hX];decide
 have e3:(X==[85,78,84,73,76])=true:=by rw [<- hX];decide
 have q1:=AH X;have hts:(str t).size<=9000:=by rw [AB];exact ht
 have htl:(str t).data.toList=t:=AD t;have H:=A5 h;have HV:=A5 hv;rw [hX];clear h hv hX ht;go_enter func166,ntmps166;go_wp2_with fail;refine (OO (str t) _).mono ?_;rintro e w1 ⟨rfl,hb⟩;rw [htl];have hun:unU.f t=if (BZ t).2=0 then some (BZ t).1 else none:=rfl
 obtain ⟨⟨n,c⟩,hP⟩:∃ P,BZ t=P:=⟨_,rfl⟩;rw [hP] at hun ⊢;simp only at hun ⊢;have ck:=(H.out.keep hb).c3;have fk:=(H.out.keep hb).f3;have HK:=A5 (H.out.keep hb);have HB:=A5 hb;clear hb hP
 by_cases hc:c=0
 ·have HO:Hid (unU.f t=some n):=A5 (by rw [hun,if_pos hc]);have q2:(c==0)=true:=beq_iff_eq.2 hc;clear hun hc;go_wp2_with fail;go_ret;rw [HO.out];exact ⟨AG HB.out,rfl,_,_,_,_,_,_,_,_,_,HK.out.aK n⟩
 ·have HO:Hid (unU.f t=none):=A5 (by rw [hun,if_neg hc]);have q2:(c==0)=false:=beq_eq_false_iff_ne.2 hc;clear hun hc;go_wp2_with fail;go_ret;rw [HO.out];exact ⟨AG HB.out,rfl⟩
theorem A2S (t:Tx) (b:Nat) (v:Value) (r:T) (D M Y:Option Addr) (dn dc mn mc yn yc:Nat) (w:World) (h:AQ w b v r D dn dc M mn mc Y yn yc) (hv:∀ g,v.ownBlock=some g->g<w.heap.size) (ht:t.length<=9000) :
  Calls prog 166 #[.pointer (some ⟨b,0,none⟩),.string (str CI),.string (str t)] w (GR w b v r (Rt.valOf unU rdR CI t)):=by
 rw [yP];obtain ⟨X,hX⟩:∃ X,CI=X:=⟨_,rfl⟩;have e0:(X==[70,82,69,81])=false:=by rw [<- hX];decide
 have e1:(X==[73,78,84,69,82,86,65,76])=false:=by rw [<- hX];decide
 have e2:(X==[67,79,85,78,84])=false:=by rw [<- hX];decide
 have e3:(X==[85,78,84,73,76])=false:=by rw [<- hX];decide
 have e4:(X==[66,89,77,79,78,84,72])=true:=by rw [<- hX];decide
 have q1:=AH X;have hts:(str t).size<=9000:=by rw [AB];exact ht
 have htl:(str t).data.toList=t:=AD t;have H:=A5 h;have HV:=A5 hv;rw [hX];clear h hv hX ht;have HC:=A5 (VI (str t) false w hts);rw [htl] at HC;obtain ⟨O,hO⟩:∃ O,FD AI (B8 · false) t=O:=⟨_,rfl⟩;have HO:Hid ((rdR.nums false t).map Rt.Part.ys=O.map Rt.Part.ys):=A5 (by rw [<- hO];rfl);have HLE:Hid (∀ l,O=some l->l.length<=10000):=A5 (fun l hl=>by rw [<- hO] at hl;have h1:=KR hl;rw [AB] at hts;omega);rw [hO] at HC;clear hO;go_enter func166,ntmps166;go_wp2_with fail;refine HC.out.mono ?_;rintro e w2 ⟨hb,⟨rfl,rfl⟩|⟨l,v2,rfl,rfl,hown⟩⟩
 ·have ck:=(H.out.keep hb).c6;have fk:=(H.out.keep hb).f6;have HB:=A5 hb;clear hb;go_wp2_with fail;go_ret;rw [HO.out];exact ⟨AG HB.out,rfl⟩
 ·have HOW:=A5 hown;obtain ⟨A2,cap2,rfl,hrow⟩:=BV.row hown;have HRW:=A5 hrow;have ck:=(H.out.keep hb).c6;have fk:=(H.out.keep hb).f6;have HK:=A5 (H.out.keep hb);have HB:=A5 hb;clear hb hown hrow;go_wp2_with fail;go_ret;rw [HO.out];exact ⟨AG HB.out,rfl,_,_,_,_,_,_,_,_,_,HK.out.aN A2 _ cap2 l HRW.out rfl (HLE.out l rfl) (EP.new HOW.out H.out.lt HV.out)⟩
theorem A2T (t:Tx) (b:Nat) (v:Value) (r:T) (D M Y:Option Addr) (dn dc mn mc yn yc:Nat) (w:World) (h:AQ w b v r D dn dc M mn mc Y yn yc) (hv:∀ g,v.ownBlock=some g->g<w.heap.size) (ht:t.length<=9000) :
  Calls prog 166 #[.pointer (some ⟨b,0,none⟩),.string (str BA),.string (str t)] w (GR w b v r (Rt.valOf unU rdR BA t)):=by
 rw [yQ];obtain ⟨X,hX⟩:∃ X,BA=X:=⟨_,rfl⟩;have e0:(X==[70,82,69,81])=false:=by rw [<- hX];decide
 have e1:(X==[73,78,84,69,82,86,65,76])=false:=by rw [<- hX];decide
 have e2:(X==[67,79,85,78,84])=false:=by rw [<- hX];decide
 have e3:(X==[85,78,84,73,76])=false:=by rw [<- hX];decide
 have e4:(X==[66,89,77,79,78,84,72])=false:=by rw [<- hX];decide
 have e5:(X==[66,89,77,79,78,84,72,68,65,89])=true:=by rw [<- hX];decide
 have q1:=AH X;have hts:(str t).size<=9000:=by rw [AB];exact ht
 have htl:(str t).data.toList=t:=AD t;have H:=A5 h;have HV:=A5 hv;rw [hX];clear h hv hX ht;have HC:=A5 (VI (str t) true w hts);rw [htl] at HC;obtain ⟨O,hO⟩:∃ O,FD AI (B8 · true) t=O:=⟨_,rfl⟩;have HO:Hid ((rdR.nums true t).map Rt.Part.ms=O.map Rt.Part.ms):=A5 (by rw [<- hO];rfl);have HLE:Hid (∀ l,O=some l->l.length<=10000):=A5 (fun l hl=>by rw [<- hO] at hl;have h1:=KR hl;rw [AB] at hts;omega);rw [hO] at HC;clear hO;go_enter func166,ntmps166;go_wp2_with fail;refine HC.out.mono ?_;rintro e w2 ⟨hb,⟨rfl,rfl⟩|⟨l,v2,rfl,rfl,hown⟩⟩
 ·have ck:=(H.out.keep hb).c5;have fk:=(H.out.keep hb).f5;have HB:=A5 hb;clear hb;go_wp2_with fail;go_ret;rw [HO.out];exact ⟨AG HB.out,rfl⟩
 ·have HOW:=A5 hown;obtain ⟨A2,cap2,rfl,hrow⟩:=BV.row hown;have HRW:=A5 hrow;have ck:=(H.out.keep hb).c5;have fk:=(H.out.keep hb).f5;have HK:=A5 (H.out.keep hb);have HB:=A5 hb;clear hb hown hrow;go_wp2_with fail;go_ret;rw [HO.out];exact ⟨AG HB.out,rfl,_,_,_,_,_,_,_,_,_,HK.out.aM A2 _ cap2 l HRW.out rfl (HLE.out l rfl) (EP.new HOW.out H.out.lt HV.out)⟩
theorem A2U (t:Tx) (b:Nat) (v:Value) (r:T) (D M Y:Option Addr) (dn dc mn mc yn yc:Nat) (w:World) (h:AQ w b v r D dn dc M mn mc Y yn yc) (hv:∀ g,v.ownBlock=some g->g<w.heap.size) (ht:t.length<=9000) :
  Calls prog 166 #[.pointer (some ⟨b,0,none⟩),.string (str ED),.string (str t)] w (GR w b v r (Rt.valOf unU rdR ED t)):=by
 rw [yR];obtain ⟨X,hX⟩:∃ X,ED=X:=⟨_,rfl⟩;have e0:(X==[70,82,69,81])=false:=by rw [<- hX];decide
 have e1:(X==[73,78,84,69,82,86,65,76])=false:=by rw [<- hX];decide
 have e2:(X==[67,79,85,78,84])=false:=by rw [<- hX];decide
 have e3:(X==[85,78,84,73,76])=false:=by rw [<- hX];decide
 have e4:(X==[66,89,77,79,78,84,72])=false:=by rw [<- hX];decide
 have e5:(X==[66,89,77,79,78,84,72,68,65,89])=false:=by rw [<- hX];decide
 have e6:(X==[66,89,68,65,89])=true:=by rw [<- hX];decide
 have q1:=AH X;have hts:(str t).size<=9000:=by rw [AB];exact ht
 have htl:(str t).data.toList=t:=AD t;have H:=A5 h;have HV:=A5 hv;rw [hX];clear h hv hX ht;have HC:=A5 (jU (str t) w hts);rw [htl] at HC;obtain ⟨O,hO⟩:∃ O,FD BO (BH (B8 · true)) t=O:=⟨_,rfl⟩;have HO:Hid ((rdR.wds t).map Rt.Part.ds=O.map Rt.Part.ds):=A5 (by rw [<- hO];rfl);have HLE:Hid (∀ l,O=some l->l.length<=10000):=A5 (fun l hl=>by rw [<- hO] at hl;have h1:=KR hl;rw [AB] at hts;omega);rw [hO] at HC;clear hO;go_enter func166,ntmps166;go_wp2_with fail;refine HC.out.mono ?_;rintro e w2 ⟨hb,⟨rfl,rfl⟩|⟨l,v2,rfl,rfl,hown⟩⟩
 ·have ck:=(H.out.keep hb).c4;have fk:=(H.out.keep hb).f4;have HB:=A5 hb;clear hb;go_wp2_with fail;go_ret;rw [HO.out];exact ⟨AG HB.out,rfl⟩
 ·have HOW:=A5 hown;obtain ⟨A2,cap2,rfl,hrow⟩:=DO.row hown;have HRW:=A5 hrow;have ck:=(H.out.keep hb).c4;have fk:=(H.out.keep hb).f4;have HK:=A5 (H.out.keep hb);have HB:=A5 hb;clear hb hown hrow;go_wp2_with fail;go_ret;rw [HO.out];exact ⟨AG HB.out,rfl,_,_,_,_,_,_,_,_,_,HK.out.aL A2 _ cap2 l HRW.out rfl (HLE.out l rfl) (EP.newD HOW.out H.out.lt HV.out)⟩
theorem A10 (X t:Tx) (b:Nat) (v:Value) (r:T) (w:World) (hx0:X≠IE) (hx1:X≠BW) (hx2:X≠EA) (hx3:X≠EC) (hx4:X≠CI) (hx5:X≠BA) (hx6:X≠ED) :
  Calls prog 166 #[.pointer (some ⟨b,0,none⟩),.string (str X),.string (str t)] w (GR w b v r (Rt.valOf unU rdR X t)):=by
 have HN:Hid (Rt.valOf unU rdR X t=none):=A5 (by unfold Rt.valOf;rw [if_neg hx0,if_neg hx1,if_neg hx2,if_neg hx3,if_neg hx4,if_neg hx5,if_neg hx6]);have e0:(X==[70,82,69,81])=false:=by rw [AO];exact z0G hx0
 have e1:(X==[73,78,84,69,82,86,65,76])=false:=by rw [AO];exact z0G hx1
 have e2:(X==[67,79,85,78,84])=false:=by rw [AO];exact z0G hx2
 have e3:(X==[85,78,84,73,76])=false:=by rw [AO];exact z0G hx3
 have e4:(X==[66,89,77,79,78,84,72])=false:=by rw [AO];exact z0G hx4
 have e5:(X==[66,89,77,79,78,84,72,68,65,89])=false:=by rw [AO];exact z0G hx5
 have e6:(X==[66,89,68,65,89])=false:=by rw [AO];exact z0G hx6
 have q1:=AH X;rw [HN.out];clear hx0 hx1 hx2 hx3 hx4 hx5 hx6;go_enter func166,ntmps166;go_wp2_with fail;go_ret;exact ⟨BC (start _),rfl⟩
theorem yD (X t:Tx) (b:Nat) (v:Value) (r:T) (D M Y:Option Addr) (dn dc mn mc yn yc:Nat) (w:World) (h:AQ w b v r D dn dc M mn mc Y yn yc) (hv:∀ g,v.ownBlock=some g->g<w.heap.size) (ht:t.length<=9000) :
  Calls prog 166 #[.pointer (some ⟨b,0,none⟩),.string (str X),.string (str t)] w (GR w b v r (Rt.valOf unU rdR X t)):=by
 by_cases h0:X=IE
 ·subst h0;exact A2O t b v r D M Y dn dc mn mc yn yc w h hv ht
 by_cases h1:X=BW
 ·subst h1;exact A2P t b v r D M Y dn dc mn mc yn yc w h hv ht
 by_cases h2:X=EA
 ·subst h2;exact A2Q t b v r D M Y dn dc mn mc yn yc w h hv ht
 by_cases h3:X=EC
 ·subst h3;exact A2R t b v r D M Y dn dc mn mc yn yc w h hv ht
 by_cases h4:X=CI
 ·subst h4;exact A2S t b v r D M Y dn dc mn mc yn yc w h hv ht
 by_cases h5:X=BA
 ·subst h5;exact A2T t b v r D M Y dn dc mn mc yn yc w h hv ht
 by_cases h6:X=ED
 ·subst h6;exact A2U t b v r D M Y dn dc mn mc yn yc w h hv ht
 exact A10 X t b v r w h0 h1 h2 h3 h4 h5 h6
def LY (U:Un) (l:List Tx):Option T:=match AK (FJ U) l with
 | none=>none
 | some ps=>if (ps.map tag).Nodup then some (fold ps) else none
theorem OV {U:Un} {l:List Tx} {j:Nat} (hlt:j<l.length) (h:FJ U l[j]=none):LY U l=none:=by
 unfold LY;rw [NK hlt h]
theorem jX {U:Un} {l:List Tx} {ps:List Rt.Part} (h:AK (FJ U) l=some ps) (hn:(ps.map tag).Nodup):LY U l=some (fold ps):=by
 unfold LY;rw [h];simp only;rw [if_pos hn]
theorem NH {U:Un} {t a v:Tx} (h:cutAt 61 t=[a,v]):FJ U t=Rt.valOf U rdR a v:=by unfold FJ;rw [h]
theorem fK {U:Un} {t:Tx} (h:(cutAt 61 t).length≠2):FJ U t=none:=by
 unfold FJ
 match cutAt 61 t,h with
 | [],_=>rfl
 | [_],_=>rfl
 | [_,_],h=>exact absurd rfl h
 | _ :: _ :: _ :: _,_=>rfl
theorem rE {U:Un} {l:List Tx} {j:Nat} {ps:List Rt.Part} {a v:Tx} (hlt:j<l.length) (hA:AK (FJ U) (l.take j)=some ps) (hc:cutAt 61 l[j]=[a,v]) (hm:a∈ps.map nameOf):LY U l=none:=by
 cases hx:Rt.valOf U rdR a v with
 | none=>exact OV hlt (by rw [NH hc];exact hx)
 | some p =>
  have hn:=PD hx;subst hn;have h1:=GB hlt hA (by rw [NH hc];exact hx);unfold LY
  cases hq:AK (FJ U) l with
  | none=>rfl
  | some qs =>
   simp only;rw [if_neg];intro hd;have h2:=QB l qs (j+1) hq;rw [h1] at h2;injection h2 with h2;have h3:((ps++[p]).map tag).Nodup:=by rw [h2,List.map_take];exact List.Nodup.sublist (List.take_sublist _ _) hd
   rw [List.map_append,List.nodup_append] at h3;obtain ⟨q,hq1,hq2⟩:=List.mem_map.1 hm;exact h3.2.2 (tag q) (List.mem_map.2 ⟨q,hq1,rfl⟩) (tag p) (by simp) ((UE q p).1 hq2)
theorem rF {U:Un} {s:Tx} (h:LY U (cutAt 59 s)=none):UG U s=none:=by
 unfold UG ans;unfold LY at h
 cases hq:AK (FJ U) (cutAt 59 s) with
 | none=>rfl
 | some ps =>
  rw [hq] at h;simp only at h ⊢
  split at h
  ·cases h
  ·rename_i hn;rw [if_neg (fun g=>hn g.1)]
theorem rG {U:Un} {s:Tx} {r:T} (h:LY U (cutAt 59 s)=some r) (h0:r.fr=0∨isB r=false):UG U s=none:=by
 unfold UG ans;unfold LY at h
 cases hq:AK (FJ U) (cutAt 59 s) with
 | none=>rw [hq] at h;try cases h
 | some ps =>
  rw [hq] at h;simp only at h ⊢
  split at h
  ·injection h with h;rw [if_neg];rintro ⟨_,hb⟩;rcases h0 with h0|h0
   ·have:=(FP (UK (evs (fun t n=>cQ) hq) hb)).f1;rw [h,h0] at this;omega
   ·rw [h,h0] at hb;cases hb
  ·cases h
theorem rH {U:Un} {s:Tx} {r:T} (h:LY U (cutAt 59 s)=some r) (h0:isB r=true):UG U s=some r:=by
 unfold UG ans;unfold LY at h
 cases hq:AK (FJ U) (cutAt 59 s) with
 | none=>rw [hq] at h;try cases h
 | some ps =>
  rw [hq] at h;simp only at h ⊢
  split at h
  ·rename_i hn
   injection h with h;rw [h,if_pos ⟨hn,h0⟩]
  ·cases h
theorem LQ {w w1:World} {b X i:Nat} {u:Value} (hg:w.grownBy w1 (some X)) (hne:b≠X) (h:w.cell? ⟨b,i,none⟩=some u):w1.cell? ⟨b,i,none⟩=some u:=hg.cell h (fun e=>hne (by injection e))
theorem BU.grown {w w1:World} {A:Option Addr} {l:List Tx} {row:Option Nat} (h:BU w A l) (g:w.grownBy w1 row) (ho:∀ b o,A=some ⟨b,o,none⟩->some b≠row):BU w1 A l:=fun hn=>by
 obtain ⟨b,o,rfl,hl,hc⟩:=h hn;exact ⟨b,o,rfl,Nat.lt_of_lt_of_le hl g.size,fun i hi=>g.cell (hc i hi) (ho b o rfl)⟩
theorem rI (s:ByteArray) (w:World) (hs:s.size<=8500) :
  Calls prog 133 #[.string s] w (A1S w (UG unU s.data.toList)):=by
 have HNO:=A5 (fun h=>rF (U:=unU) (s:=s.data.toList) h);have HZO:=A5 (fun r h k=>rG (U:=unU) (s:=s.data.toList) (r:=r) h k);have HRO:=A5 (fun r h k=>rH (U:=unU) (s:=s.data.toList) (r:=r) h k);obtain ⟨O,hO⟩:∃ O,UG unU s.data.toList=O:=⟨_,rfl⟩;rw [hO] at HNO HZO HRO ⊢;have hcl:=G8 59 s.data.toList;have hcs:=KP 59 s.data.toList;rw [AE] at hcl hcs;have HC0:=A5 (fun w=>MS s 59 59 w rfl (by omega));generalize cutAt 59 s.data.toList=l at *;have HCS:=A5 hcs;clear hO hcs;have HZ:=A5 ((VW w 44).keep (more (start _) (.cells #[.int .i64 0,.int .i64 1,.int .i64 0,.int .i64 (-1),.slice none 0 0,.slice none 0 0,.slice none 0 0] 44)));have HX:=A5 (mX (w.alloc (.cells #[.int .i64 0,.int .i64 0,.int .i64 0,.int .i64 0,.slice none 0 0,.slice none 0 0,.slice none 0 0] 44)) 44);have HZB:=A5 (more (more (start w) (.cells #[.int .i64 0,.int .i64 0,.int .i64 0,.int .i64 0,.slice none 0 0,.slice none 0 0,.slice none 0 0] 44)) (.cells #[.int .i64 0,.int .i64 1,.int .i64 0,.int .i64 (-1),.slice none 0 0,.slice none 0 0,.slice none 0 0] 44));go_enter func133,ntmps133;go_wp2_with fail;refine (HC0.out _).mono ?_;rintro e w1 ⟨v,rfl,hown,hb1⟩;replace HZ:=A5 (HZ.out.keep hb1);replace HX:=A5 (HX.out.keep hb1);replace HZB:=A5 (andthen HZB.out hb1);obtain ⟨A,cap,rfl,hrow,hcap⟩:=BY.row hown;have HR:=A5 hrow;obtain ⟨B1,hB1⟩:∃ B1,w1.heap.size=B1:=⟨_,rfl⟩;have HRB:Hid (∀ b o,A=some ⟨b,o,none⟩->w.heap.size+1<b/\b<B1):=A5 (fun b o e=>by
  subst e;have h1:=hown.lt b rfl;simp only [World.size_alloc] at h1;omega)
 have hXB:w.heap.size+1<B1:=by have:=hb1.size;simp only [World.size_alloc] at this;omega
 rw [World.size_alloc] at HX;obtain ⟨X,hX⟩:∃ X,w.heap.size+1=X:=⟨_,rfl⟩;rw [hX] at HX HRB hXB ⊢;have hX0:w.heap.size<X:=by omega
 clear hown hrow hb1 hX;go_wp2_with fail
 go_loopw [6,7,8,9] (fun v i _ _ wr=>∃ (j:Nat) (ps:List Rt.Part) (D:Option Addr) (dn dc:Nat) (M:Option Addr) (mn mc:Nat) (Y:Option Addr) (yn yc:Nat),j<=l.length/\i=.int .i64 j/\BY wr B1 v (ps.map nameOf)/\AQ wr X v (fold ps) D dn dc M mn mc Y yn yc/\AQ wr w.heap.size v ⟨0,0,0,0,[],[],[]⟩ none 0 0 none 0 0 none 0 0/\Hid (AK (FJ unU) (l.take j)=some ps)/\Hid ((ps.map tag).Nodup)/\BU wr A l/\B1<=wr.heap.size/\Below w.heap.size w wr) (fun _ i _ _ _=>l.length-(intOf i).toNat)
 case atStart=>exact ⟨0,[],_,_,_,_,_,_,_,_,_,Nat.zero_le _,rfl,IK _ _,HX.out,HZ.out,A5 rfl,A5 List.nodup_nil,HR.out,Nat.le_of_eq hB1.symm,HZB.out⟩
 case round =>
  obtain ⟨j,ps,D,dn,dc,M,mn,mc,Y,yn,yc,hj,rfl,hown,hx,hz,HA,HN,hrow,hsz,hbw⟩:=hrel;have HO:=A5 hown;have HXr:=A5 hx;have HZr:=A5 hz;have HBR:=A5 hbw;have HRr:=A5 hrow;clear hown hx hz hbw hrow HX HZ HZB HR
  by_cases hlt:j<l.length
  ·obtain ⟨b1,o1,rfl,hb1,hc1⟩:=HRr.out (by intro h0;rw [h0] at hlt;exact absurd hlt (Nat.not_lt_zero _));obtain ⟨T,hm⟩:∃ T,l[j]=T:=⟨_,rfl⟩;have hT:T.length<=8500:=by rw [<- hm];exact Nat.le_trans (HCS.out _ (List.getElem_mem hlt)) hs
   have p1:wr.cell? ⟨b1,o1+j,none⟩=some (.string (str T)):=by rw [<- hm];exact hc1 j hlt
   have hi0:(0:Int)<=(j:Int):=by omega
   have hi1:(j:Int)<(l.length:Int):=by omega
   have HC:=A5 (fun w=>MS (str T) 61 61 w rfl (by rw [AB];omega));rw [AD] at HC;have hls:=KP 61 T;have hll:=G8 61 T;have hpl:(ps.map nameOf).length<=10000:=by have:=BF HA.out;rw [List.length_take] at this;rw [List.length_map];omega
   have HM:=A5 hm;clear hc1 hm;obtain ⟨Q,hQ⟩:∃ Q,cutAt 61 T=Q:=⟨_,rfl⟩;rw [hQ] at HC hls hll;have HQ:=A5 hQ;clear hQ;go_wp2_with fail;refine (HC.out _).mono ?_;rintro e w2 ⟨v2,rfl,hown2,hb2⟩;obtain ⟨A2,cap2,rfl,hrow2,_⟩:=BY.row hown2;have hoff:∀ b o,A2=some ⟨b,o,none⟩->wr.heap.size<=b:=fun b o e=>by subst e;exact (hown2.lt b rfl).1
   have hXr:=HXr.out.lt;replace hsz:=Nat.le_trans hsz hb2.size;replace HZr:=A5 (HZr.out.keep hb2);replace HXr:=A5 (HXr.out.keep hb2);replace HO:=A5 (HO.out.keep hb2);replace HRr:=A5 (HRr.out.keep hb2);replace HBR:=A5 (andthen HBR.out hb2);have HRP:=A5 hrow2;clear hb2 p1 hown2 hrow2
   by_cases hlen:Q.length=2
   ·obtain ⟨a,u,rfl⟩:∃ a u,Q=[a,u]:=by
     match Q,hlen with
     | [a,u],_=>exact ⟨a,u,rfl⟩
    have hul:u.length<=9000:=Nat.le_trans (hls u (by simp)) (by omega);obtain ⟨bp,op,rfl,hbp,hcp⟩:=HRP.out (by simp);have P0:=hcp 0 (by simp);have P1:=hcp 1 (by simp);simp only [List.getElem_cons_zero,List.getElem_cons_succ,Nat.add_zero] at P0 P1;have hbX:bp≠X:=by have:=hoff bp op rfl;omega
    obtain ⟨P,hP⟩:∃ P,Rt.valOf unU rdR a u=P:=⟨_,rfl⟩;have HST:=A5 (fun w v h hv=>yD a u X v (fold ps) D M Y dn dc mn mc yn yc w h hv hul);rw [hP] at HST;simp only [List.length_cons,List.length_nil];clear hcp hls hll hlen;go_wp2_with fail
    cases P with
    | none =>
     have HF:=A5 (HNO.out (OV (U:=unU) hlt (by rw [HM.out,NH HQ.out];exact hP)));clear hP
     go_region_held3 (fun w'=>w'.cell? ⟨bp,op,none⟩=some (.string (str a))/\w'.cell? ⟨bp,op+1,none⟩=some (.string (str u))) (first|with_reducible exact ⟨A9 (start _).drew P0,A9 (start _).drew P1⟩|with_reducible exact ⟨by assumption,by assumption⟩|with_reducible exact ⟨A9 (start _).drew (by assumption),A9 (start _).drew (by assumption)⟩) ((go_at_call 166;(with_reducible refine (HST.out _ _ (HXr.out.keep (start _).drew) (fun g e=>Nat.lt_of_lt_of_le (HO.out.lt g e).2 (start _).drew.size)).mono ?_);rintro e w3 ⟨hg,rfl⟩;have G0:=LQ hg hbX (A9 (start _).drew P0);have G1:=LQ hg hbX (A9 (start _).drew P1)))
     replace HZr:=A5 ((HZr.out.keep (start _).drew).aside hg (Nat.ne_of_lt hX0));replace HBR:=A5 ((andthen HBR.out (start _).drew).grown hg (andthen HBR.out (start w2).drew).size fun k hk=>(by injection hk with hk;omega));clear hg G0 G1 HXr HO P0 P1;have z0:=HZr.out.c0;have z1:=HZr.out.c1;have z2:=HZr.out.c2;have z3:=HZr.out.c3;have z4:=HZr.out.c4;have z5:=HZr.out.c5;have z6:=HZr.out.c6;have f0:=HZr.out.f0;have f1:=HZr.out.f1;have f2:=HZr.out.f2;have f3:=HZr.out.f3;have f4:=HZr.out.f4;have f5:=HZr.out.f5;have f6:=HZr.out.f6;have hlz:=HZr.out.lt;go_wp2_with fail;refine B6 (JR w) (K9 HZr.out HBR.out) ?_;rintro WF ⟨⟨c0,c1,c2,c3,c4,c5,c6⟩,hb⟩;exact bodyPost_ret (v:=.tuple #[DM,.bool false]) (by simp [results,Tryz.results133,go_sem,c0,c1,c2,c3,c4,c5,c6,DM]) rfl ⟨hb,Or.inl ⟨HF.out,rfl⟩⟩
    | some p =>
     go_region_held3 (fun w'=>w'.cell? ⟨bp,op,none⟩=some (.string (str a))/\w'.cell? ⟨bp,op+1,none⟩=some (.string (str u))) (first|with_reducible exact ⟨A9 (start _).drew P0,A9 (start _).drew P1⟩|with_reducible exact ⟨by assumption,by assumption⟩|with_reducible exact ⟨A9 (start _).drew (by assumption),A9 (start _).drew (by assumption)⟩) ((go_at_call 166;(with_reducible refine (HST.out _ _ (HXr.out.keep (start _).drew) (fun g e=>Nat.lt_of_lt_of_le (HO.out.lt g e).2 (start _).drew.size)).mono ?_);rintro e w3 ⟨hg,rfl,D',dn',dc',M',mn',mc',Y',yn',yc',hr⟩;have G0:=LQ hg hbX (A9 (start _).drew P0);have G1:=LQ hg hbX (A9 (start _).drew P1)))
     have HPN:Hid (a=nameOf p):=A5 (PD hP);have HVAL:=A5 hP;replace HZr:=A5 ((HZr.out.keep (start _).drew).aside hg (Nat.ne_of_lt hX0));replace HBR:=A5 ((andthen HBR.out (start _).drew).grown hg (andthen HBR.out (start w2).drew).size fun k hk=>(by injection hk with hk;omega));replace HRr:=A5 ((HRr.out.keep (start _).drew).grown hg fun b o e h=>(by injection h with h;have:=HRB.out b o e;omega));have hown3:BY w3 B1 _ (ps.map nameOf):=World.ownsRow.kept (HO.out.keep (start _).drew) hg (Or.inr fun e=>by have:=(HO.out.lt X e).1;omega);replace HO:=A5 hown3;have HRN:=A5 hr;have hbp3:bp<w3.heap.size:=block_lt_of_cell G0;replace hsz:=Nat.le_trans hsz (Nat.le_trans (start w2).drew.size hg.size);have HG0:=A5 G0;clear hg G1 HXr P0 P1 hP hr hown3 HST;obtain ⟨A3,cap3,rfl,hrow3,hcap3⟩:=BY.row HO.out;have HN3:=A5 hrow3;rw [List.length_map] at HO HRN HZr;rw [List.length_map];clear hrow3;go_wp2_with fail
     go_loopw [9] (fun i wr=>∃ q:Nat,q<=ps.length/\i=.int .i64 q/\Hid (∀ i (hi:i<(ps.map nameOf).length),i<q->(ps.map nameOf)[i]≠a)/\Below w3.heap.size w3 wr) (fun i _=>ps.length-(intOf i).toNat)
     case atStart=>exact ⟨0,Nat.zero_le _,rfl,A5 (fun i hi h=>absurd h (Nat.not_lt_zero _)),start _⟩
     case round =>
      obtain ⟨q,hq,rfl,HNE,hbq⟩:=hrel;have HBQ:=A5 hbq;clear hbq;have g0:=(HBQ.out.cell (p:=⟨bp,op,none⟩) hbp3).trans HG0.out
      by_cases hqt:q<ps.length
      ·have hqm:q<(ps.map nameOf).length:=by rw [List.length_map];exact hqt
       obtain ⟨b3,o3,rfl,hb3,hc3⟩:=HN3.out (by intro h0;rw [h0] at hqm;exact absurd hqm (Nat.not_lt_zero _));have p3:=(HBQ.out.cell (p:=⟨b3,o3+q,none⟩) hb3).trans (hc3 q hqm);have hi2:(0:Int)<=(q:Int):=by omega
       have hi3:(q:Int)<(ps.length:Int):=by omega
       obtain ⟨NM,hNM⟩:∃ NM,(ps.map nameOf)[q]=NM:=⟨_,rfl⟩;rw [hNM] at p3;have r0:=fun d os=>cell_regrown g0 d os
       have r1:=fun d os=>cell_regrown p3 d os
       have s1:=AH NM;have s2:=AH a;clear hc3
       by_cases he:NM=a
       ·have e1:(NM==a)=true:=by rw [AO];exact z0H he
        have HF:=A5 (HNO.out (rE (U:=unU) hlt HA.out (by rw [HM.out];exact HQ.out) (by rw [<- he,<- hNM];exact List.getElem_mem hqm)));replace HZr:=A5 (HZr.out.keep HBQ.out);replace HBR:=A5 (andthen HBR.out HBQ.out);clear he hNM g0 p3;go_wp2_with fail;refine wp_region_quiet_below (by kernel_rfl) (by kernel_rfl) ?_
        repeat (first|go_big_quiet_step ((fail))|quiet_step ((fail)))
        refine wpQuiet_nil ?_;intro _ hw';obtain ⟨⟨nq,osq⟩,hw''⟩:=hw';subst hw'';have hq2:=below_regrown wr nq osq;generalize grow (redrawn wr nq) osq=wr2 at *;replace HZr:=A5 (HZr.out.keep hq2);replace HBR:=A5 (andthen HBR.out hq2);clear hq2 r0 r1;have z0:=HZr.out.c0;have z1:=HZr.out.c1;have z2:=HZr.out.c2;have z3:=HZr.out.c3;have z4:=HZr.out.c4;have z5:=HZr.out.c5;have z6:=HZr.out.c6;have f0:=HZr.out.f0;have f1:=HZr.out.f1;have f2:=HZr.out.f2;have f3:=HZr.out.f3;have f4:=HZr.out.f4;have f5:=HZr.out.f5;have f6:=HZr.out.f6;have hlz:=HZr.out.lt;go_wp2_with fail;refine B6 (JR w) (K9 HZr.out HBR.out) ?_;rintro WF ⟨⟨c0,c1,c2,c3,c4,c5,c6⟩,hb⟩;exact bodyPost_ret (v:=.tuple #[DM,.bool false]) (by simp [results,Tryz.results133,go_sem,c0,c1,c2,c3,c4,c5,c6,DM]) rfl ⟨hb,Or.inl ⟨HF.out,rfl⟩⟩
       ·have e1:(NM==a)=false:=by rw [AO];exact z0G he
        have HNN:Hid (∀ i (hi:i<(ps.map nameOf).length),i<q+1->(ps.map nameOf)[i]≠a):=A5 (fun i hi hij=>by
         rcases Nat.lt_or_ge i q with g|g
         ·exact HNE.out i hi g
         ·obtain rfl:i=q:=by omega
          rw [hNM];exact he)
        clear he hNM g0 p3;go_wp2_with fail;refine wp_region_quiet_below (by kernel_rfl) (by kernel_rfl) ?_
        repeat (first|go_big_quiet_step ((fail))|quiet_step ((fail)))
        refine wpQuiet_nil ?_;intro _ hw';obtain ⟨⟨nq,osq⟩,hw''⟩:=hw';subst hw'';have hq2:=below_regrown wr nq osq;generalize grow (redrawn wr nq) osq=wr2 at *;replace HBQ:=A5 (andthen HBQ.out hq2);clear hq2 r0 r1;go_wp2_with fail
        go_roundw
        case rel=>exact ⟨q+1,by omega,by go_num,HNN,HBQ.out⟩
        case measure=>simp [intOf];omega
      ·obtain rfl:q=ps.length:=by omega
       have hmem:a∉ps.map nameOf:=fun h=>by
        obtain ⟨i,hi,e⟩:=List.getElem_of_mem h;exact HNE.out i hi (by rw [List.length_map] at hi;exact hi) e
       replace HZr:=A5 (HZr.out.keep HBQ.out);replace HRN:=A5 (HRN.out.keep HBQ.out);replace HRr:=A5 (HRr.out.keep HBQ.out);replace HO:=A5 (HO.out.keep HBQ.out);replace HBR:=A5 (andthen HBR.out HBQ.out);have HSTP:=A5 (GB hlt HA.out (by rw [HM.out,NH HQ.out];exact HVAL.out));have HND:=A5 (VX HN.out (p:=p) (by rw [<- HPN.out];exact hmem));have hown3:=HO.out;have hz3:B1<=wr.heap.size:=Nat.le_trans hsz HBQ.out.size;have hl3:(ps.map nameOf).length<=1000000:=by omega
       clear hmem;go_wp2_with (at_builtin;refine aO (l:=ps.map nameOf) (p:=a) rfl _ _ rfl rfl rfl rfl hown3 hz3 hl3 ?_;intro v4 w4 hown4 hg4);have hsz4:=Nat.le_trans hz3 hg4.grown.size;replace HBR:=A5 (HBR.out.grown hg4.grown HBR.out.size fun k hk=>(by have:=(hown3.lt k hk).1;omega));have HR4r:=A5 (HRr.out.grown hg4.grown fun b o e h=>(by have:=(hown3.lt b h.symm).1;have:=HRB.out b o e;omega));rw [HPN.out] at hown4;have hb4:(ps++[p]).map nameOf=ps.map nameOf++[nameOf p]:=by simp
       have HO4:=A5 hown4;rw [<- hb4] at HO4;have hf4:fold (ps++[p])=Rt.Part.set (fold ps) p:=by simp [fold]
       have HR4:=A5 (HRN.out.goes hg4);rw [<- hf4] at HR4;have HZ4:=A5 (HZr.out.goes hg4);clear hown4 hg4 hown3 hz3 hl3 hb4 hf4 HRN HZr HRr;go_wp2_with fail
       go_roundw
       case rel=>exact ⟨j+1,ps++[p],_,_,_,_,_,_,_,_,_,by omega,by go_num,HO4.out,HR4.out,HZ4.out,HSTP,HND,HR4r.out,hsz4,HBR.out⟩
       case measure=>simp [intOf];omega
   ·have HF:=A5 (HNO.out (OV (U:=unU) hlt (by rw [HM.out];exact fK (by rw [HQ.out];exact hlen))));have e1:((Q.length:Int) != 2)=true:=by simp;omega
    have e2:(Q.length != 2)=true:=by simpa using hlen
    have e3:((Q.length:Int)==2)=false:=beq_eq_false_iff_ne.2 (by omega);have e4:(Q.length==2)=false:=beq_eq_false_iff_ne.2 (by omega);clear hls hll hlen;go_wp2_with fail;refine wp_region_quiet_below (by kernel_rfl) (by kernel_rfl) ?_
    repeat (first|go_big_quiet_step ((fail))|quiet_step ((fail)))
    refine wpQuiet_nil ?_;intro _ hw';obtain ⟨⟨nq,osq⟩,hw''⟩:=hw';subst hw'';have hq2:=below_regrown w2 nq osq;generalize grow (redrawn w2 nq) osq=w3 at *;replace HZr:=A5 (HZr.out.keep hq2);replace HBR:=A5 (andthen HBR.out hq2);clear hq2;have z0:=HZr.out.c0;have z1:=HZr.out.c1;have z2:=HZr.out.c2;have z3:=HZr.out.c3;have z4:=HZr.out.c4;have z5:=HZr.out.c5;have z6:=HZr.out.c6;have f0:=HZr.out.f0;have f1:=HZr.out.f1;have f2:=HZr.out.f2;have f3:=HZr.out.f3;have f4:=HZr.out.f4;have f5:=HZr.out.f5;have f6:=HZr.out.f6;have hlz:=HZr.out.lt;go_wp2_with fail;refine B6 (JR w) (K9 HZr.out HBR.out) ?_;rintro WF ⟨⟨c0,c1,c2,c3,c4,c5,c6⟩,hb⟩;exact bodyPost_ret (v:=.tuple #[DM,.bool false]) (by simp [results,Tryz.results133,go_sem,c0,c1,c2,c3,c4,c5,c6,DM]) rfl ⟨hb,Or.inl ⟨HF.out,rfl⟩⟩
  ·obtain rfl:j=l.length:=by omega
   rw [List.take_length] at HA;have hrd:=jX HA.out HN.out;have c0:=HXr.out.c0;have c1:=HXr.out.c1;have c2:=HXr.out.c2;have c3:=HXr.out.c3;have c4:=HXr.out.c4;have c5:=HXr.out.c5;have c6:=HXr.out.c6
   by_cases h0:(fold ps).fr=0
   ·have HF:=A5 (HZO.out _ hrd (Or.inl h0));have q0:((fold ps).fr==0)=true:=beq_iff_eq.2 h0;clear hrd h0;have z0:=HZr.out.c0;have z1:=HZr.out.c1;have z2:=HZr.out.c2;have z3:=HZr.out.c3;have z4:=HZr.out.c4;have z5:=HZr.out.c5;have z6:=HZr.out.c6;have f0:=HZr.out.f0;have f1:=HZr.out.f1;have f2:=HZr.out.f2;have f3:=HZr.out.f3;have f4:=HZr.out.f4;have f5:=HZr.out.f5;have f6:=HZr.out.f6;have hlz:=HZr.out.lt;go_wp2_with fail;refine B6 (JR w) (K9 HZr.out HBR.out) ?_;rintro WF ⟨⟨c0,c1,c2,c3,c4,c5,c6⟩,hb⟩;exact bodyPost_ret (v:=.tuple #[DM,.bool false]) (by simp [results,Tryz.results133,go_sem,c0,c1,c2,c3,c4,c5,c6,DM]) rfl ⟨hb,Or.inl ⟨HF.out,rfl⟩⟩
   ·have q0:((fold ps).fr==0)=false:=beq_eq_false_iff_ne.2 h0;have HI:=A5 (fun w h=>R.OP (fold ps).fr (fold ps).ev (fold ps).ct (fold ps).un D M Y dn dc mn mc yn yc (fold ps).ds (fold ps).ms (fold ps).ys w h);obtain ⟨B,hB⟩:∃ B,isB (fold ps)=B:=⟨_,rfl⟩;have hB2:isB ⟨(fold ps).fr,(fold ps).ev,(fold ps).ct,(fold ps).un,(fold ps).ds,(fold ps).ms,(fold ps).ys⟩=B:=hB;rw [hB2] at HI;clear hB2 h0
    cases B with
    | false =>
     have HF:=A5 (HZO.out _ hrd (Or.inr hB));clear hrd hB;go_wp2_with fail;refine (HI.out _ HXr.out.BD).mono ?_;rintro e w2 ⟨rfl,hb2⟩;replace HZr:=A5 (HZr.out.keep hb2);replace HBR:=A5 (andthen HBR.out hb2);clear hb2;have z0:=HZr.out.c0;have z1:=HZr.out.c1;have z2:=HZr.out.c2;have z3:=HZr.out.c3;have z4:=HZr.out.c4;have z5:=HZr.out.c5;have z6:=HZr.out.c6;have f0:=HZr.out.f0;have f1:=HZr.out.f1;have f2:=HZr.out.f2;have f3:=HZr.out.f3;have f4:=HZr.out.f4;have f5:=HZr.out.f5;have f6:=HZr.out.f6;have hlz:=HZr.out.lt;go_wp2_with fail;refine B6 (JR w) (K9 HZr.out HBR.out) ?_;rintro WF ⟨⟨c0,c1,c2,c3,c4,c5,c6⟩,hb⟩;exact bodyPost_ret (v:=.tuple #[DM,.bool false]) (by simp [results,Tryz.results133,go_sem,c0,c1,c2,c3,c4,c5,c6,DM]) rfl ⟨hb,Or.inl ⟨HF.out,rfl⟩⟩
    | true =>
     have HF:=A5 (HRO.out _ hrd hB);clear hrd hB;go_wp2_with fail;refine (HI.out _ HXr.out.BD).mono ?_;rintro e w2 ⟨rfl,hb2⟩;replace HZr:=A5 (HZr.out.keep hb2);replace HXr:=A5 (HXr.out.keep hb2);replace HBR:=A5 (andthen HBR.out hb2);replace c0:=HXr.out.c0;replace c1:=HXr.out.c1;replace c2:=HXr.out.c2;replace c3:=HXr.out.c3;replace c4:=HXr.out.c4;replace c5:=HXr.out.c5;replace c6:=HXr.out.c6;have HCP:=A5 (HZr.out.copy HXr.out hX0);have z0:=HZr.out.c0;have z1:=HZr.out.c1;have z2:=HZr.out.c2;have z3:=HZr.out.c3;have z4:=HZr.out.c4;have z5:=HZr.out.c5;have z6:=HZr.out.c6;have f0:=HZr.out.f0;have f1:=HZr.out.f1;have f2:=HZr.out.f2;have f3:=HZr.out.f3;have f4:=HZr.out.f4;have f5:=HZr.out.f5;have f6:=HZr.out.f6;have hlz:=HZr.out.lt;have hlx:=HXr.out.lt;clear hb2;go_wp2_with fail;refine B6 (kG w (fold ps) D dn dc M mn mc Y yn yc) ⟨_,HCP.out,below_7 HBR.out (Nat.le_refl _)⟩ ?_;rintro WF ⟨_,hr,hb⟩;exact bodyPost_ret (v:=.tuple #[M3 (fold ps) D dn dc M mn mc Y yn yc,.bool true]) (by simp [results,Tryz.results133,go_sem,hr.c0,hr.c1,hr.c2,hr.c3,hr.c4,hr.c5,hr.c6,M3]) rfl ⟨hb,Or.inr ⟨_,_,_,_,_,_,_,_,_,_,HF.out,rfl,hr.bare⟩⟩
end Go.Proofs.YtfecnkhoojnkbaaGreatDoor

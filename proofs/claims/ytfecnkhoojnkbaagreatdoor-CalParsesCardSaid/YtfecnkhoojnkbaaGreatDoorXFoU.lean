import Derived.Test.YtfecnkhoojnkbaaGreatDoorXW7
set_option maxHeartbeats 8000000
set_option maxRecDepth 1000000
namespace Go.Proofs.YtfecnkhoojnkbaaGreatDoor
open Go.RowKit Rul Rt Fo Go.Sort Tryz
theorem RT (l:List Tx):l=[]∨∃ k x,l=k++[x]:=by
 rcases List.eq_nil_or_concat l with h|⟨k,x,h⟩
 ·exact Or.inl h
 ·exact Or.inr ⟨k,x,by rw [h,List.concat_eq_append]⟩
def U6 (s:ByteArray) (j:Nat) (out:List Tx):Prop:=j=s.size+1/\CJ s.data.toList=out
theorem u5 (s:ByteArray) (k:Nat) (h:k<s.size) (c:UInt8) (hc:s[k]=c):s.data.toList.drop k=c :: s.data.toList.drop (k+1):=by
 rw [List.drop_eq_getElem_cons (by simpa using h)]
 congr 1
theorem BY.form {w:World} {B:Nat} {v:Value} {l:List Tx} {x:Tx} (h:BY w B v (l++[x])):∃ g cap,v=.slice (some ⟨g,0,none⟩) (l.length+1) cap/\B<=g/\l.length+1<=cap:=by
 rcases h.2 with ⟨_,hn⟩|⟨g,cap,cur,e,hb,hg,hnc,_⟩
 ·rw [z0J] at hn;simp at hn
 ·rw [z0J] at e hnc;exact ⟨g,cap,e,hb,hnc⟩
theorem BY.last {w:World} {B g cap:Nat} {l:List Tx} {x:Tx} (h:BY w B (.slice (some ⟨g,0,none⟩) (l.length+1) cap) (l++[x])):w.cell? ⟨g,l.length,none⟩=some (.string (str x))/\w.frozen? ⟨g,l.length,none⟩=false:=by
 have hc:=World.ownsRow.cells h (g:=g) rfl l.length (.string (str x)) (by simp [FV]);rw [plus] at hc;refine ⟨by rw [<- hc],?_⟩;rcases h.2 with ⟨e,_⟩|⟨g',cap',cur,e,hb,hg,_⟩
 ·cases e
 ·injection e with e _ _;injection e with e;injection e with e _ _;subst e;simp [World.frozen?,hg]
theorem BY.setLast {w:World} {B g cap:Nat} {l:List Tx} {x:Tx} (h:BY w B (.slice (some ⟨g,0,none⟩) (l.length+1) cap) (l++[x])) (y:Tx):BY (w.setCell ⟨g,l.length,none⟩ (.string (str y))) B (.slice (some ⟨g,0,none⟩) (l.length+1) cap) (l++[y]):=by
 obtain ⟨h1,h2⟩:=h;refine ⟨by rw [VN,Nat.mul_one],?_⟩;rcases h2 with ⟨e,_⟩|⟨g',cap',cur,e,hb,hg,hnc,hcm,hcs,ht⟩
 ·cases e
 ·injection e with e e2 e3;injection e with e;injection e with e _ _;subst e e3;have hlt:g<w.heap.size:=(Array.getElem?_eq_some_iff.1 hg).1;refine Or.inr ⟨g,cap,cur.setIfInBounds l.length (.string (str y)),by rw [z0J];rfl,hb,?_,by rw [z0J] at hnc ⊢;exact hnc,hcm,by rw [Array.size_setIfInBounds];exact hcs,?_⟩
  ·simp only [World.setCell,Array.getElem?_modify,hg];simp
  ·rw [Array.toList_setIfInBounds,z0J,Nat.mul_one,List.take_set];rw [z0J,Nat.mul_one] at ht;simp only [List.length_cons,List.length_nil] at ht ⊢;rw [ht];simp only [FV,List.map_append,List.map_cons,List.map_nil];rw [List.set_append_right _ _ (by simp)];simp
theorem cH (s:ByteArray) (w:World) (hs:s.size<=100000) :
  Calls prog 42 #[.string s] w (K6 w (CJ s.data.toList)):=by
 have HSL:Hid ((Lib.split s.data.toList crlf).length<=200000):=A5 (by have:=RM s.data.toList;rw [AE] at this;omega);go_enter func42,ntmps42;go_wp2_with fail
 go_loopg [3,4,5,6] (s.size+1) (fun g v f i _ wr=>∃ (j k:Nat) (out:List Tx),i=.int .i64 j/\f=.int .i64 k/\j+g=s.size+1/\BY wr w.heap.size v out/\Hid (OE s.data.toList j k out∨U6 s j out)/\Below w.heap.size w wr)
 case atStart=>exact ⟨0,0,[],rfl,rfl,by omega,IK _ _,A5 (Or.inl (iS _)),start _⟩
 case round =>
  obtain ⟨j,k,out,rfl,rfl,hjg,hown,HI,hbw⟩:=hrel;have HO:=A5 hown;have HBR:=A5 hbw;clear hown hbw
  by_cases hend:j=s.size+1
  ·have HF:Hid (CJ s.data.toList=out):=A5 (by
    rcases HI.out with h|⟨_,h⟩
    ·have:=h.1;rw [AE] at this;omega
    ·exact h)
   have h1:¬ (j:Int)<=(s.size:Int):=by omega
   have h2:decide ((j:Int)<=(s.size:Int))=false:=z0G h1;clear hend;go_wp2_with fail;go_ret;exact ⟨_,rfl,by rw [HF.out];exact HO.out,HBR.out⟩
  ·have HU:Hid (OE s.data.toList j k out):=A5 (by
    rcases HI.out with h|⟨h,_⟩
    ·exact h
    ·exact absurd h hend)
   have hle:(j:Int)<=(s.size:Int):=by omega
   have hkj:k<=j:=HU.out.2.1;have HBN:=A5 (dO HU.out);have HLN:Hid (out.length<=1000000):=A5 (by have:=HBN.out.1;have:=HSL.out;omega);have HXB:Hid (∀ x∈out,x.length<=100000):=A5 (fun x hx=>by have:=HBN.out.2 x hx;rw [AE] at this;omega);have hk0:(0:Int)<=(k:Int):=by omega
   have hkj1:(k:Int)<=(j:Int):=by omega
   have HE:=A5 (GO s k j);clear HI HBN;rcases Nat.lt_or_ge j s.size with hlt|hge
   ·have hlt1:(j:Int)<(s.size:Int):=by omega
    have hj0:(0:Int)<=(j:Int):=by omega
    obtain ⟨c0,hc0⟩:∃ c,s[j]=c:=⟨_,rfl⟩;have HD:=A5 (u5 s j hlt c0 hc0)
    by_cases h13:c0=13
    ·subst h13;have q1:(((13:UInt8).toNat:Int) != 13)=false:=by decide
     by_cases hlast:j+1=s.size
     ·have HNX:=A5 (Or.inl (b:=U6 s (j+1) out) (R6 HU.out (by rw [AE];exact hlt) (A09 (by rw [AE];omega))));have q2:((j:Int)+1==(s.size:Int))=true:=by rw [beq_iff_eq];omega
      clear hlast;go_wp2_with fail
      go_roundg (s.size-j)
      case measure=>omega
      case rel=>exact ⟨j+1,k,out,by go_num,rfl,by omega,HO.out,HNX,HBR.out⟩
     ·have hlt2:j+1<s.size:=by omega
      have hlt3:(j:Int)+1<(s.size:Int):=by omega
      have hlt4:(0:Int)<=(j:Int)+1:=by omega
      have q2:((j:Int)+1==(s.size:Int))=false:=by rw [beq_eq_false_iff_ne];omega
      obtain ⟨d,hd⟩:∃ d,s[j+1]=d:=⟨_,rfl⟩;have HD2:=A5 (u5 s (j+1) hlt2 d hd)
      by_cases h10:d=10
      ·subst h10;have q3:(((10:UInt8).toNat:Int) != 10)=false:=by decide
       have HNC:=A5 (uU HU.out (by rw [AE];omega) (uV (r:=s.data.toList.drop (j+1+1)) (by rw [HD.out,HD2.out])));obtain ⟨p,hp⟩:∃ p,(s.data.toList.take j).drop k=p:=⟨_,rfl⟩;rw [hp] at HNC HE;have HSN:Hid (∀ o2,snoc out p=o2->(OE s.data.toList (j+2) (j+2) o2∨U6 s (j+2) o2)):=A5 (fun o2 h=>by rw [<- h];exact Or.inl HNC.out);have HPB:Hid (p.length<=100000):=A5 (by rw [<- hp,List.length_drop,List.length_take,AE];omega);obtain ⟨X,hX⟩:∃ X,s.extract k j=X:=⟨_,rfl⟩;rw [hX] at HE;have HPE:=HE;clear hp HNC hlast HE;rcases RT out with hout|⟨l,x,hout⟩
       ·subst hout;obtain ⟨A0,c0,rfl,_,_⟩:=BY.row HO.out;rw [List.length_nil] at HO ⊢
        cases p with
        | nil =>
         have HNX:=A5 (HSN.out _ (MH _));have hxe:(X.toList==([]:List UInt8))=true:=by rw [HPE.out,AH];rfl
         have hxn:(X.toList != ([]:List UInt8))=false:=by rw [bne,hxe];rfl
         have hz:=HBR.out.size;have hown:=HO.out;have hln:=HLN.out;go_wp2_with (at_builtin;rw [HPE.out];refine DR (l:=[]) (p:=[]) rfl _ _ rfl rfl rfl rfl hown hz hln ?_;intro v3 w3 hown3 hb3)
         try rw [List.nil_append] at hown3
         have HO3:=A5 hown3;have HB3:=A5 (HBR.out.trans hb3);clear hown hown3 hb3 hz hln;go_wp2_with fail
         go_roundg (s.size+1-(j+2))
         case measure=>omega
         case rel=>exact ⟨j+2,j+2,_,by go_num,by go_num,by omega,HO3.out,HNX,HB3.out⟩
        | cons c t =>
         have HNX:=A5 (HSN.out _ (MH _));have hx0:0<X.size:=by rw [HPE.out,AB];simp
         have hx1:(0:Int)<(X.size:Int):=by omega
         have hxc:X[0]'hx0=c:=by
          have e:X=str (c :: t):=HPE.out;subst e;have h1:(str (c :: t)).data.toList[0]'(by rw [AD];simp)=c:=by simp [AD]
          exact h1
         have hxe:(X.toList==([]:List UInt8))=false:=by rw [HPE.out,AH];rfl
         have hxn:(X.toList != ([]:List UInt8))=true:=by rw [bne,hxe];rfl
         have hz:=HBR.out.size;have hown:=HO.out;have hln:=HLN.out;go_wp2_with (at_builtin;rw [HPE.out];refine DR (l:=[]) (p:=c :: t) rfl _ _ rfl rfl rfl rfl hown hz hln ?_;intro v3 w3 hown3 hb3)
         try rw [List.nil_append] at hown3
         have HO3:=A5 hown3;have HB3:=A5 (HBR.out.trans hb3);clear hown hown3 hb3 hz hln;go_wp2_with fail
         go_roundg (s.size+1-(j+2))
         case measure=>omega
         case rel=>exact ⟨j+2,j+2,_,by go_num,by go_num,by omega,HO3.out,HNX,HB3.out⟩
       ·subst hout;obtain ⟨g,c0,rfl,hgB,hgs⟩:=BY.form HO.out;have hlB:(l.length:Int)<=1000000:=by have:=HLN.out;rw [z0J] at this;omega
        have hl0:(0:Int)<=(l.length:Int):=by omega
        have hl1:(l.length:Int)<(l.length:Int)+1:=by omega
        have hl2:(l.length:Int)+1-1=(l.length:Int):=by omega
        have hl3:decide (0<l.length+1)=true:=z0H (by omega);have hl4:(0:Int)<(l.length:Int)+1:=by omega
        cases p with
        | nil =>
         have HNX:=A5 (HSN.out _ (OF _ _ (Or.inr (by simp))));have hxe:(X.toList==([]:List UInt8))=true:=by rw [HPE.out,AH];rfl
         have hxn:(X.toList != ([]:List UInt8))=false:=by rw [bne,hxe];rfl
         have hz:=HBR.out.size;have hown:=HO.out;have hln:=HLN.out;go_wp2_with (at_builtin;rw [HPE.out];refine DR (l:=l++[x]) (p:=[]) rfl _ _ rfl rfl rfl rfl hown hz hln ?_;intro v3 w3 hown3 hb3);have HO3:=A5 hown3;have HB3:=A5 (HBR.out.trans hb3);clear hown hown3 hb3 hz hln;go_wp2_with fail
         go_roundg (s.size+1-(j+2))
         case measure=>omega
         case rel=>exact ⟨j+2,j+2,_,by go_num,by go_num,by omega,HO3.out,HNX,HB3.out⟩
        | cons c t =>
         have hx0:0<X.size:=by rw [HPE.out,AB];simp
         have hx1:(0:Int)<(X.size:Int):=by omega
         have hxc:X[0]'hx0=c:=by
          have e:X=str (c :: t):=HPE.out;subst e;have h1:(str (c :: t)).data.toList[0]'(by rw [AD];simp)=c:=by simp [AD]
          exact h1
         have hxe:(X.toList==([]:List UInt8))=false:=by rw [HPE.out,AH];rfl
         have hxn:(X.toList != ([]:List UInt8))=true:=by rw [bne,hxe];rfl
         by_cases h32:c=32
         ·subst h32;have HNX:=A5 (HSN.out _ (TD l x t));have q0:(((32:UInt8).toNat:Int)==32)=true:=by decide
          have hx2:(1:Int)<=(X.size:Int):=by omega
          have HXE:Hid (X.extract 1 X.size=str t):=A5 (by rw [HPE.out,I6,AD];rfl);obtain ⟨Z,hZ⟩:∃ Z,X.extract 1 X.size=Z:=⟨_,rfl⟩;rw [hZ] at HXE;have hZs:Z.size<=1000000:=by rw [HXE.out,AB];have:=HPB.out;simp only [List.length_cons] at this;omega
          have hxs:(str x).size<=1000000:=by rw [AB];have:=HXB.out x (by simp);omega
          have HCAT:Hid (str x++Z=str (x++t)):=A5 (by rw [HXE.out,AM]);have hbd:=Below.drew (start wr);have HOV:=A5 (BY.keep HO.out hbd);have HBV:=A5 (andthen HBR.out hbd);go_wp2_with fail;refine wp_region_still_tail 14 (by kernel_rfl) (by kernel_rfl) ?_;simp only [List.take_succ_cons,List.take_zero,List.drop_succ_cons,List.drop_zero]
          change wpStill _ _ wr.drew (fun a'=>wpList _ _ _ _ a' wr.drew) _ _
          generalize wr.drew=V at *;have P1:=HOV.out.last.1;have F1:=HOV.out.last.2;have hcat:¬ (9223372036854775807<(str x).size+Z.size):=by omega
          have hl5:IntKind.i64.wrap (l.length:Int)=(l.length:Int):=IntWalk.i64_in _ (by omega)
          iterate 14 still_step
          clear hl5 hcat
          refine wpStill_nil ?_;have HO3:=A5 (HOV.out.setLast (x++t));have HB3:=A5 (HBV.out.setCell (p:=⟨g,l.length,none⟩) hgB (.string (str (x++t))));rw [<- HCAT.out] at HO3 HB3;go_wp2_with fail
          go_roundg (s.size+1-(j+2))
          case measure=>omega
          case rel=>exact ⟨j+2,j+2,_,by go_num,by go_num,by omega,HO3.out,HNX,HB3.out⟩
         ·have q0:((c.toNat:Int)==32)=false:=by rw [show (32:Int)=((32:UInt8).toNat:Int) from rfl,BN];simp;exact h32
          have HNX:=A5 (HSN.out _ (OF _ _ (Or.inr (by simp;exact h32))));have hz:=HBR.out.size;have hown:=HO.out;have hln:=HLN.out;go_wp2_with (at_builtin;rw [HPE.out];refine DR (l:=l++[x]) (p:=c :: t) rfl _ _ rfl rfl rfl rfl hown hz hln ?_;intro v3 w3 hown3 hb3);have HO3:=A5 hown3;have HB3:=A5 (HBR.out.trans hb3);clear hown hown3 hb3 hz hln;go_wp2_with fail
          go_roundg (s.size+1-(j+2))
          case measure=>omega
          case rel=>exact ⟨j+2,j+2,_,by go_num,by go_num,by omega,HO3.out,HNX,HB3.out⟩
      ·have q3:((d.toNat:Int) != 10)=true:=by rw [bne_iff_ne];intro e;apply h10;apply UInt8.toNat_inj.1;have e2:(10:UInt8).toNat=10:=rfl;omega
       have HNX:=A5 (Or.inl (b:=U6 s (j+1) out) (R6 HU.out (by rw [AE];exact hlt) (A0a (r:=s.data.toList.drop (j+1+1)) (by rw [HD.out,HD2.out]) h10)));clear hlast h10;go_wp2_with fail
       go_roundg (s.size-j)
       case measure=>omega
       case rel=>exact ⟨j+1,k,out,by go_num,rfl,by omega,HO.out,HNX,HBR.out⟩
    ·have q1:((c0.toNat:Int) != 13)=true:=by rw [bne_iff_ne];intro e;apply h13;apply UInt8.toNat_inj.1;have e2:(13:UInt8).toNat=13:=rfl;omega
     have HNX:=A5 (Or.inl (b:=U6 s (j+1) out) (R6 HU.out (by rw [AE];exact hlt) (A08 (r:=s.data.toList.drop (j+1)) HD.out h13)));clear h13;go_wp2_with fail
     go_roundg (s.size-j)
     case measure=>omega
     case rel=>exact ⟨j+1,k,out,by go_num,rfl,by omega,HO.out,HNX,HBR.out⟩
   ·obtain rfl:j=s.size:=by omega
    have HUE:Hid (OE s.data.toList s.data.toList.length k out):=A5 (by rw [AE];exact HU.out);rw [List.take_of_length_le (by simp)] at HE;obtain ⟨p,hp⟩:∃ p,s.data.toList.drop k=p:=⟨_,rfl⟩;rw [hp] at HE;have HPB:Hid (p.length<=100000):=A5 (by rw [<- hp,List.length_drop,AE];omega);obtain ⟨X,hX⟩:∃ X,s.extract k s.size=X:=⟨_,rfl⟩;rw [hX] at HE;have HPE:=HE
    by_cases hpe:p=[]
    ·have HNX:Hid (OE s.data.toList (s.size+1) k out∨U6 s (s.size+1) out):=A5 (Or.inr ⟨rfl,WE HUE.out (by rw [hp];exact hpe)⟩);subst hpe;have hxe:(X.toList==([]:List UInt8))=true:=by rw [HPE.out,AH];rfl
     have hxn:(X.toList != ([]:List UInt8))=false:=by rw [bne,hxe];rfl
     clear hp HE;go_wp2_with fail
     go_roundg 0
     case measure=>omega
     case rel=>exact ⟨s.size+1,k,out,by go_num,rfl,by omega,HO.out,HNX,HBR.out⟩
    ·have HSN:Hid (∀ o2,snoc out p=o2->(OE s.data.toList (s.size+1) k o2∨U6 s (s.size+1) o2)):=A5 (fun o2 h=>by rw [<- h,<- hp];exact Or.inr ⟨rfl,WG HUE.out (by rw [hp];exact hpe)⟩);have hpne:=hpe;clear hp HE hpe;rcases RT out with hout|⟨l,x,hout⟩
     ·subst hout;obtain ⟨A0,c0,rfl,_,_⟩:=BY.row HO.out;rw [List.length_nil] at HO ⊢
      cases p with
      | nil =>
       exact absurd rfl hpne
      | cons c t =>
       have HNX:=A5 (HSN.out _ (MH _));have hx0:0<X.size:=by rw [HPE.out,AB];simp
       have hx1:(0:Int)<(X.size:Int):=by omega
       have hxc:X[0]'hx0=c:=by
        have e:X=str (c :: t):=HPE.out;subst e;have h1:(str (c :: t)).data.toList[0]'(by rw [AD];simp)=c:=by simp [AD]
        exact h1
       have hxe:(X.toList==([]:List UInt8))=false:=by rw [HPE.out,AH];rfl
       have hxn:(X.toList != ([]:List UInt8))=true:=by rw [bne,hxe];rfl
       have hz:=HBR.out.size;have hown:=HO.out;have hln:=HLN.out;go_wp2_with (at_builtin;rw [HPE.out];refine DR (l:=[]) (p:=c :: t) rfl _ _ rfl rfl rfl rfl hown hz hln ?_;intro v3 w3 hown3 hb3)
       try rw [List.nil_append] at hown3
       have HO3:=A5 hown3;have HB3:=A5 (HBR.out.trans hb3);clear hown hown3 hb3 hz hln;go_wp2_with fail
       go_roundg 0
       case measure=>omega
       case rel=>exact ⟨s.size+1,k,_,by go_num,rfl,by omega,HO3.out,HNX,HB3.out⟩
     ·subst hout;obtain ⟨g,c0,rfl,hgB,hgs⟩:=BY.form HO.out;have hlB:(l.length:Int)<=1000000:=by have:=HLN.out;rw [z0J] at this;omega
      have hl0:(0:Int)<=(l.length:Int):=by omega
      have hl1:(l.length:Int)<(l.length:Int)+1:=by omega
      have hl2:(l.length:Int)+1-1=(l.length:Int):=by omega
      have hl3:decide (0<l.length+1)=true:=z0H (by omega);have hl4:(0:Int)<(l.length:Int)+1:=by omega
      cases p with
      | nil =>
       exact absurd rfl hpne
      | cons c t =>
       have hx0:0<X.size:=by rw [HPE.out,AB];simp
       have hx1:(0:Int)<(X.size:Int):=by omega
       have hxc:X[0]'hx0=c:=by
        have e:X=str (c :: t):=HPE.out;subst e;have h1:(str (c :: t)).data.toList[0]'(by rw [AD];simp)=c:=by simp [AD]
        exact h1
       have hxe:(X.toList==([]:List UInt8))=false:=by rw [HPE.out,AH];rfl
       have hxn:(X.toList != ([]:List UInt8))=true:=by rw [bne,hxe];rfl
       by_cases h32:c=32
       ·subst h32;have HNX:=A5 (HSN.out _ (TD l x t));have q0:(((32:UInt8).toNat:Int)==32)=true:=by decide
        have hx2:(1:Int)<=(X.size:Int):=by omega
        have HXE:Hid (X.extract 1 X.size=str t):=A5 (by rw [HPE.out,I6,AD];rfl);obtain ⟨Z,hZ⟩:∃ Z,X.extract 1 X.size=Z:=⟨_,rfl⟩;rw [hZ] at HXE;have hZs:Z.size<=1000000:=by rw [HXE.out,AB];have:=HPB.out;simp only [List.length_cons] at this;omega
        have hxs:(str x).size<=1000000:=by rw [AB];have:=HXB.out x (by simp);omega
        have HCAT:Hid (str x++Z=str (x++t)):=A5 (by rw [HXE.out,AM]);have hbd:=Below.drew (start wr);have HOV:=A5 (BY.keep HO.out hbd);have HBV:=A5 (andthen HBR.out hbd);go_wp2_with fail;refine wp_region_still_tail 14 (by kernel_rfl) (by kernel_rfl) ?_;simp only [List.take_succ_cons,List.take_zero,List.drop_succ_cons,List.drop_zero]
        change wpStill _ _ wr.drew (fun a'=>wpList _ _ _ _ a' wr.drew) _ _
        generalize wr.drew=V at *;have P1:=HOV.out.last.1;have F1:=HOV.out.last.2;have hcat:¬ (9223372036854775807<(str x).size+Z.size):=by omega
        have hl5:IntKind.i64.wrap (l.length:Int)=(l.length:Int):=IntWalk.i64_in _ (by omega)
        iterate 14 still_step
        clear hl5 hcat
        refine wpStill_nil ?_;have HO3:=A5 (HOV.out.setLast (x++t));have HB3:=A5 (HBV.out.setCell (p:=⟨g,l.length,none⟩) hgB (.string (str (x++t))));rw [<- HCAT.out] at HO3 HB3;go_wp2_with fail
        go_roundg 0
        case measure=>omega
        case rel=>exact ⟨s.size+1,k,_,by go_num,rfl,by omega,HO3.out,HNX,HB3.out⟩
       ·have q0:((c.toNat:Int)==32)=false:=by rw [show (32:Int)=((32:UInt8).toNat:Int) from rfl,BN];simp;exact h32
        have HNX:=A5 (HSN.out _ (OF _ _ (Or.inr (by simp;exact h32))));have hz:=HBR.out.size;have hown:=HO.out;have hln:=HLN.out;go_wp2_with (at_builtin;rw [HPE.out];refine DR (l:=l++[x]) (p:=c :: t) rfl _ _ rfl rfl rfl rfl hown hz hln ?_;intro v3 w3 hown3 hb3);have HO3:=A5 hown3;have HB3:=A5 (HBR.out.trans hb3);clear hown hown3 hb3 hz hln;go_wp2_with fail
        go_roundg 0
        case measure=>omega
        case rel=>exact ⟨s.size+1,k,_,by go_num,rfl,by omega,HO3.out,HNX,HB3.out⟩
end Go.Proofs.YtfecnkhoojnkbaaGreatDoor

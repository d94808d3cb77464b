import Derived.Test.YtfecnkhoojnkbaaGreatDoorXW17
import Derived.Test.YtfecnkhoojnkbaaGreatDoorXEvG
import Derived.Test.YtfecnkhoojnkbaaGreatDoorXW19
import Derived.Test.YtfecnkhoojnkbaaGreatDoorXRefF
set_option maxHeartbeats 8000000
set_option maxRecDepth 1000000
namespace Go.Proofs.YtfecnkhoojnkbaaGreatDoor
open Go.RowKit Rul Rt Go.Sort Tryz
def kN:List Tx:=[Ev.ER,Ev.BR,Ev.CQ,Ev.BP,Ev.DG,Ev.nEX,Ev.DH]
def KnR (t:Tx) (k:Int):Prop:=(∃ j:Nat,k=j/\kN[j]?=some t)∨(k=-1/\t∉kN)
theorem xW (j:Nat) (h:j<7):∃ n,kN[j]?=some n/\[Value.string (str Ev.ER),.string (str Ev.BR),.string (str Ev.CQ),.string (str Ev.BP),.string (str Ev.DG),.string (str Ev.nEX),.string (str Ev.DH)][j]?=some (.string (str n)):=by
 rcases j with _|_|_|_|_|_|_|j
 all_goals first|exact ⟨_,rfl,rfl⟩|omega
theorem jQ (t:Tx) (w:World) :
  Calls prog 102 #[.string (str t)] w fun e w'=>∃ k,e=.returned (.int .i64 k)/\KnR t k/\Below w.heap.size w w':=by
 have q1:=AH t;have hk0:=DY w #[.string (str Ev.ER),.string (str Ev.BR),.string (str Ev.CQ),.string (str Ev.BP),.string (str Ev.DG),.string (str Ev.nEX),.string (str Ev.DH)] 173;have hbox:=more (start w) (.cells #[.string (str Ev.ER),.string (str Ev.BR),.string (str Ev.CQ),.string (str Ev.BP),.string (str Ev.DG),.string (str Ev.nEX),.string (str Ev.DH)] 173);have HK:=A5 hk0;have HB:=A5 hbox;clear hk0 hbox;go_enter func102,ntmps102;go_wp2_with fail;obtain ⟨W0,hW0⟩:∃ W,w.alloc (.cells #[.string (str Ev.ER),.string (str Ev.BR),.string (str Ev.CQ),.string (str Ev.BP),.string (str Ev.DG),.string (str Ev.nEX),.string (str Ev.DH)] 173)=W:=⟨_,rfl⟩
 go_loopw [4] (fun i wr=>∃ j:Nat,j<=7/\i=.int .i64 j/\(∀ k,k<j->kN[k]?≠some t)/\Below W0.heap.size W0 wr) (fun i _=>7-(intOf i).toNat)
 case atStart=>exact ⟨0,Nat.zero_le _,rfl,fun k h=>absurd h (Nat.not_lt_zero _),by subst hW0;exact start _⟩
 case round =>
  obtain ⟨j,hj,rfl,hno,hbw⟩:=hrel;have HNO:=A5 hno;have HBR:=A5 hbw;have HBB:Hid (Below w.heap.size w wr):=A5 (by have h:=hbw;rw [<- hW0] at h;exact andthen HB.out h);clear hno
  by_cases hlt:j<7
  ·obtain ⟨n,hn,hc⟩:=xW j hlt;have p1:wr.cell? ⟨w.heap.size,j,none⟩=some (.string (str n)):=by
    have hl:j<7:=hlt;have hb:=hbw;rw [<- hW0] at hb;have hcc:=HK.out.cell j (by simpa using hl);rw [List.getElem?_eq_getElem (by simpa using hl)] at hc;injection hc with hc;rw [<- hc];exact A9 hb hcc
   have hi0:(0:Int)<=(j:Int):=by omega
   have hi1:(j:Int)<7:=by omega
   have HN:=A5 hn;have q2:=AH n;clear hn hc hbw
   cases e1:(n==t)
   ·have HN2:Hid (∀ k,k<j+1->kN[k]?≠some t):=A5 fun k hk=>by
     rcases Nat.lt_or_eq_of_le (Nat.le_of_lt_succ hk) with h|h
     ·exact HNO.out k h
     ·subst h;rw [HN.out];intro h;injection h with h;rw [h,beq_self_eq_true] at e1
      cases e1
    go_wp2_with fail
    go_roundw
    case rel=>exact ⟨j+1,by omega,by go_num,HN2.out,HBR.out⟩
    case measure=>simp [intOf];omega
   ·go_wp2_with fail;go_ret;exact ⟨_,rfl,Or.inl ⟨j,rfl,by rw [HN.out,eq_of_beq e1]⟩,HBB.out⟩
  ·obtain rfl:j=7:=by omega
   go_wp2_with fail;go_ret;refine ⟨_,rfl,Or.inr ⟨rfl,fun h=>?_⟩,HBB.out⟩;obtain ⟨i,hi,he⟩:=List.mem_iff_getElem.1 h;exact HNO.out i hi (by rw [List.getElem?_eq_getElem hi,he])
theorem jR (s:ByteArray) (w:World) (hs:s.size<=9000) :
  Calls prog 134 #[.string s] w (A1Q w (FD AI unU.f s.data.toList)):=by
 have hcl:=G8 44 s.data.toList;have hcs:=KP 44 s.data.toList;rw [AE] at hcl hcs;have HC:=A5 (fun w=>MS s 44 44 w rfl (by omega));have HF:Hid (FD AI unU.f s.data.toList=CG AI unU.f (cutAt 44 s.data.toList) []):=A5 rfl;rw [HF.out];generalize cutAt 44 s.data.toList=ps at *;clear HF;go_enter func134,ntmps134;go_wp2_with fail;refine (HC.out _).mono ?_;rintro e w1 ⟨v,rfl,hown,hb1⟩;obtain ⟨A,cap,rfl,hrow,hcap⟩:=BY.row hown;have HR:=A5 hrow;have HB1:=A5 hb1;clear hown hrow hb1;go_wp2_with fail
 go_loopw [5,6,7,8,9,10,11] (fun v i _ _ _ _ _ wr=>∃ (J:Nat) (k:List Int),J<=ps.length/\i=.int .i64 J/\BV wr w.heap.size v k/\Hid (CG AI unU.f (ps.take J) []=some k)/\Below w1.heap.size w1 wr) (fun _ i _ _ _ _ _ _=>ps.length-(intOf i).toNat)
 case atStart=>exact ⟨0,[],Nat.zero_le _,rfl,KQ _ _,A5 rfl,start _⟩
 case round =>
  obtain ⟨J,l,hJ,rfl,hownO,HK,hbwO⟩:=hrel;have HOO:=A5 hownO;have HBO:=A5 hbwO;have HBW:=A5 (andthen HB1.out hbwO);clear hownO hbwO
  by_cases hltO:J<ps.length
  ·obtain ⟨b0,o0,rfl,hb0,hc0⟩:=HR.out (by intro h0;rw [h0] at hltO;exact absurd hltO (Nat.not_lt_zero _));obtain ⟨T,hT⟩:∃ T,ps[J]=T:=⟨_,rfl⟩;have p0:wr.cell? ⟨b0,o0+J,none⟩=some (.string (str T)):=by rw [<- hT];exact (HBO.out.cell (p:=⟨b0,_,none⟩) hb0).trans (hc0 J hltO)
   have hi2:(0:Int)<=(J:Int):=by omega
   have hi3:(J:Int)<(ps.length:Int):=by omega
   have hkl:l.length<=10000:=by have:=JJ _ _ _ HK.out;rw [List.length_take,List.length_nil] at this;omega
   have HD:=A5 (fun w=>OO (str T) w);rw [AD] at HD;have hun:unU.f T=if (BZ T).2=0 then some (BZ T).1 else none:=rfl
   clear hc0;obtain ⟨⟨x,c⟩,hP⟩:∃ P,BZ T=P:=⟨_,rfl⟩;rw [hP] at hun HD;simp only at hun HD;go_wp2_with fail;refine (HD.out _).mono ?_;rintro _ w2 ⟨rfl,hb2⟩;have HBO2:=A5 (andthen HBO.out hb2);have HBW2:=A5 (andthen HBW.out hb2);have HO2:=A5 (HOO.out.keep hb2);clear hb2 p0 hP HD
   by_cases hc:c=0
   ·have e0:(c==0)=true:=beq_iff_eq.2 hc;have e1:(c != 0)=false:=by rw [bne,e0];rfl
    have HUN:Hid (unU.f T=some x):=A5 (by rw [hun,if_pos hc]);clear hun hc;obtain ⟨A2,cap2,rfl,hrow2⟩:=BV.row HO2.out;have HRR:=A5 hrow2;have hsz:l.length<=100000:=by omega
    clear hrow2 HOO HO2 HBO HBW;go_wp2_with fail
    go_loopw [9,10,11] (fun v d i wr=>∃ (j:Nat) (out:List Int) (b:Bool),j<=l.length/\i=.int .i64 j/\d=.bool b/\BV wr w2.heap.size v out/\Hid (DJ AI x l j out b)/\Hid (out.length<=j+1)/\Below w2.heap.size w2 wr) (fun _ _ i _=>l.length-(intOf i).toNat)
    case atStart=>exact ⟨0,[],false,Nat.zero_le _,rfl,rfl,KQ _ _,A5 (DJ.zero AI x l),A5 (Nat.zero_le _),start _⟩
    case round =>
     obtain ⟨j,out,b,hj,rfl,rfl,hown,HP,HL,hbw⟩:=hrel;have HO:=A5 hown;have HBR:=A5 hbw;clear hown hbw
     by_cases hlt:j<l.length
     ·obtain ⟨b1,o1,rfl,hb1,hc1⟩:=HRR.out (by intro h0;rw [h0] at hlt;exact absurd hlt (Nat.not_lt_zero _));obtain ⟨m,hm⟩:∃ m,l[j]=m:=⟨_,rfl⟩;have p1:wr.cell? ⟨b1,o1+j,none⟩=some (.int .i64 m):=by rw [<- hm];exact (HBR.out.cell (p:=⟨b1,_,none⟩) hb1).trans (hc1 j hlt)
      have hi0:(0:Int)<=(j:Int):=by omega
      have hi1:(j:Int)<(l.length:Int):=by omega
      clear hc1
      by_cases hq:m=x
      ·have q:(m==x)=true:=beq_iff_eq.2 hq;have HN:Hid (PZ AI x l=none):=A5 (ZH (by rw [<- hq,<- hm];exact List.getElem_mem hlt));clear hm hq;go_wp2_with fail;go_ret2;exact ⟨andthen HBW2.out HBR.out,Or.inl ⟨EK hltO HK.out (by rw [hT,HUN.out];exact HN.out),rfl⟩⟩
      ·have q:(m==x)=false:=beq_eq_false_iff_ne.2 hq
       cases b with
       | true =>
        have HN:Hid (DJ AI x l (j+1) (out++[m]) true):=A5 (by have:=HP.out.past hlt (by rw [hm];exact hq);rwa [hm] at this);have hz:=HBR.out.size;have hown:=HO.out;have hln:out.length<=1000000:=by have:=HL.out;omega
        clear hm hq;go_wp2_with (at_builtin;refine FR (l:=out) (p:=m) rfl _ _ rfl rfl rfl rfl hown hz hln ?_;intro v3 w3 hown3 hb3);have HO3:=A5 hown3;have HB3:=A5 (HBR.out.trans hb3);clear hown hown3 hb3 hz hln;go_wp2_with fail
        go_roundw
        case rel=>exact ⟨j+1,out++[m],true,by omega,by go_num,rfl,HO3.out,HN,A5 (by have:=HL.out;rw [z0J];simp;omega),HB3.out⟩
        case measure=>simp [intOf];omega
       | false =>
        by_cases ht:x<m
        ·have q2:decide (x<m)=true:=z0H ht;have HN:Hid (DJ AI x l (j+1) ((out++[x])++[m]) true):=A5 (by have:=HP.out.ahead hlt (by rw [hm];exact hq) (by rw [hm];exact q2);rwa [hm] at this);have HLO:Hid (out.length<=j):=A5 (by
          rcases HP.out.rest with ⟨_,e,_⟩|⟨e,_⟩
          ·rw [e,List.length_take];omega
          ·cases e)
         have hz:=HBR.out.size;have hown:=HO.out;have hln:out.length<=1000000:=by have:=HL.out;omega
         clear hm hq ht
         go_upto_region 19 with (at_builtin;refine FR (l:=out) (p:=x) rfl _ _ rfl rfl rfl rfl hown hz hln ?_;intro v3 w3 hown3 hb3;have p2:w3.cell? ⟨b1,o1+j,none⟩=some (.int .i64 m):=(hb3.cell (p:=⟨b1,_,none⟩) hb1).trans p1)
         have HO3:=A5 hown3;have HB3:=A5 (HBR.out.trans hb3);have hz:=HB3.out.size;clear hown hown3 hb3 hz hln p1;have hz:=HB3.out.size;have hown:=HO3.out;have hln:(out++[x]).length<=1000000:=by have:=HL.out;rw [z0J];simp;omega
         go_wp2_with (at_builtin;refine FR (l:=out++[x]) (p:=m) rfl _ _ rfl rfl rfl rfl hown hz hln ?_;intro v4 w4 hown4 hb4);have HO4:=A5 hown4;have HB4:=A5 (HB3.out.trans hb4);clear hown hown4 hb4 hz hln;go_wp2_with fail
         go_roundw
         case rel=>exact ⟨j+1,_,true,by omega,by go_num,rfl,HO4.out,HN,A5 (by have:=HLO.out;rw [z0J,z0J];simp;omega),HB4.out⟩
         case measure=>simp [intOf];omega
        ·have q2:decide (x<m)=false:=z0G ht;have HN:Hid (DJ AI x l (j+1) (out++[m]) false):=A5 (by have:=HP.out.skip hlt (by rw [hm];exact hq) (by rw [hm];exact q2);rwa [hm] at this);have hz:=HBR.out.size;have hown:=HO.out;have hln:out.length<=1000000:=by have:=HL.out;omega
         clear hm hq ht;go_wp2_with (at_builtin;refine FR (l:=out) (p:=m) rfl _ _ rfl rfl rfl rfl hown hz hln ?_;intro v3 w3 hown3 hb3);have HO3:=A5 hown3;have HB3:=A5 (HBR.out.trans hb3);clear hown hown3 hb3 hz hln;go_wp2_with fail
         go_roundw
         case rel=>exact ⟨j+1,out++[m],false,by omega,by go_num,rfl,HO3.out,HN,A5 (by have:=HL.out;rw [z0J];simp;omega),HB3.out⟩
         case measure=>simp [intOf];omega
     ·obtain rfl:j=l.length:=by omega
      cases b with
      | true =>
       have HF:Hid (PZ AI x l=some out):=A5 (by obtain ⟨e,hn⟩:=HP.out.done;rw [KM hn,e]);have HBE:=A5 (andthen HBO2.out HBR.out);have HOE:=A5 (HO.out.qW HBW2.out.size);have HKE:Hid (CG AI unU.f (ps.take (J+1)) []=some out):=A5 (by rw [List.take_succ_eq_append_getElem hltO,GA _ _ _ HK.out,hT];simp only [HUN.out];exact HF.out);go_wp2_with fail
       go_roundw
       case rel=>exact ⟨J+1,out,by omega,by go_num,HOE.out,HKE,HBE.out⟩
       case measure=>simp [intOf];omega
      | false =>
       have HF:Hid (PZ AI x l=some (out++[x])):=A5 (by obtain ⟨e,hn⟩:=HP.out.last;rw [KM hn,e]);have hz:=HBR.out.size;have hown:=HO.out;have hln:out.length<=1000000:=by have:=HL.out;omega
       go_wp2_with (at_builtin;refine FR (l:=out) (p:=x) rfl _ _ rfl rfl rfl rfl hown hz hln ?_;intro v3 w3 hown3 hb3);have HO3:=A5 hown3;have HB3:=A5 (HBR.out.trans hb3);clear hown hown3 hb3 hz hln;have HBE:=A5 (andthen HBO2.out HB3.out);have HOE:=A5 (HO3.out.qW HBW2.out.size);have HKE:Hid (CG AI unU.f (ps.take (J+1)) []=some (out++[x])):=A5 (by rw [List.take_succ_eq_append_getElem hltO,GA _ _ _ HK.out,hT];simp only [HUN.out];exact HF.out);go_wp2_with fail
       go_roundw
       case rel=>exact ⟨J+1,(out++[x]),by omega,by go_num,HOE.out,HKE,HBE.out⟩
       case measure=>simp [intOf];omega
   ·have e0:(c==0)=false:=beq_eq_false_iff_ne.2 hc;have e1:(c != 0)=true:=by rw [bne,e0];rfl
    have HN:Hid (CG AI unU.f ps []=none):=A5 (EK hltO HK.out (by rw [hT,hun,if_neg hc]));clear hun hc hT;go_wp2_with fail;go_ret2;exact ⟨HBW2.out,Or.inl ⟨HN.out,rfl⟩⟩
  ·obtain rfl:J=ps.length:=by omega
   rw [List.take_length] at HK;go_wp2_with fail;go_ret2;exact ⟨HBW.out,Or.inr ⟨_,_,HK.out,rfl,HOO.out⟩⟩
end Go.Proofs.YtfecnkhoojnkbaaGreatDoor

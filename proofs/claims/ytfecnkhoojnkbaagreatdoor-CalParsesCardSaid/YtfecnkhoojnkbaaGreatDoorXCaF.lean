import Derived.Test.YtfecnkhoojnkbaaGreatDoorXC3
set_option maxHeartbeats 8000000
set_option maxRecDepth 1000000
namespace Go.Proofs.YtfecnkhoojnkbaaGreatDoor
open Go.RowKit Rul Rt Go.Sort Tryz
theorem bQ (b o n c j:Nat) (W:World) (h:j<n) (hc:n<=c) :
  (Instr.sliceAt 52 (.slice (some ⟨b,o,none⟩) n c) (some (.int .i64 (j:Int))) none none).run prog W=.ok (.slice (some ⟨b,o+j,none⟩) (n-j) (c-j)) W:=by
 have h0:(0:Int)<=(j:Int):=by omega
 have h1:(j:Int)<=(n:Int):=by omega
 have h2:¬ c=j:=by omega
 simp [go_sem,h0,h1,h2]
theorem gT {n t:Tx} (h:Ca.JZ n t=true):∃ v,Li.AV t=some (n,v)/\Li.AW v=Ca.DI:=by
 unfold Ca.JZ at h
 cases hl:Li.AV t with
 | none=>rw [hl] at h;simp at h
 | some p =>
  obtain ⟨m,v⟩:=p;rw [hl] at h;simp only [Bool.and_eq_true,decide_eq_true_eq] at h;exact ⟨v,by rw [h.1],h.2⟩
def sZ (w:World) (p:List Ev.E×Nat×Int) (e:Ending) (w':World):Prop:=Below w.heap.size w w' ∧
 ∃ v l,e=.returned (.tuple #[v,.int .i64 p.2.1,.bool (decide (p.2.2=0))])/\l.map Prod.fst=p.1/\M7 w' w.heap.size v l
theorem KA {w w':World} {p:List Ev.E×Nat×Int} {k:Nat} {i:Int} (hp:p=([],k,14)) (hi:i=(k:Int)) (hb:Below w.heap.size w w'):sZ w p (.returned (.tuple #[.slice none 0 0,.int .i64 i,.bool false])) w':=by
 subst hp hi;exact ⟨hb,_,[],rfl,rfl,P6 _ _⟩
theorem tA (w:World) (t:TypeId):J9 ((w.alloc (.map #[] 0)).alloc (.cells #[.slice none 0 0,.map (some w.heap.size),.bool false] t)) (w.heap.size+1+1) (w.heap.size+1) w.heap.size (.slice none 0 0) [] [] false:=by
 have hm:=more (start (w.alloc (.map #[] 0))) (.cells #[.slice none 0 0,.map (some w.heap.size),.bool false] t);refine ⟨?_,(bB w).keep hm,P6 _ _,by omega,by omega,by omega,by simp⟩;have:=DY (w.alloc (.map #[] 0)) #[.slice none 0 0,.map (some w.heap.size),.bool false] t;rw [World.size_alloc] at this;exact this
theorem nU (A:Option Addr) (n c:Nat) (ls:List Tx) (w:World) (hr:BU w A ls) (hn:n=ls.length) (hcap:ls.length<=c) (hsz:ls.length<=900) (hb:∀ p∈ls,p.length<=90000) (he:EE w) :
  Calls prog 23 #[.slice A n c] w (sZ w (Ca.M6 unU ls)):=by
 subst hn;have hmm:=@run_makeMap prog;have HR:=A5 hr;have HL:=A5 hb;have HENV:=A5 he;clear hr hb he;obtain ⟨R,hR⟩:∃ R,Ca.M6 unU ls=R:=⟨_,rfl⟩
 by_cases h0:ls.length=0
 ·have hls:ls=[]:=List.eq_nil_of_length_eq_zero h0;have HF:Hid (Ca.M6 unU ls=([],0,14)):=A5 (by rw [hls];rfl);rw [h0];clear hR hls;go_enter func23,ntmps23;go_wp2_with fail;go_ret3;exact KA HF.out rfl (start _)
 ·obtain ⟨t,ts,hts⟩:∃ t ts,ls=t :: ts:=by
   cases ls with
   | nil=>exact absurd rfl h0
   | cons a b=>exact ⟨a,b,rfl⟩
  have hlp:0<ls.length:=by omega
  obtain ⟨b1,o1,rfl,hb1,hc1⟩:=HR.out (by rw [hts];simp);have ht0:ls[0]=t:=by simp [hts]
  have p0:w.cell? ⟨b1,o1,none⟩=some (.string (str t)):=by have:=hc1 0 hlp;rwa [ht0] at this
  have htl:t.length<=90000:=HL.out t (by rw [hts];exact List.mem_cons_self);have hz0:(((ls.length:Nat):Int)==0)=false:=beq_eq_false_iff_ne.2 (by omega);have hz1:(0:Int)<(ls.length:Int):=by omega
  obtain ⟨g,hg⟩:∃ g,Ca.JZ Ev.AP t=g:=⟨_,rfl⟩;have HI:=A5 (bK Ev.AP t g w HENV.out htl hg);have hlin:Ca.M6 unU ls=if g=true then Ca.DB unU 1 false [] (ls.drop 1) else ([],0,14):=by rw [hts,Ca.pE,hg];rfl
  have HC1:=A5 hc1;have HB1:=A5 hb1;clear ht0 htl hts hg h0 hc1;rw [hR];rw [hR] at hlin
  cases g with
  | false =>
   have HF:Hid (R=([],0,14)):=A5 (by rw [hlin];rfl);clear hlin hR;go_enter func23,ntmps23;go_wp2_with fail;refine (HI.out).mono ?_;rintro _ w1 ⟨rfl,hbw⟩;have HBW:=A5 hbw;clear hbw;go_wp2_with fail;go_ret3;exact KA HF.out rfl HBW.out
  | true =>
   have HF:Hid (R=Ca.DB unU 1 false [] (ls.drop 1)):=A5 (by rw [hlin];rfl);clear hlin hR;go_enter func23,ntmps23;go_wp2_with fail;refine (HI.out).mono ?_;rintro _ w1 ⟨rfl,hbw⟩;have HW1:=A5 hbw;have HNEW:=A5 (tA w1 84);have HB0:=A5 (andthen (andthen hbw (more (start w1) (.map #[] 0))) (more (start (w1.alloc (.map #[] 0))) (.cells #[.slice none 0 0,.map (some w1.heap.size),.bool false] 84)));have hsw:=hbw.size;clear hbw;go_wp2_with fail;obtain ⟨M,hM⟩:∃ M,w1.heap.size=M:=⟨_,rfl⟩;rw [hM] at HNEW HB0 hsw
   try rw [hM]
   have HM:=A5 hM;clear hM
   go_loopw [6,7,8] (fun i _ _ wr=>∃ (j:Nat) (v:Value) (l:List EM) (ver:Bool),1<=j/\j<=ls.length/\i=.int .i64 j/\Hid (J9 wr (M+1+1) (M+1) M v l (Ca.CB (l.map Prod.fst)) ver)/\Hid (R=Ca.DB unU j ver (l.map Prod.fst) (ls.drop j))/\Hid (Below w.heap.size w wr)/\Hid (l.length<=j)) (fun i _ _ _=>ls.length-(intOf i).toNat)
   case atStart=>exact ⟨1,_,[],false,Nat.le_refl _,by omega,rfl,HNEW,HF,HB0,A5 (by simp)⟩
   case round =>
    obtain ⟨j,v,l,ver,hj1,hj,rfl,HRG,HE,HB,HLL⟩:=hrel;have hj0:(0:Int)<=(j:Int):=by omega
    by_cases hlt:j<ls.length
    ·obtain ⟨u,hu⟩:∃ u,ls[j]=u:=⟨_,rfl⟩;have hul:=HL.out ls[j] (List.getElem_mem _);have p1:wr.cell? ⟨b1,o1+j,none⟩=some (.string (str u)):=(HB.out.cell (p:=⟨b1,_,none⟩) HB1.out).trans (by rw [<- hu];exact HC1.out j hlt);rw [hu] at hul;have hj2:(j:Int)<(ls.length:Int):=by omega
     obtain ⟨g,hg⟩:∃ g,Ca.JZ Ev.DD u=g:=⟨_,rfl⟩;have HI2:=A5 (bK Ev.DD u g wr (HENV.out.keep HB.out) hul hg)
     cases g with
     | false =>
      have hc0:Ca.JZ Ev.DD ls[j]=false:=by rw [hu];exact hg
      obtain ⟨Q,hQ⟩:∃ Q,Ca.K4 unU ver (l.map Prod.fst) (ls.drop j)=Q:=⟨_,rfl⟩;have hev:=Ca.A0j (U:=unU) (ver:=ver) (out:=l.map Prod.fst) hlt hc0;rw [hQ,<- HE.out] at hev;have HEV:=A5 hev;have HQ:=A5 hQ;have hrw2:BU w (some ⟨b1,o1+j,none⟩) (ls.drop j):=bD HR.out j;have hsl:=fun W=>bQ b1 o1 ls.length c j W hlt hcap
      have HRW:=A5 hrw2;have hjn:(j:Int)<=(c:Int):=by omega
      have hjs:(j:Int)<=(ls.length:Int):=by omega
      have HNE:Hid (ls.drop j≠[]):=A5 (fun q=>by have:=congrArg List.length q;rw [List.length_drop] at this;simp at this;omega);clear hg hu hul hev hQ hrw2 hc0;go_wp2_with fail;refine (HI2.out).mono ?_;rintro _ w2 ⟨rfl,hb2⟩;have HB2:=A5 (andthen HB.out hb2);have HRG2:=A5 (HRG.out.keep hb2);clear hb2;go_wp2_with fail;refine (nR w.heap.size (M+1+1) (M+1) M v l ver _ _ _ (ls.drop j) w2 HRG2.out (by omega) (by omega) (by have:=HLL.out;omega) (HRW.out.keep HB2.out) (by rw [List.length_drop]) HNE.out (by rw [List.length_drop];omega) (fun p hp=>HL.out p (List.mem_of_mem_drop hp)) (HENV.out.keep HB2.out)).mono ?_;rw [HQ.out];obtain ⟨o,k⟩:=Q;rintro _ w3 ⟨hb3,hx⟩;have HB3:=A5 (HB2.out.trans hb3);clear hb3
      cases o with
      | none =>
       dsimp only at hx
       subst hx;have hk:=Ca.A0l HQ.out;rw [List.length_drop] at hk;have HF2:Hid (R=([],j+k,14)):=A5 HEV.out;have hk0:(0:Int)<=(k:Int):=by omega
       have hk1:(k:Int)<=900:=by omega
       have hjk:(j:Int)<=900:=by omega
       have HJK:Hid ((j:Int)+(k:Int)=((j+k:Nat):Int)):=A5 (by omega);clear hk;go_wp2_with fail;go_ret3;exact KA HF2.out HJK.out HB3.out
      | some vo =>
       obtain ⟨ver2,o2⟩:=vo;obtain ⟨v2,l2,rfl,h2,h3⟩:=hx;have hk:=Ca.A0k HQ.out;rw [List.length_drop,List.length_map] at hk;have hl2:l2.length=o2.length:=by rw [<- h2,List.length_map]
       have HF2:Hid (R=Ca.DB unU (j+k) ver2 (l2.map Prod.fst) (ls.drop (j+k))):=A5 (by rw [h2];exact HEV.out);have HRG3:=A5 (show J9 w3 (M+1+1) (M+1) M v2 l2 (Ca.CB (l2.map Prod.fst)) ver2 by rw [h2];exact h3);have hk0:(0:Int)<=(k:Int):=by omega
       have hk1:(k:Int)<=900:=by omega
       have hjk:(j:Int)<=900:=by omega
       have HL3:Hid (l2.length<=j+k):=A5 (by have:=HLL.out;omega);clear h2 h3 hl2;go_wp2_with fail
       go_roundw
       case rel=>exact ⟨j+k,v2,l2,ver2,by omega,by omega,by go_num,HRG3,HF2,HB3,HL3⟩
       case measure=>simp [intOf];omega
     | true =>
      obtain ⟨vl,hvl,hcp⟩:=gT hg;have hvl':Li.AV ls[j]=some (Ev.DD,vl):=by rw [hu];exact hvl
      have hjk:(j:Int)<=900:=by omega
      have hze:((j:Int)==((ls.length:Nat):Int))=false:=beq_eq_false_iff_ne.2 (by omega)
      by_cases hm:j+1<ls.length
      ·have HF2:Hid (R=([],j+1,14)):=A5 (by rw [HE.out];exact Ca.PY hm hvl' hcp);have hm1:(j:Int)+1<(ls.length:Int):=by omega
       clear hvl hcp hvl' hg hu hul hm;go_wp2_with fail;refine (HI2.out).mono ?_;rintro _ w2 ⟨rfl,hb2⟩;have HB2:=A5 (andthen HB.out hb2);clear hb2;go_wp2_with fail;go_ret3;exact KA HF2.out (by omega) HB2.out
      ·have hm2:j+1=ls.length:=by omega
       have HF2:Hid (R=(l.map Prod.fst,ls.length,0)):=A5 (by rw [HE.out];exact Ca.mC hm2 (by exact hvl') hcp);have hm1:¬ (j:Int)+1<(ls.length:Int):=by omega
       clear hvl hcp hvl' hg hu hul hm;obtain ⟨A2,c2,rfl,_⟩:=GP.row HRG.out.h.own;go_wp2_with fail;refine (HI2.out).mono ?_;rintro _ w2 ⟨rfl,hb2⟩;have HB2:=A5 (andthen HB.out hb2);have HRG2:=A5 (HRG.out.keep hb2);have k0:w2.cell? ⟨M+1,0,none⟩=some (.slice A2 l.length c2):=HRG2.out.k.cell 0 (by simp);clear hb2;go_wp2_with fail;go_ret3;refine ⟨HB2.out,_,l,?_,by rw [HF2.out],HRG2.out.h.down (by omega)⟩;rw [HF2.out];rfl
    ·obtain rfl:j=ls.length:=by omega
     have HF2:Hid (R=([],ls.length,14)):=A5 (by rw [HE.out];exact Ca.lZ);have hze:(((ls.length:Nat):Int)==((ls.length:Nat):Int))=true:=beq_self_eq_true _;go_wp2_with fail;go_ret3;exact KA HF2.out rfl HB.out
def YS (w:World) (p:List Ev.E×Nat×Int) (e:Ending) (w':World):Prop:=Below w.heap.size w w' ∧
 ∃ v l,e=.returned (.tuple #[v,.int .i64 p.2.1,.int .i64 p.2.2])/\l.map Prod.fst=p.1/\M7 w' w.heap.size v l
theorem CD {w w':World} {p:List Ev.E×Nat×Int} {k:Nat} {i z:Int} (hp:p=([],k,z)) (hi:i=(k:Int)) (hb:Below w.heap.size w w'):YS w p (.returned (.tuple #[.slice none 0 0,.int .i64 i,.int .i64 z])) w':=by
 subst hp hi;exact ⟨hb,_,[],rfl,rfl,P6 _ _⟩
theorem nV (t:Tx) (w:World) (he:EE w) (ht:t.length<=90000) (L:List Tx) (hL:Fo.CJ t=L) :
  Calls prog 22 #[.string (str t)] w fun x w'=>∃ A c,x=.returned (.slice A L.length c)/\L.length<=c/\BU w' A L/\Below w.heap.size w w':=by
 have:=kK (str t) w he.e (by rw [AB];omega);rw [AD,hL] at this;refine this.mono ?_;rintro _ w' ⟨v,rfl,hown,hb⟩;obtain ⟨A,cap,rfl,hr,hc⟩:=BY.row hown;exact ⟨A,cap,rfl,hc,hr,hb⟩
theorem gU (s:Tx) (w:World) (hs:s.length<=90000) (he:EE w) :
  Calls prog 12 #[.string (str s)] w (YS w (Ca.FU unU s)):=by
 have hsz:((str s).size:Int)=(s.length:Int):=by rw [AB]
 obtain ⟨P,hP⟩:∃ P,Ca.FU unU s=P:=⟨_,rfl⟩;rw [hP];unfold Ca.FU at hP
 by_cases h8:8000<s.length
 ·rw [if_pos h8] at hP;have HP:=A5 hP.symm;have hz:(8000:Int)<((str s).size:Int):=by omega
  clear hP;go_enter func12,ntmps12;go_wp2_with fail;go_ret3;exact CD HP.out rfl (start _)
 ·rw [if_neg h8] at hP;have hz:¬ (8000:Int)<((str s).size:Int):=by omega
  obtain ⟨L,hL⟩:∃ L,Fo.CJ s=L:=⟨_,rfl⟩;have HU:=A5 (nV s w he hs L hL);have HUS:Hid (∀ p∈L,p.length<=90000):=A5 (fun p hp=>by have:=Ca.SG s p (hL▸hp);omega);have HENV:=A5 he;rw [hL] at hP;clear hL he hs
  by_cases h2:200<L.length
  ·rw [if_pos h2] at hP;have HP:=A5 hP.symm;have hz2:(200:Int)<(L.length:Int):=by omega
   clear hP;go_enter func12,ntmps12;go_wp2_with fail;refine (HU.out).mono ?_;rintro _ w1 ⟨A,c,rfl,hc,hr,hb⟩;have HB:=A5 hb;clear hb hr;go_wp2_with fail;go_ret3;exact CD HP.out rfl HB.out
  ·rw [if_neg h2] at hP;have hz2:¬ (200:Int)<(L.length:Int):=by omega
   have hL9:L.length<=900:=by omega
   have HP:=A5 hP;have HIS:=A5 (Ca.A2s unU L);clear hP;go_enter func12,ntmps12;go_wp2_with fail;refine (HU.out).mono ?_;rintro _ w1 ⟨A,c,rfl,hc,hr,hb⟩;have HB:=A5 hb;have HC:=A5 (nU A _ c L w1 hr rfl hc hL9 HUS.out (HENV.out.keep hb));have hsw:=hb.size;rw [HP.out] at HC HIS;clear hb hr;go_wp2_with fail;refine (HC.out).mono ?_;obtain ⟨es,k,z⟩:=P;rintro _ w2 ⟨hb2,v,l,rfl,hl,hh⟩;have HB2:=A5 (andthen HB.out hb2);have HH:=A5 (hh.down hsw);have HLE:=A5 hl;clear hb2 hh hl;obtain ⟨A2,c2,rfl,_⟩:=GP.row HH.out.own;rcases HIS.out with ⟨hz0,_⟩|⟨hz0,hn0⟩
   ·simp only at hz0;subst hz0;have hd:decide ((0:Int)=0)=true:=rfl;go_wp2_with fail;go_ret3;exact ⟨HB2.out,_,l,rfl,HLE.out,HH.out⟩
   ·simp only at hz0 hn0;subst hz0;have hd:decide ((14:Int)=0)=false:=rfl;go_wp2_with fail;go_ret3;exact CD (by rw [hn0]) rfl HB2.out
end Go.Proofs.YtfecnkhoojnkbaaGreatDoor

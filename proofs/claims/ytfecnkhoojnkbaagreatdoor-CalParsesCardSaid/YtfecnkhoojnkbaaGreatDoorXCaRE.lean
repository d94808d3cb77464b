import Derived.Test.YtfecnkhoojnkbaaGreatDoorXEvRX
import Derived.Test.YtfecnkhoojnkbaaGreatDoorXFoU
import Derived.Test.YtfecnkhoojnkbaaGreatDoorXCaF
set_option maxHeartbeats 8000000
set_option maxRecDepth 1000000
namespace Go.Proofs.YtfecnkhoojnkbaaGreatDoor
open Go.RowKit Rul Rt Go.Sort Tryz
theorem WU (t:Tx) (w:World) (ht:t.length<=8400):Calls prog 43 #[.string (str t)] w (Ans w (SR (Li.AV t))):=by
 have:=O8 (str t) w (by rw [AB];omega);rw [AD] at this;exact this
theorem QJ (t r:Tx) (w:World) (ht:t.length<=8400) (h:Li.AW t=r):Calls prog 44 #[.string (str t)] w (Ans w (.string (str r))) :=
 MY (str t) r w (by rw [AB];omega) (by rw [AD];exact h)
theorem FarE.nD {B:Nat} {e:Ev.E} {m:Mem} (h:FarE B e m):QF B (e,m):=⟨h.o,h.d,h.mm,h.y,h.x⟩
theorem bV (A:Option Addr) (n c:Nat) (ls:List Tx) (w:World) (hr:BU w A ls) (hn:n=ls.length) (hcap:ls.length<=c) (h1:1<=ls.length) (hsz:ls.length<=900) (hb:∀ p∈ls,p.length<=8400) :
  Calls prog 45 #[.slice A n c] w (YS w (Ca.DB unU 1 false [] (ls.drop 1))):=by
 subst hn;have HR:=A5 hr;have HL:=A5 hb;clear hr hb;obtain ⟨b1,o1,rfl,hb1,hc1⟩:=HR.out (by intro h0;rw [h0] at h1;simp at h1);have HC1:=A5 hc1;have HBL:=A5 hb1;clear hc1 hb1;obtain ⟨R,hR⟩:∃ R,Ca.DB unU 1 false [] (ls.drop 1)=R:=⟨_,rfl⟩;rw [hR];have HF:=A5 hR.symm;clear hR;go_enter func45,ntmps45;go_wp2_with fail
 go_loopw [5,6,7] (fun v vb i wr=>∃ (j:Nat) (l:List EM) (ver:Bool),1<=j/\j<=ls.length/\i=.int .i64 j/\vb=.bool ver/\Hid (M7 wr w.heap.size v l)/\Hid (R=Ca.DB unU j ver (l.map Prod.fst) (ls.drop j))/\Hid (Below w.heap.size w wr)/\Hid (l.length<=j)) (fun _ _ i _=>ls.length-(intOf i).toNat)
 case atStart=>exact ⟨1,[],false,Nat.le_refl _,h1,rfl,rfl,A5 (P6 _ _),HF,A5 (start w),A5 (by simp)⟩
 case round =>
  obtain ⟨j,l,ver,hj1,hj,rfl,rfl,HH,HE,HB,HLL⟩:=hrel;obtain ⟨A2,c2,rfl,_⟩:=GP.row HH.out.own;have hj0:(0:Int)<=(j:Int):=by omega
  have hjk:(j:Int)<=900:=by omega
  by_cases hlt:j<ls.length
  ·obtain ⟨u,hu⟩:∃ u,ls[j]=u:=⟨_,rfl⟩;have hul:=HL.out ls[j] (List.getElem_mem _);have p1:wr.cell? ⟨b1,o1+j,none⟩=some (.string (str u)):=(HB.out.cell (p:=⟨b1,_,none⟩) HBL.out).trans (by rw [<- hu];exact HC1.out j hlt);rw [hu] at hul;have hj2:(j:Int)<(ls.length:Int):=by omega
   have HSP:=A5 (WU u wr hul)
   cases hlu:Li.AV u with
   | none =>
    have HN:Hid (R=([],j,14)):=A5 (by rw [HE.out];exact Ca.dR hlt (by rw [hu];exact hlu));rw [hlu] at HSP;unfold SR at HSP;clear hu hul hlu;go_wp2_with fail;refine (HSP.out).mono ?_;rintro _ w1 ⟨rfl,hb1⟩;have HB1:=A5 (andthen HB.out hb1);have HH1:=A5 (HH.out.keep hb1);clear hb1;go_wp2_with fail;go_ret3;exact CD HN.out rfl HB1.out
   | some p =>
    obtain ⟨nm,vl⟩:=p;have hlj:Li.AV ls[j]=some (nm,vl):=by rw [hu];exact hlu
    have hvl:vl.length<=8400:=by have:=KB u nm vl hlu;omega
    rw [hlu] at HSP;unfold SR at HSP;have HLJ:=A5 hlj;clear hu hul hlu hlj;obtain ⟨gV,hgV⟩:∃ g,decide (nm=Ca.R8)=g:=⟨_,rfl⟩;obtain ⟨gB,hgB⟩:∃ g,decide (nm=Ev.AP)=g:=⟨_,rfl⟩;obtain ⟨gE,hgE⟩:∃ g,decide (nm=Ev.DD)=g:=⟨_,rfl⟩;have e1:(nm==[69,78,68])=gE:=by rw [<- hgE,AO];rfl
    have e2:(nm==[86,69,82,83,73,79,78])=gV:=by rw [<- hgV,AO];rfl
    have e3:(nm==[66,69,71,73,78])=gB:=by rw [<- hgB,AO];rfl
    have q1:=AH nm
    cases gV with
    | true =>
     have hnm:=of_decide_eq_true hgV;have hB0:gB=false:=by rw [<- hgB];exact z0G (fun q=>Ca.RD (hnm.symm.trans q))
     have hE0:gE=false:=by rw [<- hgE];exact z0G (fun q=>Ca.ZA (hnm.symm.trans q))
     subst hB0 hE0;have hlj:Li.AV ls[j]=some (Ca.R8,vl):=by rw [HLJ.out,hnm]
     obtain ⟨d,hd⟩:∃ d,decide (vl=Ca.R9)=d:=⟨_,rfl⟩;have e4:(vl==[50,46,48])=d:=by rw [<- hd,AO];rfl
     have q2:=AH vl
     cases ver with
     | true =>
      have HN:Hid (R=([],j,14)):=A5 (by rw [HE.out];exact Ca.OM hlt hlj (Or.inl rfl));clear hgV hgB hgE hnm hlj hd;go_wp2_with fail;refine (HSP.out).mono ?_;rintro _ w1 ⟨rfl,hb1⟩;have HB1:=A5 (andthen HB.out hb1);have HH1:=A5 (HH.out.keep hb1);clear hb1;go_wp2_with fail;go_ret3;exact CD HN.out rfl HB1.out
     | false =>
      cases d with
      | false =>
       have e5:(vl != [50,46,48])=true:=by rw [bne,e4];rfl
       have HN:Hid (R=([],j,14)):=A5 (by rw [HE.out];exact Ca.OM hlt hlj (Or.inr (of_decide_eq_false hd)));clear hgV hgB hgE hnm hlj hd;go_wp2_with fail;refine (HSP.out).mono ?_;rintro _ w1 ⟨rfl,hb1⟩;have HB1:=A5 (andthen HB.out hb1);have HH1:=A5 (HH.out.keep hb1);clear hb1;go_wp2_with fail;go_ret3;exact CD HN.out rfl HB1.out
      | true =>
       have e5:(vl != [50,46,48])=false:=by rw [bne,e4];rfl
       have HN:Hid (R=Ca.DB unU (j+1) true (l.map Prod.fst) (ls.drop (j+1))):=A5 (by rw [HE.out];exact Ca.mA hlt (by rw [hlj,of_decide_eq_true hd]));have HL1:Hid (l.length<=j+1):=A5 (by have:=HLL.out;omega);clear hgV hgB hgE hnm hlj hd;go_wp2_with fail;refine (HSP.out).mono ?_;rintro _ w1 ⟨rfl,hb1⟩;have HB1:=A5 (andthen HB.out hb1);have HH1:=A5 (HH.out.keep hb1);clear hb1;go_wp2_with fail
       go_roundw
       case rel=>exact ⟨j+1,l,true,by omega,by omega,by go_num,rfl,HH1,HN,HB1,HL1⟩
       case measure=>simp [intOf];omega
    | false =>
     have hnV:=of_decide_eq_false hgV
     cases gB with
     | true =>
      have hnm:=of_decide_eq_true hgB;have hE0:gE=false:=by rw [<- hgE];exact z0G (fun q=>Ca.XL (hnm.symm.trans q))
      subst hE0;have hlj:Li.AV ls[j]=some (Ev.AP,vl):=by rw [HLJ.out,hnm]
      obtain ⟨C,hC⟩:∃ C,Li.AW vl=C:=⟨_,rfl⟩;have HGR:=A5 (fun w=>QJ vl C w hvl hC);obtain ⟨d,hd⟩:∃ d,decide (C=Ev.wEV)=d:=⟨_,rfl⟩;have e4:(C==[86,69,86,69,78,84])=d:=by rw [<- hd,AO];rfl
      have q2:=AH C
      cases d with
      | false =>
       have e5:(C != [86,69,86,69,78,84])=true:=by rw [bne,e4];rfl
       have HN:Hid (R=([],j,14)):=A5 (by rw [HE.out];exact Ca.PX hlt hlj (by rw [hC];exact of_decide_eq_false hd));clear hgV hgB hgE hnm hlj hd hC hnV;go_wp2_with fail;refine (HSP.out).mono ?_;rintro _ w1 ⟨rfl,hb1⟩;have HB1:=A5 (andthen HB.out hb1);have HH1:=A5 (HH.out.keep hb1);clear hb1;go_wp2_with fail;refine (HGR.out _).mono ?_;rintro _ w2 ⟨rfl,hb2⟩;have HB2:=A5 (andthen HB1.out hb2);have HH2:=A5 (HH1.out.keep hb2);clear hb2;go_wp2_with fail;go_ret3;exact CD HN.out rfl HB2.out
      | true =>
       have e5:(C != [86,69,86,69,78,84])=false:=by rw [bne,e4];rfl
       have hcv:Li.AW vl=Ev.wEV:=by rw [hC];exact of_decide_eq_true hd
       obtain ⟨Q,hQ⟩:∃ Q,Ev.CS unU (ls.drop j)=Q:=⟨_,rfl⟩;have HQ:=A5 hQ;have hrw2:BU w (some ⟨b1,o1+j,none⟩) (ls.drop j):=bD HR.out j;have HRW:=A5 hrw2;have hsl:=fun W=>bQ b1 o1 ls.length c j W hlt hcap
       have hjs:(j:Int)<=(ls.length:Int):=by omega
       have hjn:(j:Int)<=(c:Int):=by omega
       have HRD:=A5 (fun w c (h:BU w (some ⟨b1,o1+j,none⟩) (ls.drop j))=>oE (some ⟨b1,o1+j,none⟩) (ls.length-j) c (ls.drop j) w h (by rw [List.length_drop]) (by rw [List.length_drop];omega) (fun p hp=>HL.out p (List.mem_of_mem_drop hp)));rw [hQ] at HRD;have HLV:=A5 (And.intro hlj hcv);clear hgV hgB hgE hnm hlj hd hC hnV hrw2 hQ hcv;go_wp2_with fail;refine (HSP.out).mono ?_;rintro _ w1 ⟨rfl,hb1⟩;have HB1:=A5 (andthen HB.out hb1);have HH1:=A5 (HH.out.keep hb1);clear hb1;go_wp2_with fail;refine (HGR.out _).mono ?_;rintro _ w2 ⟨rfl,hb2⟩;have HB2:=A5 (andthen HB1.out hb2);have HH2:=A5 (HH1.out.keep hb2);clear hb2;go_wp2_with fail;refine (HRD.out _ _ (HRW.out.keep HB2.out)).mono ?_;obtain ⟨o,k⟩:=Q;rintro _ w3 ⟨hb3,hx⟩;have HB3:=A5 (andthen HB2.out hb3);have HH3:=A5 (HH2.out.keep hb3)
       cases o with
       | none =>
        dsimp only at hx
        subst hx;have hk:=Ca.PW HQ.out;rw [List.length_drop] at hk;have HN:Hid (R=([],j+k,14)):=A5 (by rw [HE.out];exact Ca.NZ hlt HLV.out.1 HLV.out.2 HQ.out);have hk0:(0:Int)<=(k:Int):=by omega
        have hk1:(k:Int)<=900:=by omega
        have HB4:=A5 (andthen HB3.out (more (start w3) (.cells #[.string ⟨#[]⟩,.string ⟨#[]⟩,.int .i64 0,.int .i64 0,.slice none 0 0,.int .i64 0,.int .i64 0,.int .i64 0,.int .i64 0,.slice none 0 0,.slice none 0 0,.slice none 0 0,.slice none 0 0] 47)));have HJ:Hid ((j:Int)+(k:Int)=((j+k:Nat):Int)):=A5 (by omega);clear hb3 hk;unfold BE;go_wp2_with fail;go_ret3;exact CD HN.out HJ.out HB4.out
       | some e =>
        obtain ⟨m,rfl,hem,hfar⟩:=hx;have hk:=Ca.JI HQ.out;rw [List.length_drop] at hk;have hk0:(0:Int)<=(k:Int):=by omega
        have hk1:(k:Int)<=900:=by omega
        have hkN:2<=k:=hk.1;have hkL:k<=ls.length-j:=hk.2;have hsz2:w.heap.size<=w2.heap.size:=HB2.out.size;have HLO:=A5 (And.intro (hfar.nD.down hsz2) (hfar.nD.off (v:=.slice A2 l.length c2) (fun g q=>(HH2.out.own.lt g q).2)));have hEB:=more (start w3) (.cells #[.string (str e.uid),.string (str e.text),.int .i64 e.st,.int .i64 e.lg,.slice m.O e.rooms.length m.oc,.int .i64 e.r.fr,.int .i64 e.r.ev,.int .i64 e.r.ct,.int .i64 e.r.un,.slice m.D e.r.ds.length m.dc,.slice m.M e.r.ms.length m.mc,.slice m.Y e.r.ys.length m.yc,.slice m.X e.ex.length m.xc] 47);have hxx:=AS w3 #[.string (str e.uid),.string (str e.text),.int .i64 e.st,.int .i64 e.lg,.slice m.O e.rooms.length m.oc,.int .i64 e.r.fr,.int .i64 e.r.ev,.int .i64 e.r.ct,.int .i64 e.r.un,.slice m.D e.r.ds.length m.dc,.slice m.M e.r.ms.length m.mc,.slice m.Y e.r.ys.length m.yc,.slice m.X e.ex.length m.xc] 47;have HY:Hid (Y13 (w3.alloc (.cells #[.string (str e.uid),.string (str e.text),.int .i64 e.st,.int .i64 e.lg,.slice m.O e.rooms.length m.oc,.int .i64 e.r.fr,.int .i64 e.r.ev,.int .i64 e.r.ct,.int .i64 e.r.un,.slice m.D e.r.ds.length m.dc,.slice m.M e.r.ms.length m.mc,.slice m.Y e.r.ys.length m.yc,.slice m.X e.ex.length m.xc] 47)) w3.heap.size e m):=A5 ⟨hxx 0 _ rfl,hxx 1 _ rfl,hxx 2 _ rfl,hxx 3 _ rfl,hxx 4 _ rfl,hxx 5 _ rfl,hxx 6 _ rfl,hxx 7 _ rfl,hxx 8 _ rfl,hxx 9 _ rfl,hxx 10 _ rfl,hxx 11 _ rfl,hxx 12 _ rfl⟩;have HB4:=A5 (andthen HB3.out hEB);have HH4:=A5 (HH3.out.keep hEB);have HEL:=A5 (hem.keep hEB);have hEBs:(w3.alloc (.cells #[.string (str e.uid),.string (str e.text),.int .i64 e.st,.int .i64 e.lg,.slice m.O e.rooms.length m.oc,.int .i64 e.r.fr,.int .i64 e.r.ev,.int .i64 e.r.ct,.int .i64 e.r.un,.slice m.D e.r.ds.length m.dc,.slice m.M e.r.ms.length m.mc,.slice m.Y e.r.ys.length m.yc,.slice m.X e.ex.length m.xc] 47)).heap.size=w3.heap.size+1:=World.size_alloc _ _;clear hb3 hem hfar hEB hxx hk HB3 HH3;go_wp2_with fail;generalize w3.alloc (.cells #[.string (str e.uid),.string (str e.text),.int .i64 e.st,.int .i64 e.lg,.slice m.O e.rooms.length m.oc,.int .i64 e.r.fr,.int .i64 e.r.ev,.int .i64 e.r.ct,.int .i64 e.r.un,.slice m.D e.r.ds.length m.dc,.slice m.M e.r.ms.length m.mc,.slice m.Y e.r.ys.length m.yc,.slice m.X e.ex.length m.xc] 47)=W4 at *;generalize w3.heap.size=EB at *
        go_loopw [14] (fun s wx=>∃ x:Nat,x<=l.length/\s=.int .i64 x/\Hid (∀ (i:Nat) (h:i<x) (h2:i<l.length),l[i].1.uid≠e.uid)/\Hid (Below W4.heap.size W4 wx)) (fun s _=>l.length-(intOf s).toNat)
        case atStart=>exact ⟨0,Nat.zero_le _,rfl,A5 (fun i h=>absurd h (Nat.not_lt_zero _)),A5 (start W4)⟩
        case round =>
         obtain ⟨x,hx,rfl,HU,HBX⟩:=hrel;have HH5:=A5 (HH4.out.keep HBX.out);have y5:=bL HBX.out HY.out;have HB5:=A5 (andthen HB4.out HBX.out);have hx0:(0:Int)<=(x:Int):=by omega
         have hllb:=HLL.out
         by_cases hxl:x<l.length
         ·obtain ⟨A3,c3,hA3,hrow⟩:=GP.row HH5.out.own;have hA2:A2=A3/\c2=c3:=by injection hA3 with a1 _ a2;exact ⟨a1,a2⟩
          obtain ⟨rfl,rfl⟩:=hA2;obtain ⟨b3,o3,rfl,hb3,hc3⟩:=hrow (by intro h0;rw [h0] at hxl;exact absurd hxl (Nat.not_lt_zero _));obtain ⟨g,hg⟩:∃ g,l[x].1.uid=g:=⟨_,rfl⟩;have r0:wr.cell? ⟨b3,o3+x*13,none⟩=some (.string (str g)):=by have:=(hc3 x hxl).all.1;rw [hg] at this;exact this
          have r1:wr.cell? ⟨EB,0,none⟩=some (.string (str e.uid)):=y5.1;have hx1:(x:Int)<(l.length:Int):=by omega
          have q3:=AH g;have q4:=AH e.uid;have HB6:=A5 (fun a=>AJ HB5.out a);have HBY:=A5 (fun a=>AJ HBX.out a)
          by_cases hq:g=e.uid
          ·have HN:Hid (R=([],j+k-1,14)):=A5 (by rw [HE.out];exact Ca.O0 hlt HLV.out.1 HLV.out.2 HQ.out (by unfold Ca.CB;rw [List.map_map];exact List.mem_map.2 ⟨l[x],List.getElem_mem _,by rw [Function.comp,hg,hq]⟩));have e6:(g==e.uid)=true:=by rw [AO,z0H hq]
           have HI:Hid ((j:Int)+(k:Int)-1=((j+k-1:Nat):Int)):=A5 (by omega);clear hg hq y5 hc3 hrow;go_wp2_with fail;go_quiet (fail);have HB7:=A5 (HB6.out nq);generalize wr.drewN nq=wq at *;go_wp2_with fail;go_ret3;exact CD HN.out HI.out HB7.out
          ·have e6:(g==e.uid)=false:=by rw [AO,z0G hq]
           have HN:Hid (∀ (i:Nat) (h:i<x+1) (h2:i<l.length),l[i].1.uid≠e.uid):=A5 (fun i h h2=>by
            rcases (by omega:i<x∨i=x) with z|rfl
            ·exact HU.out i z h2
            ·rw [hg];exact hq)
           clear hg hq y5 hc3 hrow;go_wp2_with fail;go_quiet (fail);have HB7:=A5 (HBY.out nq);generalize wr.drewN nq=wq at *;go_wp2_with fail
           go_roundw
           case rel=>exact ⟨x+1,by omega,by go_num,HN,HB7⟩
           case measure=>simp [intOf];omega
         ·obtain rfl:x=l.length:=by omega
          have hni:e.uid∉Ca.CB (l.map Prod.fst):=fun g=>by
           unfold Ca.CB at g;rw [List.map_map] at g;obtain ⟨p,hp,hpe⟩:=List.mem_map.1 g;obtain ⟨i,hi,rfl⟩:=List.mem_iff_getElem.1 hp;exact HU.out i hi hi hpe
          have HN:Hid (R=Ca.DB unU (j+k) ver ((l++[(e,m)]).map Prod.fst) (ls.drop (j+k))):=A5 (by rw [HE.out,List.map_append];exact Ca.XJ hlt HLV.out.1 HLV.out.2 HQ.out hni);obtain ⟨y0,y1,y2,y3,y4,y5a,y6,y7,y8,y9,y10,y11,y12⟩:=y5;have hown:=HH5.out.own;have hlz:l.length<=1000000:=by have:=HLL.out;omega
          have hbz:w.heap.size<=wr.heap.size:=HB5.out.size;have HEL5:=A5 (HEL.out.keep HBX.out);have hjk3:(j:Int)+(k:Int)<=1800:=by omega
          clear hni;go_wp2_with (at_builtin;refine zJ (l:=l) (e:=e) (m:=m) rfl _ _ rfl rfl rfl rfl hown hbz hlz ?_;intro v8 w8 hown8 hg8);have HH8:=A5 (HH5.out.more HEL5.out HLO.out.2 HLO.out.1 hown8 hg8);have HB8:=A5 (HB5.out.grown hg8.grown hbz (fun c hc=>(hown.lt c hc).1));have HL8:Hid ((l++[(e,m)]).length<=j+k):=A5 (by rw [z0J,List.length_singleton];have:=HLL.out;omega);clear hown8 hg8 hown;go_wp2_with fail
          go_roundw
          case rel=>exact ⟨j+k,l++[(e,m)],ver,by omega,by omega,by go_num,rfl,HH8,HN,HB8,HL8⟩
          case measure=>simp [intOf];omega
     | false =>
      have hnB:=of_decide_eq_false hgB
      cases gE with
      | true =>
       have hnm:=of_decide_eq_true hgE;have hlj:Li.AV ls[j]=some (Ev.DD,vl):=by rw [HLJ.out,hnm]
       obtain ⟨C,hC⟩:∃ C,Li.AW vl=C:=⟨_,rfl⟩;have HGR:=A5 (fun w=>QJ vl C w hvl hC);obtain ⟨d,hd⟩:∃ d,decide (C=Ca.DI)=d:=⟨_,rfl⟩;have e4:(C==[86,67,65,76,69,78,68,65,82])=d:=by rw [<- hd,AO];rfl
       have q2:=AH C
       cases d with
       | false =>
        have e5:(C != [86,67,65,76,69,78,68,65,82])=true:=by rw [bne,e4];rfl
        have HN:Hid (R=([],j,14)):=A5 (by rw [HE.out];exact Ca.V3 hlt hlj (by rw [hC];exact of_decide_eq_false hd));clear hgV hgB hgE hnm hlj hd hC hnV hnB;go_wp2_with fail;refine (HSP.out).mono ?_;rintro _ w1 ⟨rfl,hb1⟩;have HB1:=A5 (andthen HB.out hb1);have HH1:=A5 (HH.out.keep hb1);clear hb1;go_wp2_with fail;refine (HGR.out _).mono ?_;rintro _ w2 ⟨rfl,hb2⟩;have HB2:=A5 (andthen HB1.out hb2);have HH2:=A5 (HH1.out.keep hb2);clear hb2;go_wp2_with fail;go_ret3;exact CD HN.out rfl HB2.out
       | true =>
        have e5:(C != [86,67,65,76,69,78,68,65,82])=false:=by rw [bne,e4];rfl
        have hcv:Li.AW vl=Ca.DI:=by rw [hC];exact of_decide_eq_true hd
        by_cases hm:j+1<ls.length
        ·have HN:Hid (R=([],j+1,14)):=A5 (by rw [HE.out];exact Ca.PY hm hlj hcv);have hm1:(j:Int)+1<(ls.length:Int):=by omega
         clear hgV hgB hgE hnm hlj hd hC hnV hnB hm;go_wp2_with fail;refine (HSP.out).mono ?_;rintro _ w1 ⟨rfl,hb1⟩;have HB1:=A5 (andthen HB.out hb1);have HH1:=A5 (HH.out.keep hb1);clear hb1;go_wp2_with fail;refine (HGR.out _).mono ?_;rintro _ w2 ⟨rfl,hb2⟩;have HB2:=A5 (andthen HB1.out hb2);have HH2:=A5 (HH1.out.keep hb2);clear hb2;go_wp2_with fail;go_ret3;exact CD HN.out (by omega) HB2.out
        ·have HN:Hid (R=(l.map Prod.fst,ls.length,0)):=A5 (by rw [HE.out];exact Ca.mC (by omega) hlj hcv);have hm1:¬ (j:Int)+1<(ls.length:Int):=by omega
         clear hgV hgB hgE hnm hlj hd hC hnV hnB hm;go_wp2_with fail;refine (HSP.out).mono ?_;rintro _ w1 ⟨rfl,hb1⟩;have HB1:=A5 (andthen HB.out hb1);have HH1:=A5 (HH.out.keep hb1);clear hb1;go_wp2_with fail;refine (HGR.out _).mono ?_;rintro _ w2 ⟨rfl,hb2⟩;have HB2:=A5 (andthen HB1.out hb2);have HH2:=A5 (HH1.out.keep hb2);clear hb2;go_wp2_with fail;go_ret3;refine ⟨HB2.out,_,l,?_,by rw [HN.out],HH2.out⟩;rw [HN.out];rfl
      | false =>
       have hnE:=of_decide_eq_false hgE;have HN:Hid (R=Ca.DB unU (j+1) ver (l.map Prod.fst) (ls.drop (j+1))):=A5 (by rw [HE.out];exact Ca.XK hlt HLJ.out hnV hnB hnE);have HL1:Hid (l.length<=j+1):=A5 (by have:=HLL.out;omega);clear hgV hgB hgE hnV hnB hnE;go_wp2_with fail;refine (HSP.out).mono ?_;rintro _ w1 ⟨rfl,hb1⟩;have HB1:=A5 (andthen HB.out hb1);have HH1:=A5 (HH.out.keep hb1);clear hb1;go_wp2_with fail
       go_roundw
       case rel=>exact ⟨j+1,l,ver,by omega,by omega,by go_num,rfl,HH1,HN,HB1,HL1⟩
       case measure=>simp [intOf];omega
  ·obtain rfl:j=ls.length:=by omega
   have HN:Hid (R=([],ls.length,14)):=A5 (by rw [HE.out];exact Ca.lZ);go_wp2_with fail;go_ret3;exact CD HN.out rfl HB.out
theorem iA (t:Tx) (w:World) (ht:t.length<=90000) (L:List Tx) (hL:Fo.CJ t=L) :
  Calls prog 42 #[.string (str t)] w fun x w'=>∃ A c,x=.returned (.slice A L.length c)/\L.length<=c/\BU w' A L/\Below w.heap.size w w':=by
 have:=cH (str t) w (by rw [AB];omega);rw [AD,hL] at this;refine this.mono ?_;rintro _ w' ⟨v,rfl,hown,hb⟩;obtain ⟨A,cap,rfl,hr,hc⟩:=BY.row hown;exact ⟨A,cap,rfl,hc,hr,hb⟩
theorem tC (U:Rt.Un) (t:Tx) (ts:List Tx) (nm vl:Tx) (h:Li.AV t=some (nm,vl)):Ca.M6 U (t :: ts)=if nm=Ev.AP/\Li.AW vl=Ca.DI then Ca.DB U 1 false [] ts else ([],0,14):=by
 unfold Ca.M6;simp only [h]
theorem tD (U:Rt.Un) (t:Tx) (ts:List Tx) (h:Li.AV t=none):Ca.M6 U (t :: ts)=([],0,14):=by
 unfold Ca.M6;simp only [h]
theorem bW (s:Tx) (w:World) (hs:s.length<=90000) :
  Calls prog 21 #[.string (str s)] w (YS w (Ca.FU unU s)):=by
 have hsz:((str s).size:Int)=(s.length:Int):=by rw [AB]
 obtain ⟨P,hP⟩:∃ P,Ca.FU unU s=P:=⟨_,rfl⟩;rw [hP];unfold Ca.FU at hP
 by_cases h8:8000<s.length
 ·rw [if_pos h8] at hP;have HP:=A5 hP.symm;have hz:(8000:Int)<((str s).size:Int):=by omega
  clear hP;go_enter func21,ntmps21;go_wp2_with fail;go_ret3;exact CD HP.out rfl (start _)
 ·rw [if_neg h8] at hP;have hz:¬ (8000:Int)<((str s).size:Int):=by omega
  obtain ⟨L,hL⟩:∃ L,Fo.CJ s=L:=⟨_,rfl⟩;have HU:=A5 (iA s w hs L hL);have HUS:Hid (∀ p∈L,p.length<=8400):=A5 (fun p hp=>by have:=Ca.SG s p (hL▸hp);omega);rw [hL] at hP;clear hL hs
  by_cases h2:200<L.length
  ·rw [if_pos h2] at hP;have HP:=A5 hP.symm;have hz2:(200:Int)<(L.length:Int):=by omega
   clear hP;go_enter func21,ntmps21;go_wp2_with fail;refine (HU.out).mono ?_;rintro _ w1 ⟨A,c,rfl,hc,hr,hb⟩;have HB:=A5 hb;clear hb hr;go_wp2_with fail;go_ret3;exact CD HP.out rfl HB.out
  ·rw [if_neg h2] at hP;have hz2:¬ (200:Int)<(L.length:Int):=by omega
   have hL9:L.length<=900:=by omega
   by_cases h0:L.length=0
   ·have hl0:L=[]:=List.eq_nil_of_length_eq_zero h0;have HP:Hid (P=([],0,14)):=A5 (by rw [<- hP,hl0];rfl);have hz3:(((L.length:Nat):Int)==0)=true:=beq_iff_eq.2 (by omega);clear hP hl0;go_enter func21,ntmps21;go_wp2_with fail;refine (HU.out).mono ?_;rintro _ w1 ⟨A,c,rfl,hc,hr,hb⟩;have HB:=A5 hb;clear hb hr;go_wp2_with fail;go_ret3;exact CD HP.out rfl HB.out
   ·obtain ⟨t,ts,hts⟩:∃ t ts,L=t :: ts:=by
     cases L with
     | nil=>exact absurd rfl h0
     | cons a b=>exact ⟨a,b,rfl⟩
    have hz3:(((L.length:Nat):Int)==0)=false:=beq_eq_false_iff_ne.2 (by omega);have hz4:(0:Int)<(L.length:Int):=by omega
    have h1L:1<=L.length:=by omega
    have htl:t.length<=8400:=HUS.out t (by rw [hts];exact List.mem_cons_self);have hl0:∀ h:0<L.length,L[0]=t:=fun h=>by simp [hts]
    have hdr:L.drop 1=ts:=by rw [hts];rfl
    have HL0:=A5 hl0;have hne:L≠[]:=by rw [hts];simp
    have HNE:=A5 hne;have HSP:=A5 (fun w=>WU t w htl);have HEV:=A5 (fun A c w hr hc=>bV A L.length c L w hr rfl hc h1L hL9 HUS.out);rw [hts] at hP
    cases hlt:Li.AV t with
    | none =>
     rw [tD unU t ts hlt] at hP;have HP:=A5 hP.symm;rw [hlt] at HSP;unfold SR at HSP;clear hP hts hl0 hdr hne htl hlt;go_enter func21,ntmps21;go_wp2_with fail;refine (HU.out).mono ?_;rintro _ w1 ⟨A,c,rfl,hc,hr,hb⟩;obtain ⟨b1,o1,rfl,hb1,hc1⟩:=hr HNE.out;have p0:w1.cell? ⟨b1,o1,none⟩=some (.string (str t)):=by have:=hc1 0 h1L;rw [HL0.out] at this;exact this
     have HB:=A5 hb;clear hb hr hc1;go_wp2_with fail;refine (HSP.out _).mono ?_;rintro _ w2 ⟨rfl,hb2⟩;have HB2:=A5 (andthen HB.out hb2);clear hb2;go_wp2_with fail;go_ret3;exact CD HP.out rfl HB2.out
    | some p =>
     obtain ⟨nm,vl⟩:=p;have hvl:vl.length<=8400:=by have:=KB t nm vl hlt;omega
     rw [tC unU t ts nm vl hlt] at hP;rw [hlt] at HSP;unfold SR at HSP;obtain ⟨gB,hgB⟩:∃ g,decide (nm=Ev.AP)=g:=⟨_,rfl⟩;have e3:(nm==[66,69,71,73,78])=gB:=by rw [<- hgB,AO];rfl
     have q1:=AH nm;obtain ⟨C,hC⟩:∃ C,Li.AW vl=C:=⟨_,rfl⟩;have HGR:=A5 (fun w=>QJ vl C w hvl hC);obtain ⟨d,hd⟩:∃ d,decide (C=Ca.DI)=d:=⟨_,rfl⟩;have e4:(C==[86,67,65,76,69,78,68,65,82])=d:=by rw [<- hd,AO];rfl
     have q2:=AH C;rw [hC] at hP;clear hts hl0 hne htl hlt hvl hC
     cases gB with
     | false =>
      have e5:(nm != [66,69,71,73,78])=true:=by rw [bne,e3];rfl
      rw [if_neg (fun q=>of_decide_eq_false hgB q.1)] at hP;have HP:=A5 hP.symm;clear hP hdr hgB hd;go_enter func21,ntmps21;go_wp2_with fail;refine (HU.out).mono ?_;rintro _ w1 ⟨A,c,rfl,hc,hr,hb⟩;obtain ⟨b1,o1,rfl,hb1,hc1⟩:=hr HNE.out;have p0:w1.cell? ⟨b1,o1,none⟩=some (.string (str t)):=by have:=hc1 0 h1L;rw [HL0.out] at this;exact this
      have HB:=A5 hb;clear hb hr hc1;go_wp2_with fail;refine (HSP.out _).mono ?_;rintro _ w2 ⟨rfl,hb2⟩;have HB2:=A5 (andthen HB.out hb2);clear hb2;go_wp2_with fail;go_ret3;exact CD HP.out rfl HB2.out
     | true =>
      have e5:(nm != [66,69,71,73,78])=false:=by rw [bne,e3];rfl
      cases d with
      | false =>
       have e6:(C != [86,67,65,76,69,78,68,65,82])=true:=by rw [bne,e4];rfl
       rw [if_neg (fun q=>of_decide_eq_false hd q.2)] at hP;have HP:=A5 hP.symm;clear hP hdr hgB hd;go_enter func21,ntmps21;go_wp2_with fail;refine (HU.out).mono ?_;rintro _ w1 ⟨A,c,rfl,hc,hr,hb⟩;obtain ⟨b1,o1,rfl,hb1,hc1⟩:=hr HNE.out;have p0:w1.cell? ⟨b1,o1,none⟩=some (.string (str t)):=by have:=hc1 0 h1L;rw [HL0.out] at this;exact this
       have HB:=A5 hb;clear hb hr hc1;go_wp2_with fail;refine (HSP.out _).mono ?_;rintro _ w2 ⟨rfl,hb2⟩;have HB2:=A5 (andthen HB.out hb2);clear hb2;go_wp2_with fail;refine (HGR.out _).mono ?_;rintro _ w3 ⟨rfl,hb3⟩;have HB3:=A5 (andthen HB2.out hb3);clear hb3;go_wp2_with fail;go_ret3;exact CD HP.out rfl HB3.out
      | true =>
       have e6:(C != [86,67,65,76,69,78,68,65,82])=false:=by rw [bne,e4];rfl
       rw [if_pos ⟨of_decide_eq_true hgB,of_decide_eq_true hd⟩,<- hdr] at hP;have HP:=A5 hP;clear hP hdr hgB hd;go_enter func21,ntmps21;go_wp2_with fail;refine (HU.out).mono ?_;rintro _ w1 ⟨A,c,rfl,hc,hr,hb⟩;have HRW:=A5 hr;obtain ⟨b1,o1,rfl,hb1,hc1⟩:=hr HNE.out;have p0:w1.cell? ⟨b1,o1,none⟩=some (.string (str t)):=by have:=hc1 0 h1L;rw [HL0.out] at this;exact this
       have HB:=A5 hb;clear hb hr hc1;go_wp2_with fail;refine (HSP.out _).mono ?_;rintro _ w2 ⟨rfl,hb2⟩;have HB2:=A5 (andthen HB.out hb2);have HRW2:=A5 (HRW.out.keep hb2);clear hb2;go_wp2_with fail;refine (HGR.out _).mono ?_;rintro _ w3 ⟨rfl,hb3⟩;have HB3:=A5 (andthen HB2.out hb3);have HRW3:=A5 (HRW2.out.keep hb3);clear hb3;go_wp2_with fail;refine (HEV.out _ _ w3 HRW3.out hc).mono ?_;rw [HP.out];rintro _ w4 ⟨hb4,v,l,rfl,hl,hh⟩;have HB4:=A5 (andthen HB3.out hb4);have HH4:=A5 (hh.down HB3.out.size);have HLE:=A5 hl;obtain ⟨A2,c2,rfl,_⟩:=GP.row hh.own;clear hb4 hl hh;go_wp2_with fail;go_ret3;exact ⟨HB4.out,_,l,rfl,HLE.out,HH4.out⟩
end Go.Proofs.YtfecnkhoojnkbaaGreatDoor

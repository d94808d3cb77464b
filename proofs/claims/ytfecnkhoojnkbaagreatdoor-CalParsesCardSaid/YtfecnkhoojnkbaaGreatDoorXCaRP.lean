import Derived.Test.YtfecnkhoojnkbaaGreatDoorXEvRC
set_option maxHeartbeats 8000000
set_option maxRecDepth 1000000
namespace Go.Proofs.YtfecnkhoojnkbaaGreatDoor
open Go.RowKit Rul Rt Go.Sort Tryz
theorem tE:(⟨#[66,69,71,73,78,58,86,67,65,76,69,78,68,65,82,13,10,86,69,82,83,73,79,78,58,50,46,48,13,10]⟩:ByteArray)=str (upC []):=by
 rw [zL,Ca.MK _ (by decide)];rfl
theorem zS:(⟨#[69,78,68,58,86,67,65,76,69,78,68,65,82,13,10]⟩:ByteArray)=str (Fo.flat [Ca.RA]):=by
 rw [Ca.MK _ (by decide)];rfl
theorem tF (e:Ev.E) (m:Mem) (b:Bool) (w:World) (h:EvL w e m) (hb:Ev.isE e=b) :
  Calls prog 18 #[evV e m] w (Ans w (.bool b)):=by subst hb;exact TL e m w h
theorem o6 (e:Ev.E) (m:Mem) (w:World) (h:EvL w e m) (L:List Tx) (hL:Ev.BL unU e=L) :
  Calls prog 19 #[evV e m] w fun x w'=>∃ A c,x=.returned (.slice A L.length c)/\BU w' A L/\Below w.heap.size w w':=by
 subst hL;refine (iH e m w h).mono ?_;rintro _ w' ⟨v,rfl,hown,hb⟩;obtain ⟨A,cap,rfl,hr,_⟩:=BY.row hown;exact ⟨A,cap,rfl,hr,hb⟩
theorem tG (t r:Tx) (w:World) (ht:t.length<=100000) (h:Fo.DT t=r):Calls prog 20 #[.string (str t)] w (Ans w (.string (str r))):=by
 have:=oF (str t) w (by rw [AB];exact ht);rw [AD,h] at this;exact this
def tH (w:World) (es:List Ev.E) (e:Ending) (w':World):Prop:=Below w.heap.size w w'/\e=.returned (.tuple #[.string (str (Ca.FB unU es).1),.int .i64 (Ca.FB unU es).2])
theorem RR {w w':World} {es:List Ev.E} (h:Ca.okC es=false) (hb:Below w.heap.size w w'):tH w es (.returned (.tuple #[.string ⟨#[]⟩,.int .i64 14])) w':=by
 refine ⟨hb,?_⟩;unfold Ca.FB;rw [h,if_neg (by decide)];rfl
theorem bX:∀ l:List Ev.E,(Fo.flat (Ca.JY unU l)).length<=l.length*139000
 | []=>by simp [Ca.JY,Fo.flat]
 | e :: l=>by
  have h1:=bX l;have h2:=YL e;have h3:Ca.JY unU (e :: l)=Ev.BL unU e++Ca.JY unU l:=rfl;rw [h3,J8,z0J,List.length_cons,Nat.add_mul,Nat.one_mul];omega
theorem kY (l:List Ev.E):(upC l).length<=300+l.length*139000:=by
 have h1:=bX l;have h2:upC l=Fo.flat [Ca.IN,Ca.SS]++Fo.flat (Ca.JY unU l):=by
  unfold upC;rw [<- J8];rfl
 have h3:(Fo.flat [Ca.IN,Ca.SS]).length<=300:=Nat.le_trans (J7 30 _ (by decide)) (by decide);rw [h2,z0J];omega
theorem bY (A:Option Addr) (n c:Nat) (l:List EM) (w:World) (hl:GD w A l) (hn:n=l.length) (hsz:l.length<=1000) (hb:KV w l) :
  Calls prog 10 #[.slice A n c] w (tH w (l.map Prod.fst)):=by
 subst hn;have HR:=A5 hl;have HL:=A5 hb;clear hl hb;obtain ⟨es,hes⟩:∃ es,l.map Prod.fst=es:=⟨_,rfl⟩;rw [hes];have hel:es.length=l.length:=by rw [<- hes,List.length_map]
 have HG:Hid (∀ (j:Nat) (h:j<l.length),es[j]'(by rw [hel];exact h)=l[j].1):=A5 (fun j h=>by simp only [<- hes,List.getElem_map]);have HST:Hid ((.string ⟨#[66,69,71,73,78,58,86,67,65,76,69,78,68,65,82,13,10,86,69,82,83,73,79,78,58,50,46,48,13,10]⟩:Value)=.string (str (upC (es.take 0)))):=A5 (by rw [tE,List.take_zero]);clear hes;go_enter func10,ntmps10;go_wp2_with fail
 go_loopw [4,5,6,7,8] (fun s i _ _ _ wr=>∃ j:Nat,j<=l.length/\i=.int .i64 j/\s=.string (str (upC (es.take j)))/\Hid (Ca.okC (es.take j)=true)/\Hid (Below w.heap.size w wr)) (fun _ i _ _ _ _=>l.length-(intOf i).toNat)
 case atStart=>exact ⟨0,Nat.zero_le _,rfl,HST.out,A5 rfl,A5 (start w)⟩
 case round =>
  obtain ⟨j,hj,rfl,rfl,HO,HB⟩:=hrel
  by_cases hlt:j<l.length
  ·obtain ⟨b1,o1,rfl,hb1,hc1⟩:=HR.out (by intro h0;rw [h0] at hlt;exact absurd hlt (Nat.not_lt_zero _));have hje:j<es.length:=by rw [hel];exact hlt
   obtain ⟨p,hp⟩:∃ p,l[j]=p:=⟨_,rfl⟩;obtain ⟨e,m⟩:=p;have h13:=hc1 j hlt;have hem:=HL.out l[j] (List.getElem_mem _);have hge:=HG.out j hlt;rw [hp] at h13 hem hge;have HTK:Hid (es.take (j+1)=es.take j++[e]):=A5 (by rw [List.take_succ_eq_append_getElem hje,hge]);have H13:=A5 h13;have HC1:=A5 (And.intro hb1 hc1);have HEM:=A5 hem;obtain ⟨p0,p1,p2,p3,p4,p5,p6,p7,p8,p9,p10,p11,p12⟩:=(h13.keep HB.out).all;have hi0:(0:Int)<=(j:Int):=by omega
   have hi1:(j:Int)<(l.length:Int):=by omega
   have hem2:=hem.keep HB.out
   cases hi:Ev.isE e with
   | false =>
    have HF:Hid (Ca.okC es=false):=A5 (Ca.TJ (k:=j+1) (by rw [HTK.out,Ca.MJ,hi];simp));have HI:=A5 (tF e m false _ hem2 hi);clear hem2 h13 hem hge hp hi hc1;go_wp2_with fail;refine (HI.out).mono ?_;rintro _ w1 ⟨rfl,hb2⟩;have HB3:=A5 (andthen HB.out hb2);clear hb2;go_wp2_with fail;go_ret2;exact RR HF.out HB3.out
   | true =>
    have HI:=A5 (tF e m true _ hem2 hi);have HIE:=A5 hi;obtain ⟨G,hG⟩:∃ G,upC (es.take j)=G:=⟨_,rfl⟩;have hGL:G.length<=300+j*139000:=by rw [<- hG];have:=kY (es.take j);rw [List.length_take,Nat.min_eq_left (by omega)] at this;exact this
    have HGL:Hid (G.length<=139000300):=A5 (by have:=Nat.mul_le_mul_right 139000 (show j<=1000 by omega);omega);have HUP:Hid (upC (es.take (j+1))=G++Fo.flat (Ev.BL unU e)):=A5 (by rw [HTK.out,bC,hG]);rw [hG];clear hem2 h13 hem hge hp hi hc1 hG hGL p0 p1 p2 p3 p4 p5 p6 p7 p8 p9 p10 p11 p12;obtain ⟨p0,p1,p2,p3,p4,p5,p6,p7,p8,p9,p10,p11,p12⟩:=(H13.out.keep HB.out).all;go_wp2_with fail;refine (HI.out).mono ?_;rintro _ w1 ⟨rfl,hb2⟩;have HB1:=A5 (andthen HB.out hb2);clear hb2 p0 p1 p2 p3 p4 p5 p6 p7 p8 p9 p10 p11 p12;go_wp2_with fail
    go_loopw [6] (fun s wx=>∃ k:Nat,k<=j/\s=.int .i64 k/\Hid (∀ (i:Nat) (h:i<k) (h2:i<es.length),es[i].uid≠e.uid)/\Hid (Below w.heap.size w wx)) (fun s _=>j-(intOf s).toNat)
    case atStart=>exact ⟨0,Nat.zero_le _,rfl,A5 (fun i h=>absurd h (Nat.not_lt_zero _)),HB1⟩
    case round =>
     obtain ⟨k,hk,rfl,HU,HBX⟩:=hrel
     by_cases hkj:k<j
     ·have hkl:k<l.length:=by omega
      have hke:k<es.length:=by omega
      obtain ⟨u,hu⟩:∃ u,es[k].uid=u:=⟨_,rfl⟩;have r0:wr.cell? ⟨b1,o1+k*13,none⟩=some (.string (str u)):=by
       have:=((HC1.out.2 k hkl).keep HBX.out).all.1;rw [<- HG.out k hkl,hu] at this;exact this
      have p0:wr.cell? ⟨b1,o1+j*13,none⟩=some (.string (str e.uid)):=(H13.out.keep HBX.out).all.1;have hk0:(0:Int)<=(k:Int):=by omega
      have hk1:(k:Int)<(l.length:Int):=by omega
      have hk2:(k:Int)<(j:Int):=by omega
      have q1:=AH u;have q2:=AH e.uid;have HB2:=A5 (fun a=>AJ HBX.out a)
      by_cases hq:u=e.uid
      ·have HF:Hid (Ca.okC es=false):=A5 (Ca.TJ (k:=j+1) (by
        rw [HTK.out,Ca.MJ];have:e.uid∈Ca.CB (es.take j):=by
         unfold Ca.CB;rw [List.map_take,List.mem_iff_getElem];exact ⟨k,by rw [List.length_take,List.length_map];omega,by rw [List.getElem_take,List.getElem_map,hu,hq]⟩
        rw [z0H this];simp))
       have q3:(u==e.uid)=true:=by rw [AO,z0H hq]
       clear hu hq;go_wp2_with fail;go_quiet (fail);have HB3:=A5 (HB2.out nq);generalize wr.drewN nq=wq at *;clear HB2;go_wp2_with fail;go_ret2;exact RR HF.out HB3.out
      ·have q3:(u==e.uid)=false:=by rw [AO,z0G hq]
       have HN:Hid (∀ (i:Nat) (h:i<k+1) (h2:i<es.length),es[i].uid≠e.uid):=A5 (fun i h h2=>by
        rcases (by omega:i<k∨i=k) with g|rfl
        ·exact HU.out i g h2
        ·rw [hu];exact hq)
       clear hu hq;go_wp2_with fail;go_quiet (fail);have HB3:=A5 (HB2.out nq);generalize wr.drewN nq=wq at *;clear HB2;go_wp2_with fail
       go_roundw
       case rel=>exact ⟨k+1,by omega,by go_num,HN,HB3⟩
       case measure=>simp [intOf];omega
     ·obtain rfl:k=j:=by omega
      have HOK:Hid (Ca.okC (es.take (k+1))=true):=A5 (by
       have hni:e.uid∉Ca.CB (es.take k):=fun g=>by
        unfold Ca.CB at g;rw [List.map_take,List.mem_iff_getElem] at g;obtain ⟨i,hi,g⟩:=g;rw [List.length_take,List.length_map] at hi;rw [List.getElem_take,List.getElem_map] at g;exact HU.out i (by omega) (by omega) g
       rw [HTK.out,Ca.MJ,HO.out,HIE.out,z0G hni];rfl)
      obtain ⟨L,hL⟩:∃ L,Ev.BL unU e=L:=⟨_,rfl⟩;have HLN:=A5 (o6 e m wr (HEM.out.keep HBX.out) L hL);have HLB:Hid ((∀ p∈L,p.length<=7700)/\L.length<=9):=A5 (hL▸QG e);rw [hL] at HUP;obtain ⟨p0,p1,p2,p3,p4,p5,p6,p7,p8,p9,p10,p11,p12⟩:=(H13.out.keep HBX.out).all;clear hL;go_wp2_with fail;refine (HLN.out).mono ?_;rintro _ w2 ⟨AL,cl,rfl,hrl,hb3⟩;have HRL:=A5 hrl;have HB4:=A5 (andthen HBX.out hb3);clear hrl hb3 p0 p1 p2 p3 p4 p5 p6 p7 p8 p9 p10 p11 p12;have HS0:Hid ((.string (str G):Value)=.string (str (G++Fo.flat (L.take 0)))):=A5 (by rw [List.take_zero];simp [Fo.flat]);go_wp2_with fail
      go_loopw [4,8] (fun s x wr=>∃ i:Nat,i<=L.length/\x=.int .i64 i/\s=.string (str (G++Fo.flat (L.take i)))/\Hid (Below w2.heap.size w2 wr)) (fun _ x _=>L.length-(intOf x).toNat)
      case atStart=>exact ⟨0,Nat.zero_le _,rfl,HS0.out,A5 (start w2)⟩
      case round =>
       obtain ⟨i,hil,rfl,rfl,HBY⟩:=hrel
       by_cases hlt2:i<L.length
       ·obtain ⟨b2,o2,rfl,hb2,hc2⟩:=HRL.out (by intro h0;rw [h0] at hlt2;exact absurd hlt2 (Nat.not_lt_zero _));obtain ⟨t,ht⟩:∃ t,L[i]=t:=⟨_,rfl⟩;have p0:wr.cell? ⟨b2,o2+i,none⟩=some (.string (str t)):=(HBY.out.cell (p:=⟨b2,_,none⟩) hb2).trans (by rw [<- ht];exact hc2 i hlt2);have htl:=HLB.out.1 L[i] (List.getElem_mem _);rw [ht] at htl;have HFO:=A5 (fun w=>tG t _ w (by omega) rfl);have hfl:(Fo.DT t).length<=20000:=by have:=Fo.N4 t;omega
        have hgl:(Fo.flat (L.take i)).length<=1000000:=by
         have h1:=J7 7700 (L.take i) (fun p hp=>HLB.out.1 p (List.mem_of_mem_take hp));have h2:=Nat.mul_le_mul_right (2*7700+6) (show (L.take i).length<=9 by have:=HLB.out.2;rw [List.length_take];omega);omega
        have HNX:Hid (((G++Fo.flat (L.take i))++Fo.DT t)++Fo.crlf=G++Fo.flat (L.take (i+1))):=A5 (by rw [List.take_succ_eq_append_getElem hlt2,Fo.R3,ht];simp [List.append_assoc]);have hi2:(0:Int)<=(i:Int):=by omega
        have hLB:=HLB.out.2;have hi3:(i:Int)<(L.length:Int):=by omega
        obtain ⟨T1,hT1⟩:∃ T,G++Fo.flat (L.take i)=T:=⟨_,rfl⟩;have hTL:T1.length<=150000000:=by rw [<- hT1,z0J];have:=HGL.out;omega
        rw [hT1] at HNX ⊢;obtain ⟨F,hF⟩:∃ F,Fo.DT t=F:=⟨_,rfl⟩;rw [hF] at HNX HFO hfl;have z1:(str T1).size<=150000000:=by rw [AB];exact hTL
        have z2:(str F).size<=20000:=by rw [AB];exact hfl
        have HSE:Hid ((str T1++str F)++(⟨#[13,10]⟩:ByteArray)=str (T1++F++Fo.crlf)):=A5 (by rw [show (⟨#[13,10]⟩:ByteArray)=str Fo.crlf from rfl,AM,AM]);clear ht htl hc2 hT1 hF hgl;go_wp2_with fail;refine (HFO.out _).mono ?_;rintro _ w4 ⟨rfl,hb5⟩;have HB5:=A5 (andthen HBY.out hb5);clear hb5;go_wp2_with fail
        go_roundw
        case rel=>exact ⟨i+1,by omega,by go_num,by rw [HSE.out,HNX.out],HB5⟩
        case measure=>simp [intOf];omega
       ·obtain rfl:i=L.length:=by omega
        have HEQ:Hid (G++Fo.flat (L.take L.length)=upC (es.take (k+1))):=A5 (by rw [List.take_length,HUP.out]);rw [HEQ.out];have HBF:=A5 (HB4.out.trans (HBY.out.mono HB4.out.size));go_wp2_with fail
        go_roundw
        case rel=>exact ⟨k+1,by omega,by go_num,rfl,HOK,HBF⟩
        case measure=>simp [intOf];omega
  ·obtain rfl:j=l.length:=by omega
   have hta:es.take l.length=es:=List.take_of_length_le (by omega);rw [hta] at HO ⊢;have hGL:=kY es;rw [hel] at hGL;have hGM:=Nat.mul_le_mul_right 139000 (show l.length<=1000 by omega);have HTX:Hid (str (upC es)++(⟨#[69,78,68,58,86,67,65,76,69,78,68,65,82,13,10]⟩:ByteArray)=str (Ca.CK unU es)):=A5 (by rw [zS,AM,<- TT]);obtain ⟨T,hT⟩:∃ T,Ca.CK unU es=T:=⟨_,rfl⟩;have HT:=A5 hT;rw [hT] at HTX;have z1:(str (upC es)).size<=150000000:=by rw [AB];omega
   obtain ⟨Z,hZ⟩:∃ Z,str (upC es)++(⟨#[69,78,68,58,86,67,65,76,69,78,68,65,82,13,10]⟩:ByteArray)=Z:=⟨_,rfl⟩;have hZT:Z=str T:=hZ.symm.trans HTX.out;have hzs:(Z.size:Int)=(T.length:Int):=by rw [hZT,AB]
   have HZT:=A5 hZT;clear hT hta hGL hGM hZT;generalize upC es=G at *
   by_cases hbig:8000<T.length
   ·have hz:(8000:Int)<(Z.size:Int):=by omega
    go_wp2_with fail;go_ret2;refine ⟨HB.out,?_⟩;unfold Ca.FB;rw [HO.out,if_pos rfl,HT.out,if_pos hbig];rfl
   ·have hz:¬ (8000:Int)<(Z.size:Int):=by omega
    go_wp2_with fail;go_ret2;refine ⟨HB.out,?_⟩;unfold Ca.FB;rw [HO.out,if_pos rfl,HT.out,if_neg hbig]
    first|rfl|(rw [HZT.out];rfl)
end Go.Proofs.YtfecnkhoojnkbaaGreatDoor

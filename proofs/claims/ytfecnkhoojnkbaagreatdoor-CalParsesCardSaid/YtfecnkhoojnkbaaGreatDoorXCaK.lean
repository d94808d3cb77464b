import Derived.Test.YtfecnkhoojnkbaaGreatDoorXC7
import Derived.Test.YtfecnkhoojnkbaaGreatDoorXW14
import Derived.Test.YtfecnkhoojnkbaaGreatDoorXCaF
import Derived.Test.YtfecnkhoojnkbaaGreatDoorXCaRS
import Derived.Test.YtfecnkhoojnkbaaGreatDoorXCaHL
import Derived.Test.YtfecnkhoojnkbaaGreatDoorXCaHP
set_option maxHeartbeats 8000000
set_option maxRecDepth 1000000
namespace Go.Proofs.YtfecnkhoojnkbaaGreatDoor
open Go.RowKit Rul Rt Go.Sort Go.Proofs.Tryz
def WT (e:Ev.E):Bool:=IT e.r.ds.length e.r.ms.length e.r.ys.length e.uid.length e.text.length e.rooms.length e.ex.length
def M9 (l:List Ev.E):Bool:=l.all WT&&decide (l.length<=10)
theorem zQ (e:Ev.E) (m:Mem) (b:Bool) (w:World) (h:WT e=b) :
  Calls prog 15 #[evV e m] w (Ans w (.bool b)):=by
 have:=sY (str e.uid) (str e.text) e.st e.lg m.O e.rooms.length m.oc e.r.fr e.r.ev e.r.ct e.r.un m.D m.M m.Y m.X e.r.ds.length m.dc e.r.ms.length m.mc e.r.ys.length m.yc e.ex.length m.xc w;rw [AB,AB] at this;unfold WT at h;rw [h] at this;exact this
theorem nX (A:Option Addr) (n c:Nat) (l:List EM) (w:World) (hl:GD w A l) (hn:n=l.length) (hm:l.length<=maxLen) :
  Calls prog 8 #[.slice A n c] w (Ans w (.bool (M9 (l.map Prod.fst)))):=by
 subst hn;have HR:=A5 hl;clear hl;unfold maxLen at hm;obtain ⟨es,hes⟩:∃ es,l.map Prod.fst=es:=⟨_,rfl⟩;rw [hes];have hel:es.length=l.length:=by rw [<- hes,List.length_map]
 have HG:Hid (∀ (j:Nat) (h:j<l.length),es[j]'(by rw [hel];exact h)=l[j].1):=A5 (fun j h=>by simp only [<- hes,List.getElem_map]);clear hes;go_enter func8,ntmps8;go_wp2_with fail
 go_loopw [3] (fun i wr=>∃ j:Nat,j<=l.length/\i=.int .i64 j/\Hid ((es.take j).all WT=true)/\Hid (Below w.heap.size w wr)) (fun i _=>l.length-(intOf i).toNat)
 case atStart=>exact ⟨0,Nat.zero_le _,rfl,A5 rfl,A5 (start w)⟩
 case round =>
  obtain ⟨j,hj,rfl,HO,HB⟩:=hrel
  by_cases hlt:j<l.length
  ·obtain ⟨b1,o1,rfl,hb1,hc1⟩:=HR.out (by intro h0;rw [h0] at hlt;exact absurd hlt (Nat.not_lt_zero _));have hje:j<es.length:=by rw [hel];exact hlt
   obtain ⟨p,hp⟩:∃ p,l[j]=p:=⟨_,rfl⟩;obtain ⟨e,m⟩:=p;have h13:=hc1 j hlt;have hge:=HG.out j hlt;rw [hp] at h13 hge;have HTK:Hid (es.take (j+1)=es.take j++[e]):=A5 (by rw [List.take_succ_eq_append_getElem hje,hge]);have hee:e∈es:=by have h2:es[j]=e:=hge;exact h2▸List.getElem_mem hje
   obtain ⟨p0,p1,p2,p3,p4,p5,p6,p7,p8,p9,p10,p11,p12⟩:=(h13.keep HB.out).all;have hi0:(0:Int)<=(j:Int):=by omega
   have hi1:(j:Int)<(l.length:Int):=by omega
   obtain ⟨b,hb⟩:∃ b,WT e=b:=⟨_,rfl⟩;have HF:=A5 (zQ e m b wr hb);have HN:Hid ((es.take (j+1)).all WT=b):=A5 (by rw [HTK.out,List.all_append,HO.out];simp [hb]);have HEV:Hid (b=false->M9 es=false):=A5 (fun hf=>by
    unfold M9;rw [Bool.and_eq_false_iff]
    left
    rw [List.all_eq_false];exact ⟨e,hee,by rw [hb,hf];decide⟩)
   clear h13 hge hp hb hc1 hee;go_wp2_with fail;refine (HF.out).mono ?_;rintro _ w1 ⟨rfl,hb2⟩;have HB2:=A5 (andthen HB.out hb2);clear hb2
   cases b with
   | false =>
    have HFE:Hid (M9 es=false):=A5 (HEV.out rfl);go_wp2_with fail;go_ret;exact ⟨AA (by rw [HFE.out]),HB2.out⟩
   | true =>
    go_wp2_with fail
    go_roundw
    case rel=>exact ⟨j+1,by omega,by go_num,HN,HB2⟩
    case measure=>simp [intOf];omega
  ·obtain rfl:j=l.length:=by omega
   have hta:es.take l.length=es:=List.take_of_length_le (by omega);rw [hta] at HO;have HFF:Hid (M9 es=decide (l.length<=10)):=A5 (by unfold M9;rw [HO.out,hel];rfl)
   by_cases h10:l.length<=10
   ·have hz:((l.length:Nat):Int)<=10:=by omega
    have hzd:decide (((l.length:Nat):Int)<=10)=true:=z0H hz;go_wp2_with fail;go_ret;exact ⟨AA (by rw [HFF.out,z0H h10]),HB.out⟩
   ·have hz:¬ ((l.length:Nat):Int)<=10:=by omega
    have hzd:decide (((l.length:Nat):Int)<=10)=false:=z0G hz;go_wp2_with fail;go_ret;exact ⟨AA (by rw [HFF.out,z0G h10]),HB.out⟩
theorem zR {w:World} {l:List EM} (h:M9 (l.map Prod.fst)=true) (hr:∀ p∈l,EvR w p.1 p.2):KV w l/\l.length<=10:=by
 unfold M9 at h;rw [Bool.and_eq_true,decide_eq_true_eq,List.length_map] at h;refine ⟨fun p hp=>?_,h.2⟩;have h1:=List.all_eq_true.1 h.1 p.1 (List.mem_map.2 ⟨p,hp,rfl⟩);have h2:=(nS _ _ _ _ _ _ _).1 h1;exact (hr p hp).to (by omega) (by omega) (by omega) (by omega) (by omega) (by omega) (by omega)
theorem bT (w:World) (e:Ev.E) (m:Mem) (t:TypeId):GD (w.alloc (.cells (E8 e m).toArray t)) (some ⟨w.heap.size,0,none⟩) [(e,m)]:=fun _=>by
 refine ⟨w.heap.size,0,rfl,by simp,fun i hi=>⟨fun j hj=>?_⟩⟩;obtain rfl:i=0:=by simpa using hi
 rw [World.cell?_alloc_at _ _ _ _ rfl];simp
theorem tB (w:World) (e f:Ev.E) (m q:Mem) (t:TypeId):GD (w.alloc (.cells (E8 e m++E8 f q).toArray t)) (some ⟨w.heap.size,0,none⟩) [(e,m),(f,q)]:=fun _=>by
 refine ⟨w.heap.size,0,rfl,by simp,fun i hi=>⟨fun j hj=>?_⟩⟩;rw [World.cell?_alloc_at _ _ _ _ rfl];rcases (by simp at hi;omega:i=0∨i=1) with rfl|rfl
 ·have:=KU [(e,m),(f,q)] 0 (by simp) j hj
  simpa [GC] using this
 ·have:=KU [(e,m),(f,q)] 1 (by simp) j hj
  simpa [GC] using this
def mH (b:Nat):Mem:=⟨some ⟨b,0,none⟩,1,none,0,none,0,none,0,none,0⟩
theorem U2 {w:World} {b:Nat} (h:BS w (some ⟨b,0,none⟩) [3]):EvL w AN (mH b):=⟨h,by decide,C7 _,fun h=>absurd rfl h,by decide,by decide,by decide⟩
theorem nY (w:World) (t:TypeId):BS (w.alloc (.cells #[.int .i64 3] t)) (some ⟨w.heap.size,0,none⟩) [3]:=fun _=>by
 refine ⟨w.heap.size,0,rfl,by simp,fun i hi=>?_⟩;obtain rfl:i=0:=by simpa using hi
 rw [World.cell?_alloc_at _ _ _ _ rfl];rfl
theorem gX (A:Addr) (c:Nat) (m:Mem) (w:World) (hr:GD w (some A) [(AN,m)]) (hl:EvL w AN m) (he:EE w) :
  Calls prog 9 #[.slice (some A) 1 c] w fun e w'=>e=.returned (.tuple #[.string (str (Ca.CK unU [AN])),.int .i64 0])/\Below w.heap.size w w':=by
 refine (TX (some A) 1 c [(AN,m)] w hr rfl (by simp) (fun p hp=>by rw [List.mem_singleton] at hp;subst hp;exact hl) he (fun p hp w h t L hL=>by rw [List.mem_singleton] at hp;subst hp;exact QH m w h t L hL)).mono ?_;rintro e w' ⟨hb,hx⟩;have h2:Ca.FB unU (List.map Prod.fst [(AN,m)])=(Ca.CK unU [AN],0):=bF;rw [h2] at hx;exact ⟨hx,hb⟩
theorem nZ (A:Addr) (c:Nat) (m:Mem) (w:World) (hr:GD w (some A) [(AN,m),(AN,m)]) (hl:EvL w AN m) (he:EE w) :
  Calls prog 9 #[.slice (some A) 2 c] w fun e w'=>e=.returned (.tuple #[.string (str []),.int .i64 14])/\Below w.heap.size w w':=by
 refine (TX (some A) 2 c [(AN,m),(AN,m)] w hr rfl (by simp) (fun p hp=>by rcases List.mem_cons.1 hp with rfl|hp;exact hl;rw [List.mem_singleton] at hp;subst hp;exact hl) he (fun p hp w h t L hL=>by rcases List.mem_cons.1 hp with rfl|hp;exact QH m w h t L hL;rw [List.mem_singleton] at hp;subst hp;exact QH m w h t L hL)).mono ?_;rintro e w' ⟨hb,hx⟩;have h2:Ca.FB unU (List.map Prod.fst [(AN,m),(AN,m)])=([],14):=YM;rw [h2] at hx;exact ⟨hx,hb⟩
theorem QI (t:Tx) (es:List Ev.E) (k:Nat) (z:Int) (w:World) (ht:t.length<=90000) (he:EE w) (h:Ca.FU unU t=(es,k,z)) :
  Calls prog 12 #[.string (str t)] w fun e w'=>Below w.heap.size w w'/\∃ A c l,e=.returned (.tuple #[.slice A es.length c,.int .i64 k,.int .i64 z])/\l.map Prod.fst=es/\GD w' A l/\KV w' l:=by
 refine (gU t w ht he).mono ?_;rw [h];rintro e w' ⟨hb,v,l,rfl,hl,hh⟩;obtain ⟨A,c,rfl,hr⟩:=GP.row hh.own;have hl2:l.map Prod.fst=es:=hl;have hll:es.length=l.length:=by rw [<- hl2,List.length_map]
 exact ⟨hb,A,c,l,by rw [hll],hl2,hr,hh.ls⟩
theorem kX (A A2:Option Addr) (n c c2:Nat) (l k:List EM) (es:List Ev.E) (w:World) (hl:GD w A l) (hk:GD w A2 k) (h1:KV w l) (h2:KV w k) (e1:l.map Prod.fst=es) (e2:k.map Prod.fst=es) (hn:n=es.length) (hsz:es.length<=1000000) :
  Calls prog 13 #[.slice A n c,.slice A2 n c2] w (Ans w (.bool true)) :=
 cA A A2 n n c c2 l k w hl hk (by rw [hn,<- e1,List.length_map]) (by rw [hn,<- e2,List.length_map]) (by rw [<- e1,List.length_map] at hsz;exact hsz) h1 h2 (e1.trans e2.symm)
theorem o4:(Ca.CK unU [AN]).length<=90000:=Nat.le_trans M8 (by decide)
theorem JS (w:World) (he:EE w):Calls prog 7 #[] w (Ans w (.bool true)):=by
 have HE:=A5 he;have HR0:=A5 (nY w 3);have HB0:=A5 (more (start w) (.cells #[.int .i64 3] 3));clear he;go_enter func7,ntmps7;go_wp2_with fail;refine (R.DE _).mono ?_;rintro _ w2 ⟨rfl,hb2⟩;have HB2:=A5 (andthen HB0.out hb2);have HR2:=A5 (HR0.out.keep hb2);clear hb2;go_wp2_with fail;obtain ⟨EB,hEB⟩:∃ N,w2.heap.size=N:=⟨_,rfl⟩;obtain ⟨W3,hW3⟩:∃ W,w2.alloc (.cells #[.string ⟨#[97]⟩,.string ⟨#[]⟩,.int .i64 90,.int .i64 60,.slice (some ⟨w.heap.size,0,none⟩) 1 1,.int .i64 0,.int .i64 0,.int .i64 0,.int .i64 (-1),.slice none 0 0,.slice none 0 0,.slice none 0 0,.slice none 0 0] 47)=W:=⟨_,rfl⟩;have HK3:Hid (AX W3 EB [.string ⟨#[97]⟩,.string ⟨#[]⟩,.int .i64 90,.int .i64 60,.slice (some ⟨w.heap.size,0,none⟩) 1 1,.int .i64 0,.int .i64 0,.int .i64 0,.int .i64 (-1),.slice none 0 0,.slice none 0 0,.slice none 0 0,.slice none 0 0]):=A5 (by rw [<- hW3,<- hEB];exact DY w2 #[.string ⟨#[97]⟩,.string ⟨#[]⟩,.int .i64 90,.int .i64 60,.slice (some ⟨w.heap.size,0,none⟩) 1 1,.int .i64 0,.int .i64 0,.int .i64 0,.int .i64 (-1),.slice none 0 0,.slice none 0 0,.slice none 0 0,.slice none 0 0] 47);have hs3:W3.heap.size=EB+1:=by rw [<- hW3,World.size_alloc,hEB]
 have HB3:Hid (Below w.heap.size w W3):=A5 (by rw [<- hW3];exact andthen HB2.out (more (start w2) _));have HR3:Hid (BS W3 (some ⟨w.heap.size,0,none⟩) [3]):=A5 (by rw [<- hW3];exact HR2.out.keep (more (start w2) _));rw [hW3,hEB];have hb4:=more (start W3) (.cells #[.string ⟨#[97]⟩,.string ⟨#[]⟩,.int .i64 90,.int .i64 60,.slice (some ⟨w.heap.size,0,none⟩) 1 1,.int .i64 0,.int .i64 0,.int .i64 0,.int .i64 (-1),.slice none 0 0,.slice none 0 0,.slice none 0 0,.slice none 0 0] 47);have HK4:=A5 (HK3.out.keep hb4);have HB4:=A5 (andthen HB3.out hb4);have HR4:=A5 (HR3.out.keep hb4);have hrow4:GD (W3.alloc (.cells #[.string ⟨#[97]⟩,.string ⟨#[]⟩,.int .i64 90,.int .i64 60,.slice (some ⟨w.heap.size,0,none⟩) 1 1,.int .i64 0,.int .i64 0,.int .i64 0,.int .i64 (-1),.slice none 0 0,.slice none 0 0,.slice none 0 0,.slice none 0 0] 47)) (some ⟨EB+1,0,none⟩) [(AN,mH w.heap.size)]:=by have:=bT W3 AN (mH w.heap.size) 47;rw [hs3] at this;exact this
 clear hW3 hb4;generalize W3.alloc (.cells #[.string ⟨#[97]⟩,.string ⟨#[]⟩,.int .i64 90,.int .i64 60,.slice (some ⟨w.heap.size,0,none⟩) 1 1,.int .i64 0,.int .i64 0,.int .i64 0,.int .i64 (-1),.slice none 0 0,.slice none 0 0,.slice none 0 0,.slice none 0 0] 47)=W4 at *;refine (gX ⟨EB+1,0,none⟩ 1 (mH w.heap.size) W4 hrow4 (U2 HR4.out) (HE.out.keep HB4.out)).mono ?_;rintro _ w5 ⟨rfl,hb5⟩;have HK5:=A5 (HK4.out.keep hb5);have HB5:=A5 (andthen HB4.out hb5);have HR5:=A5 (HR4.out.keep hb5);clear hb5 hrow4;go_wp2_with fail;refine (QI _ [AN] 9 0 w5 o4 (HE.out.keep HB5.out) bS).mono ?_;rintro _ w6 ⟨hb6,A6,c6,l6,rfl,hl6,hr6,he6⟩;have HK6:=A5 (HK5.out.keep hb6);have HB6:=A5 (andthen HB5.out hb6);have HR6:=A5 (HR5.out.keep hb6);have HL6:=A5 (And.intro hl6 (And.intro hr6 he6));clear hb6 hl6 hr6 he6;go_wp2_with fail;refine (QI [66,69,71,73,78,58,86,67,65,76,69,78,68,65,82,13,10,120] [] 1 14 w6 (by decide) (HE.out.keep HB6.out) Ca.nT).mono ?_;rintro _ w7 ⟨hb7,A7,c7,l7,rfl,hl7,hr7,he7⟩;have HK7:=A5 (HK6.out.keep hb7);have HB7:=A5 (andthen HB6.out hb7);have HR7:=A5 (HR6.out.keep hb7);have HL7:=A5 (And.intro HL6.out.1 (And.intro (HL6.out.2.1.keep hb7) (HL6.out.2.2.keep hb7)));clear hb7 hl7 hr7 he7;have w7z0:w7.cell? ⟨EB,0,none⟩=some (.string ⟨#[97]⟩):=HK7.out.cell 0 (by simp);have w7z1:w7.cell? ⟨EB,1,none⟩=some (.string ⟨#[]⟩):=HK7.out.cell 1 (by simp);have w7z2:w7.cell? ⟨EB,2,none⟩=some (.int .i64 90):=HK7.out.cell 2 (by simp);have w7z3:w7.cell? ⟨EB,3,none⟩=some (.int .i64 60):=HK7.out.cell 3 (by simp);have w7z4:w7.cell? ⟨EB,4,none⟩=some (.slice (some ⟨w.heap.size,0,none⟩) 1 1):=HK7.out.cell 4 (by simp);have w7z5:w7.cell? ⟨EB,5,none⟩=some (.int .i64 0):=HK7.out.cell 5 (by simp);have w7z6:w7.cell? ⟨EB,6,none⟩=some (.int .i64 0):=HK7.out.cell 6 (by simp);have w7z7:w7.cell? ⟨EB,7,none⟩=some (.int .i64 0):=HK7.out.cell 7 (by simp);have w7z8:w7.cell? ⟨EB,8,none⟩=some (.int .i64 (-1)):=HK7.out.cell 8 (by simp);have w7z9:w7.cell? ⟨EB,9,none⟩=some (.slice none 0 0):=HK7.out.cell 9 (by simp);have w7z10:w7.cell? ⟨EB,10,none⟩=some (.slice none 0 0):=HK7.out.cell 10 (by simp);have w7z11:w7.cell? ⟨EB,11,none⟩=some (.slice none 0 0):=HK7.out.cell 11 (by simp);have w7z12:w7.cell? ⟨EB,12,none⟩=some (.slice none 0 0):=HK7.out.cell 12 (by simp);go_wp2_with fail;clear w7z0 w7z1 w7z2 w7z3 w7z4 w7z5 w7z6 w7z7 w7z8 w7z9 w7z10 w7z11 w7z12;have hb8:=more (start w7) (.cells #[.string ⟨#[97]⟩,.string ⟨#[]⟩,.int .i64 90,.int .i64 60,.slice (some ⟨w.heap.size,0,none⟩) 1 1,.int .i64 0,.int .i64 0,.int .i64 0,.int .i64 (-1),.slice none 0 0,.slice none 0 0,.slice none 0 0,.slice none 0 0,.string ⟨#[97]⟩,.string ⟨#[]⟩,.int .i64 90,.int .i64 60,.slice (some ⟨w.heap.size,0,none⟩) 1 1,.int .i64 0,.int .i64 0,.int .i64 0,.int .i64 (-1),.slice none 0 0,.slice none 0 0,.slice none 0 0,.slice none 0 0] 47);have HK8:=A5 (HK7.out.keep hb8);have HB8:=A5 (andthen HB7.out hb8);have HR8:=A5 (HR7.out.keep hb8);have HL8:=A5 (And.intro HL7.out.1 (And.intro (HL7.out.2.1.keep hb8) (HL7.out.2.2.keep hb8)));have hrow8:GD (w7.alloc (.cells #[.string ⟨#[97]⟩,.string ⟨#[]⟩,.int .i64 90,.int .i64 60,.slice (some ⟨w.heap.size,0,none⟩) 1 1,.int .i64 0,.int .i64 0,.int .i64 0,.int .i64 (-1),.slice none 0 0,.slice none 0 0,.slice none 0 0,.slice none 0 0,.string ⟨#[97]⟩,.string ⟨#[]⟩,.int .i64 90,.int .i64 60,.slice (some ⟨w.heap.size,0,none⟩) 1 1,.int .i64 0,.int .i64 0,.int .i64 0,.int .i64 (-1),.slice none 0 0,.slice none 0 0,.slice none 0 0,.slice none 0 0] 47)) (some ⟨w7.heap.size,0,none⟩) [(AN,mH w.heap.size),(AN,mH w.heap.size)]:=tB w7 AN AN (mH w.heap.size) (mH w.heap.size) 47;clear hb8;generalize w7.alloc (.cells #[.string ⟨#[97]⟩,.string ⟨#[]⟩,.int .i64 90,.int .i64 60,.slice (some ⟨w.heap.size,0,none⟩) 1 1,.int .i64 0,.int .i64 0,.int .i64 0,.int .i64 (-1),.slice none 0 0,.slice none 0 0,.slice none 0 0,.slice none 0 0,.string ⟨#[97]⟩,.string ⟨#[]⟩,.int .i64 90,.int .i64 60,.slice (some ⟨w.heap.size,0,none⟩) 1 1,.int .i64 0,.int .i64 0,.int .i64 0,.int .i64 (-1),.slice none 0 0,.slice none 0 0,.slice none 0 0,.slice none 0 0] 47)=W8 at *
 refine (nZ ⟨w7.heap.size,0,none⟩ 2 (mH w.heap.size) W8 hrow8 (U2 HR8.out) (HE.out.keep HB8.out)).mono ?_;rintro _ w9 ⟨rfl,hb9⟩;have HK9:=A5 (HK8.out.keep hb9);have HB9:=A5 (andthen HB8.out hb9);have HR9:=A5 (HR8.out.keep hb9);have HL9:=A5 (And.intro HL8.out.1 (And.intro (HL8.out.2.1.keep hb9) (HL8.out.2.2.keep hb9)));clear hb9 hrow8;have w9z0:w9.cell? ⟨EB,0,none⟩=some (.string ⟨#[97]⟩):=HK9.out.cell 0 (by simp);have w9z1:w9.cell? ⟨EB,1,none⟩=some (.string ⟨#[]⟩):=HK9.out.cell 1 (by simp);have w9z2:w9.cell? ⟨EB,2,none⟩=some (.int .i64 90):=HK9.out.cell 2 (by simp);have w9z3:w9.cell? ⟨EB,3,none⟩=some (.int .i64 60):=HK9.out.cell 3 (by simp);have w9z4:w9.cell? ⟨EB,4,none⟩=some (.slice (some ⟨w.heap.size,0,none⟩) 1 1):=HK9.out.cell 4 (by simp);have w9z5:w9.cell? ⟨EB,5,none⟩=some (.int .i64 0):=HK9.out.cell 5 (by simp);have w9z6:w9.cell? ⟨EB,6,none⟩=some (.int .i64 0):=HK9.out.cell 6 (by simp);have w9z7:w9.cell? ⟨EB,7,none⟩=some (.int .i64 0):=HK9.out.cell 7 (by simp);have w9z8:w9.cell? ⟨EB,8,none⟩=some (.int .i64 (-1)):=HK9.out.cell 8 (by simp);have w9z9:w9.cell? ⟨EB,9,none⟩=some (.slice none 0 0):=HK9.out.cell 9 (by simp);have w9z10:w9.cell? ⟨EB,10,none⟩=some (.slice none 0 0):=HK9.out.cell 10 (by simp);have w9z11:w9.cell? ⟨EB,11,none⟩=some (.slice none 0 0):=HK9.out.cell 11 (by simp);have w9z12:w9.cell? ⟨EB,12,none⟩=some (.slice none 0 0):=HK9.out.cell 12 (by simp);go_wp2_with fail;clear w9z0 w9z1 w9z2 w9z3 w9z4 w9z5 w9z6 w9z7 w9z8 w9z9 w9z10 w9z11 w9z12;have hba:=more (start w9) (.cells #[.string ⟨#[97]⟩,.string ⟨#[]⟩,.int .i64 90,.int .i64 60,.slice (some ⟨w.heap.size,0,none⟩) 1 1,.int .i64 0,.int .i64 0,.int .i64 0,.int .i64 (-1),.slice none 0 0,.slice none 0 0,.slice none 0 0,.slice none 0 0] 47);have HBa:=A5 (andthen HB9.out hba);have HRa:=A5 (HR9.out.keep hba);have HLa:=A5 (And.intro HL9.out.1 (And.intro (HL9.out.2.1.keep hba) (HL9.out.2.2.keep hba)));have hrowa:GD (w9.alloc (.cells #[.string ⟨#[97]⟩,.string ⟨#[]⟩,.int .i64 90,.int .i64 60,.slice (some ⟨w.heap.size,0,none⟩) 1 1,.int .i64 0,.int .i64 0,.int .i64 0,.int .i64 (-1),.slice none 0 0,.slice none 0 0,.slice none 0 0,.slice none 0 0] 47)) (some ⟨w9.heap.size,0,none⟩) [(AN,mH w.heap.size)]:=bT w9 AN (mH w.heap.size) 47;clear hba;generalize w9.alloc (.cells #[.string ⟨#[97]⟩,.string ⟨#[]⟩,.int .i64 90,.int .i64 60,.slice (some ⟨w.heap.size,0,none⟩) 1 1,.int .i64 0,.int .i64 0,.int .i64 0,.int .i64 (-1),.slice none 0 0,.slice none 0 0,.slice none 0 0,.slice none 0 0] 47)=Wa at *;refine (kX A6 (some ⟨w9.heap.size,0,none⟩) 1 c6 1 l6 [(AN,mH w.heap.size)] [AN] Wa HLa.out.2.1 hrowa HLa.out.2.2 (fun p hp=>by rw [List.mem_singleton] at hp;subst hp;exact U2 HRa.out) HLa.out.1 rfl rfl (by simp)).mono ?_;rintro _ wb ⟨rfl,hbb⟩;have HBb:=A5 (andthen HBa.out hbb);clear hbb hrowa;go_wp2_with fail;go_ret;exact ⟨rfl,HBb.out⟩
theorem P8 (A:Option Addr) (n c:Nat) (l:List EM) (b:Bool) (w:World) (hl:GD w A l) (hn:n=l.length) (hm:l.length<=maxLen) (h:M9 (l.map Prod.fst)=b) :
  Calls prog 8 #[.slice A n c] w (Ans w (.bool b)):=by subst h;exact nX A n c l w hl hn hm
theorem bU (U:Rt.Un):∀ (f i:Nat) (ver:Bool) (out:List Ev.E) (l:List Tx),(Ca.V5 U f i ver out l).1.length<=out.length+l.length
 | 0,i,ver,out,l=>by simp [Ca.V5]
 | f+1,i,ver,out,[]=>by simp [Ca.V5]
 | f+1,i,ver,out,h :: t=>by
  rw [Ca.V5];have ih:=bU U f
  cases Li.AV h with
  | none=>simp
  | some p =>
   obtain ⟨n,v⟩:=p;simp only
   split
   ·split
    ·simp
    ·have:=ih (i+1) true out t;simp only [List.length_cons];omega
   ·split
    ·split
     ·rcases Ev.CS U (h :: t) with ⟨_|e,k⟩
      ·simp
      ·simp only
       split
       ·simp
       ·have:=ih (i+k) ver (out++[e]) (t.drop (k-1));simp only [z0J,List.length_cons,List.length_nil,List.length_drop] at this ⊢;omega
     ·simp
    ·split
     ·split
      ·split
       ·simp
       ·simp
      ·simp
     ·have:=ih (i+1) ver out t;simp only [List.length_cons];omega
theorem gY (t:Tx) (es:List Ev.E) (k:Nat) (z:Int) (h:Ca.FU unU t=(es,k,z)):es.length<=200:=by
  unfold Ca.FU at h
  split at h
  · injection h with h1 h2;subst h1;simp
  · split at h
    · injection h with h1 h2;subst h1;simp
    · rename_i h2
      rw [Ca.ZC unU (Fo.CJ t).length _ (Nat.le_refl _)] at h;unfold Ca.ZB at h
      split at h
      · injection h with h1 h2;subst h1;simp
      · rename_i a b hab
        have hl:b.length<=199:=by
         have:(Fo.CJ t).length=b.length+1:=by rw [hab];rfl
         omega
        split at h
        · injection h with h1 h2;subst h1;simp
        · split at h
          · have:=bU unU (Fo.CJ t).length 1 false [] b
            rw [h] at this;simp only [List.length_nil] at this;omega
          · injection h with h1 h2;subst h1;simp
end Go.Proofs.YtfecnkhoojnkbaaGreatDoor

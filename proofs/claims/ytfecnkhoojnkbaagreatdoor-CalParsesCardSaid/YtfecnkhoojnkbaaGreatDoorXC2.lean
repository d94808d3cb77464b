import Derived.Test.YtfecnkhoojnkbaaGreatDoorXC1
set_option maxHeartbeats 8000000
set_option maxRecDepth 1000000
namespace Go.Proofs.YtfecnkhoojnkbaaGreatDoor
open Go.RowKit Rul Rt Go.Sort Tryz
theorem nG (w:World):(zeroValue 98).run prog w=.ok (.agg #[]) w:=by kernel_rfl
theorem zN (b:Nat) (us:List Tx) (t:Tx) (w:World) (hs:P7 w b us) (hn:us.length<=1000000) (ht:t.length<=1000000) :
  Calls prog 27 #[.map (some b),.string (str t)] w fun e w'=>e=.returned (.bool (!decide (t∈us)))/\P7 w' b (us++[t])/\w.grownBy w' (some b):=by
 have hkey:=zK t ht;have hhas:=sI us t;have hput:=sJ us t;have hlen:(us++[t]).length=us.length+1:=by rw [z0J];rfl
 unfold P7;rw [hlen,<- hput];unfold P7 at hs;generalize decide (t∈us)=D at *;generalize nE us=S at *;generalize YK t=K at *;generalize us.length=n at *;generalize str t=s at *;clear hput hlen ht;go_enter func27,ntmps27;go_wp2_with (first
  | (at_lookup;refine wpList_lookup_own_unit _ rfl _ _ 63 rfl 9 98 kT underlying63 (nG _) b n _ rfl hs _ _ rfl hkey ?_;rw [hhas])
  | (at_mapUpdate;refine wpList_mapUpdate_own _ rfl _ _ _ 63 rfl 9 98 kT underlying63 (unitElem (H:=Unit)) b n _ rfl (hs.alloc _) (by unfold maxLen;omega) _ _ _ rfl rfl hkey _ [] unitElem_mk ?_;intro w1 hown1 hgrow1)
  | go_in)
 go_ret;exact ⟨rfl,hown1,(World.grownBy_alloc _ _ _).trans hgrow1⟩
theorem sN (e:Ev.E) (m:Mem) (b:Bool) (w:World) (h:EvL w e m) (hb:Ev.isE e=b) :
  Calls prog 26 #[evV e m] w (Ans w (.bool b)):=by subst hb;exact mK e m w h
theorem sO (b:Nat) (us:List Tx) (t:Tx) (d:Bool) (w:World) (hs:P7 w b us) (hn:us.length<=1000000) (ht:t.length<=1000000) (hd:(!decide (t∈us))=d) :
  Calls prog 27 #[.map (some b),.string (str t)] w fun e w'=>e=.returned (.bool d)/\P7 w' b (us++[t])/\w.grownBy w' (some b):=by subst hd;exact zN b us t w hs hn ht
theorem nH (A:Option Addr) (n c:Nat) (l:List EM) (w:World) (hl:GD w A l) (hn:n=l.length) (hsz:l.length<=100000) (hb:KV w l) :
  Calls prog 16 #[.slice A n c] w (Ans w (.bool (Ca.okC (l.map Prod.fst)))):=by
 subst hn;have HR:=A5 hl;have HL:=A5 hb;clear hl hb;have hmm:=@run_makeMap prog;have HS0:Hid (P7 (w.alloc (.map #[] 0)) w.heap.size []):=A5 (bB w);have HW0:Hid (Below w.heap.size w (w.alloc (.map #[] 0))):=A5 (more (start w) _);obtain ⟨es,hes⟩:∃ es,l.map Prod.fst=es:=⟨_,rfl⟩;rw [hes];have hel:es.length=l.length:=by rw [<- hes,List.length_map]
 have HG:Hid (∀ (j:Nat) (h:j<l.length),es[j]'(by rw [hel];exact h)=l[j].1):=A5 (fun j h=>by simp only [<- hes,List.getElem_map]);clear hes;go_enter func16,ntmps16;go_wp2_with fail
 go_loopw [5,9] (fun _ i wr=>∃ j:Nat,j<=l.length/\i=.int .i64 j/\Hid (Ca.okC (es.take j)=true)/\Hid (P7 wr w.heap.size (Ca.CB (es.take j)))/\Hid (Below w.heap.size w wr/\w.heap.size<wr.heap.size)) (fun _ i _=>l.length-(intOf i).toNat)
 case atStart=>exact ⟨0,Nat.zero_le _,rfl,A5 rfl,HS0,A5 ⟨HW0.out,by simp⟩⟩
 case round =>
  obtain ⟨j,hj,rfl,HO,HS,HB⟩:=hrel
  by_cases hlt:j<l.length
  ·obtain ⟨b1,o1,rfl,hb1,hc1⟩:=HR.out (by intro h0;rw [h0] at hlt;exact absurd hlt (Nat.not_lt_zero _));have hje:j<es.length:=by rw [hel];exact hlt
   obtain ⟨p,hp⟩:∃ p,l[j]=p:=⟨_,rfl⟩;obtain ⟨e,m⟩:=p;have h13:=hc1 j hlt;have hem:=HL.out l[j] (List.getElem_mem _);have hge:=HG.out j hlt;rw [hp] at h13 hem hge;have HTK:Hid (es.take (j+1)=es.take j++[e]):=A5 (by rw [List.take_succ_eq_append_getElem hje,hge]);have HUS:Hid ((Ca.CB (es.take j)).length<=1000000):=A5 (by have:=Ca.pF es j;omega);obtain ⟨p0,p1,p2,p3,p4,p5,p6,p7,p8,p9,p10,p11,p12⟩:=(h13.keep HB.out.1).all;have hi0:(0:Int)<=(j:Int):=by omega
   have hi1:(j:Int)<(l.length:Int):=by omega
   have hbV:=more (start wr) (.cells #[.string (str e.uid),.string (str e.text),.int .i64 e.st,.int .i64 e.lg,.slice m.O e.rooms.length m.oc,.int .i64 e.r.fr,.int .i64 e.r.ev,.int .i64 e.r.ct,.int .i64 e.r.un,.slice m.D e.r.ds.length m.dc,.slice m.M e.r.ms.length m.mc,.slice m.Y e.r.ys.length m.yc,.slice m.X e.ex.length m.xc] 47);have hem2:=(hem.keep HB.out.1).keep hbV;have hx0:=AS wr #[.string (str e.uid),.string (str e.text),.int .i64 e.st,.int .i64 e.lg,.slice m.O e.rooms.length m.oc,.int .i64 e.r.fr,.int .i64 e.r.ev,.int .i64 e.r.ct,.int .i64 e.r.un,.slice m.D e.r.ds.length m.dc,.slice m.M e.r.ms.length m.mc,.slice m.Y e.r.ys.length m.yc,.slice m.X e.ex.length m.xc] 47 0 _ rfl;have HX0:=A5 hx0;have HS2:=A5 (HS.out.keep hbV);have HB2:=A5 (andthen HB.out.1 hbV);have HZ2:Hid (w.heap.size<wr.heap.size):=A5 HB.out.2;have HUL:Hid (e.uid.length<=1000000):=A5 (Nat.le_trans hem.ul (by decide))
   cases hi:Ev.isE e with
   | false =>
    have HF:Hid (Ca.okC es=false):=A5 (Ca.TJ (k:=j+1) (by rw [HTK.out,Ca.MJ,hi];simp));have HI:=A5 (sN e m false _ hem2 hi);clear hbV hem2 hx0 h13 hem hge hp hi hc1;go_wp2_with fail;refine (HI.out).mono ?_;rintro _ w1 ⟨rfl,hb2⟩;have HB3:=A5 (andthen HB2.out hb2);clear hb2;go_wp2_with fail;go_ret;exact ⟨AA (by rw [HF.out]),HB3.out⟩
   | true =>
    have HI:=A5 (sN e m true _ hem2 hi);obtain ⟨d,hd⟩:∃ d,(!decide (e.uid∈Ca.CB (es.take j)))=d:=⟨_,rfl⟩;have HD:=A5 hd;have HN:Hid (Ca.okC (es.take (j+1))=d):=A5 (by rw [HTK.out,Ca.MJ,HO.out,hi,hd];simp);have HUN:Hid (Ca.CB (es.take (j+1))=Ca.CB (es.take j)++[e.uid]):=A5 (by rw [HTK.out];simp [Ca.CB]);clear hbV hem2 hx0 h13 hem hge hp hi hc1 hd;go_wp2_with fail;refine (HI.out).mono ?_;rintro _ w1 ⟨rfl,hb2⟩;have HB3:=A5 (andthen HB2.out hb2);have HS3:=A5 (HS2.out.keep hb2);have x0:w1.cell? ⟨wr.heap.size,0,none⟩=some (.string (str e.uid)):=(hb2.cell (p:=⟨wr.heap.size,0,none⟩) (by simp)).trans HX0.out;have hz2:=hb2.size;rw [World.size_alloc] at hz2;clear hb2;go_wp2_with fail;refine (sO w.heap.size _ e.uid d w1 HS3.out HUS.out HUL.out HD.out).mono ?_;rintro _ w2 ⟨rfl,hs2,hg2⟩;have HS4:=A5 hs2;have HB4:=A5 (HB3.out.grown hg2 (by have:=HZ2.out;omega) (fun k hk=>by injection hk with hk;omega));have hz3:=hg2.size;have HZ4:Hid (w.heap.size<w2.heap.size):=A5 (by have:=HZ2.out;omega);clear hs2 hg2 x0
    cases d with
    | true =>
     go_wp2_with fail
     go_roundw
     case rel=>exact ⟨j+1,by omega,by go_num,HN,A5 (by rw [HUN.out];exact HS4.out),A5 ⟨HB4.out,HZ4.out⟩⟩
     case measure=>simp [intOf];omega
    | false =>
     go_wp2_with fail;go_ret;exact ⟨AA (by rw [Ca.TJ HN.out]),HB4.out⟩
  ·obtain rfl:j=l.length:=by omega
   have HF:Hid (Ca.okC es=true):=A5 (by have:=HO.out;rwa [List.take_of_length_le (by omega)] at this);go_wp2_with fail;go_ret;exact ⟨AA (by rw [HF.out]),HB.out.1⟩
theorem zO (t r:Tx) (w:World) (ht:t.length<=100000) (h:Fo.DT t=r):Calls prog 55 #[.string (str t)] w (Ans w (.string (str r))):=by
 have:=gD (str t) w (by rw [AB];exact ht);rw [AD,h] at this;exact this
theorem bG (b:Nat) (l t:Tx) (w:World) (h:Bu w b l) (hl:l.length<=1000000) (hs:t.length<=1000000) :
  Calls prog 28 #[.pointer (some ⟨b,0,none⟩),.string (str t)] w fun e w'=>e=.returned (.tuple #[.int .i64 t.length,.nilIface])/\Bu w' b (l++t)/\Below b w w':=by
 have:=MV b l (str t) w h hl (by rw [AB];exact hs);rw [AD,AB] at this;exact this
theorem WQ (b:Nat) (l:Tx) (w:World) (h:Lib.IsBuilderF 66 5 b b (Lib.byteCells l) w) :
  Calls prog 32 #[.pointer (some ⟨b,0,none⟩)] w fun e w'=>e=.returned (.int .i64 l.length)/\w=w':=by
 refine (Tryz.Builder_Len_f b b (Lib.byteCells l) w h).mono ?_;rintro e w' ⟨rfl,rfl⟩;exact ⟨by rw [Lib.byteCells_length],rfl⟩
theorem sP (b:Nat) (l:Tx) (w:World) (h:Bu w b l) :
  Calls prog 32 #[.pointer (some ⟨b,0,none⟩)] w fun e w'=>e=.returned (.int .i64 l.length)/\w=w':=WQ b l w (Lib.IsBuilderF.of h)
theorem nI (b:Nat) (l:Tx) (w:World) (h:Bu w b l) :
  Calls prog 33 #[.pointer (some ⟨b,0,none⟩)] w fun e w'=>e=.returned (.string (str l))/\Below b w w'/\Lib.IsBuilderF 66 5 b b (Lib.byteCells l) w':=by
 refine (Tryz.Builder_String_any_f b b l w (Lib.IsBuilderF.of h) (Nat.le_of_lt h.lt)).mono ?_;rintro e w' ⟨rfl,h1,h2⟩;exact ⟨rfl,h2,h1⟩
theorem YN:∀ (l:List Tx) (k:Nat),(Fo.flat (l.take k)).length<=(Fo.flat l).length:=fun l k=>by
 have h:Fo.flat l=Fo.flat (l.take k)++Fo.flat (l.drop k):=by rw [<- J8,List.take_append_drop]
 rw [h,z0J];omega
theorem sQ {l:List Tx} {t:Tx} (h:t∈l):(Fo.DT t).length<=(Fo.flat l).length:=by
 induction l with
 | nil=>cases h
 | cons a l ih =>
  rw [Fo.flat,z0J,z0J];rcases List.mem_cons.1 h with rfl|h
  ·omega
  ·have:=ih h;omega
theorem KW (A:Option Addr) (n c:Nat) (l:List Tx) (w:World) (hl:BU w A l) (hn:n=l.length) (hsz:l.length<=100000) (hb:∀ p∈l,p.length<=100000) (hf:(Fo.flat l).length<=900000) :
  Calls prog 29 #[.slice A n c] w (Ans w (.string (str (Fo.flat l)))):=by
 subst hn;have HR:=A5 hl;have HL:=A5 hb;have HF:=A5 hf;clear hl hb hf;have HB0:=A5 (VY w);have HW0:Hid (Below w.heap.size w (w.alloc (.cells #[.pointer none,.slice none 0 0] 66))):=A5 (more (start w) _);go_enter func29,ntmps29;go_wp2_with fail
 go_loopw [5,8] (fun _ i wr=>∃ j:Nat,j<=l.length/\i=.int .i64 j/\Hid (Bu wr w.heap.size (Fo.flat (l.take j)))/\Hid (Below w.heap.size w wr)) (fun _ i _=>l.length-(intOf i).toNat)
 case atStart=>exact ⟨0,Nat.zero_le _,rfl,HB0,HW0⟩
 case round =>
  obtain ⟨j,hj,rfl,HU,HB⟩:=hrel
  by_cases hlt:j<l.length
  ·obtain ⟨b1,o1,rfl,hb1,hc1⟩:=HR.out (by intro h0;rw [h0] at hlt;exact absurd hlt (Nat.not_lt_zero _));obtain ⟨t,ht⟩:∃ t,l[j]=t:=⟨_,rfl⟩;have htl:=HL.out l[j] (List.getElem_mem _);have hfl:=sQ (List.getElem_mem hlt);have p0:wr.cell? ⟨b1,o1+j,none⟩=some (.string (str t)):=(HB.out.cell (p:=⟨b1,_,none⟩) hb1).trans (by rw [<- ht];exact hc1 j hlt);rw [ht] at htl hfl;have HTK:Hid (Fo.flat (l.take (j+1))=(Fo.flat (l.take j)++Fo.DT t)++Fo.crlf):=A5 (by rw [List.take_succ_eq_append_getElem hlt,Fo.R3,ht,List.append_assoc]);have HSZ:Hid ((Fo.flat (l.take j)++Fo.DT t).length<=900000/\(Fo.flat (l.take j)).length<=900000/\(Fo.DT t).length<=900000):=A5 (by
    have h1:=YN l (j+1);have h2:=HF.out;rw [HTK.out,z0J,z0J] at h1;rw [z0J];omega)
   have HFO:=A5 (fun w=>zO t _ w htl rfl);generalize Fo.DT t=F at *;generalize Fo.flat (l.take j)=G at *;have hi0:(0:Int)<=(j:Int):=by omega
   have hi1:(j:Int)<(l.length:Int):=by omega
   clear ht htl hfl hc1;go_wp2_with fail;refine (HFO.out _).mono ?_;rintro _ w1 ⟨rfl,hb2⟩;have HU2:=A5 (HU.out.keep hb2);have HB2:=A5 (andthen HB.out hb2);clear hb2;go_wp2_with fail;refine (bG _ G F w1 HU2.out (by have:=HSZ.out;omega) (by have:=HSZ.out;omega)).mono ?_;rintro _ w2 ⟨rfl,hu3,hb3⟩;have HU3:=A5 hu3;have HB3:=A5 (HB2.out.trans hb3);clear hu3 hb3;go_wp2_with fail;refine (bG _ (G++F) Fo.crlf w2 HU3.out (by have:=HSZ.out;omega) (by decide)).mono ?_;rintro _ w3 ⟨rfl,hu4,hb4⟩;have HU4:=A5 hu4;have HB4:=A5 (HB3.out.trans hb4);clear hu4 hb4;go_wp2_with fail
   go_roundw
   case rel=>exact ⟨j+1,by omega,by go_num,A5 (by rw [HTK.out];exact HU4.out),HB4⟩
   case measure=>simp [intOf];omega
  ·obtain rfl:j=l.length:=by omega
   rw [List.take_length] at HU;go_wp2_with fail;refine (QC _ _ wr HU.out).mono ?_;rintro _ w1 ⟨rfl,b1⟩;have B1:=A5 (HB.out.trans b1);clear b1;go_wp2_with fail;go_ret;exact ⟨rfl,B1.out⟩
theorem gP (w:World):Calls prog 30 #[.string ⟨#[66,69,71,73,78]⟩,.string ⟨#[86,67,65,76,69,78,68,65,82]⟩] w (Ans w (.string (str Ca.IN))) :=
 aY ⟨#[66,69,71,73,78]⟩ ⟨#[86,67,65,76,69,78,68,65,82]⟩ Ca.IN w (by decide) (by decide) (Fo.IF _ (by decide))
theorem sR (w:World):Calls prog 30 #[.string ⟨#[86,69,82,83,73,79,78]⟩,.string ⟨#[50,46,48]⟩] w (Ans w (.string (str Ca.SS))) :=
 aY ⟨#[86,69,82,83,73,79,78]⟩ ⟨#[50,46,48]⟩ Ca.SS w (by decide) (by decide) (Fo.IF _ (by decide))
theorem sS (w:World):Calls prog 30 #[.string ⟨#[69,78,68]⟩,.string ⟨#[86,67,65,76,69,78,68,65,82]⟩] w (Ans w (.string (str Ca.RA))) :=
 aY ⟨#[69,78,68]⟩ ⟨#[86,67,65,76,69,78,68,65,82]⟩ Ca.RA w (by decide) (by decide) (Fo.IF _ (by decide))
theorem TV:(Fo.flat [Ca.IN,Ca.SS]).length<=300:=Nat.le_trans (J7 30 _ (by decide)) (by decide)
theorem WR:(Fo.flat [Ca.RA]).length<=300:=Nat.le_trans (J7 30 _ (by decide)) (by decide)
theorem YO (c:Nat) (w:World) (A:Addr) (h:BU w (some A) [Ca.IN,Ca.SS]):Calls prog 29 #[.slice (some A) 2 c] w (Ans w (.string (str (upC [])))) :=
 by
 have h2:=KW (some A) 2 c [Ca.IN,Ca.SS] w h rfl (by decide) (by decide) (by have:=TV;omega);exact h2
theorem written_end (c:Nat) (w:World) (A:Addr) (h:BU w (some A) [Ca.RA]):Calls prog 29 #[.slice (some A) 1 c] w (Ans w (.string (str (Fo.flat [Ca.RA])))) :=
 by
 have h2:=KW (some A) 1 c [Ca.RA] w h rfl (by decide) (by decide) (by have:=WR;omega);exact h2
def kV (l:List EM):Prop:=∀ p∈l,∀ (w:World),EvL w p.1 p.2->Tab w->∀ L,Ev.BL unU p.1=L →
  Calls prog 31 #[evV p.1 p.2] w fun x w'=>∃ A c,x=.returned (.slice A L.length c)/\BU w' A L/\Below w.heap.size w w'
theorem gQ (e:Ev.E) (L:List Tx) (hL:Ev.BL unU e=L) (A:Option Addr) (c:Nat) (w:World) (h:BU w A L):Calls prog 29 #[.slice A L.length c] w (Ans w (.string (str (Fo.flat L)))):=by
 subst hL;have h1:=QG e;have h2:=YL e;exact KW _ _ _ _ w h rfl (by omega) (fun p hp=>by have:=h1.1 p hp;omega) (by omega)
theorem RQ:(upC []).length<=300:=TV
def YP (w:World) (es:List Ev.E) (e:Ending) (w':World):Prop:=Below w.heap.size w w' ∧
 if (Ca.CK unU es).length<=8000 then e=.returned (.tuple #[.string (str (Ca.CK unU es)),.bool true]) else ∃ s,e=.returned (.tuple #[.string s,.bool false])
theorem bH {w w':World} {es:List Ev.E} {T:Tx} (hT:Ca.CK unU es=T) (h:T.length<=8000) (hb:Below w.heap.size w w'):YP w es (.returned (.tuple #[.string (str T),.bool true])) w':=by
 subst hT;exact ⟨hb,by rw [if_pos h]⟩
theorem TW {w w':World} {es:List Ev.E} (s:ByteArray) (h:¬ (Ca.CK unU es).length<=8000) (hb:Below w.heap.size w w'):YP w es (.returned (.tuple #[.string s,.bool false])) w' :=
 ⟨hb,by rw [if_neg h];exact ⟨s,rfl⟩⟩
theorem nJ (w:World) (a b:Tx) (t:TypeId):BU (w.alloc (.cells #[.string (str a),.string (str b)] t)) (some ⟨w.heap.size,0,none⟩) [a,b]:=WN w t [a,b]
theorem nK (w:World) (a:Tx) (t:TypeId):BU (w.alloc (.cells #[.string (str a)] t)) (some ⟨w.heap.size,0,none⟩) [a]:=WN w t [a]
theorem bI (A:Option Addr) (n c:Nat) (l:List EM) (w:World) (hl:GD w A l) (hn:n=l.length) (hsz:l.length<=100000) (hb:KV w l) (he:EE w) (ho:kV l) :
  Calls prog 17 #[.slice A n c] w (YP w (l.map Prod.fst)):=by
 subst hn;have HR:=A5 hl;have HL:=A5 hb;have HENV:=A5 he;have HLO:=A5 ho;clear hl hb he ho;have HU0:=A5 (VY w);have hw0:=more (start w) (.cells #[.pointer none,.slice none 0 0] 66);have HW0:=A5 hw0;clear hw0;obtain ⟨es,hes⟩:∃ es,l.map Prod.fst=es:=⟨_,rfl⟩;rw [hes];have hel:es.length=l.length:=by rw [<- hes,List.length_map]
 have HG:Hid (∀ (j:Nat) (h:j<l.length),es[j]'(by rw [hel];exact h)=l[j].1):=A5 (fun j h=>by simp only [<- hes,List.getElem_map]);clear hes;have HJ1:=A5 gP;have HJ2:=A5 sR;have HJ3:=A5 sS;go_enter func17,ntmps17;go_wp2_with fail;refine (HJ1.out _).mono ?_;rintro _ w1 ⟨rfl,hb1⟩;replace HU0:=A5 (HU0.out.keep hb1);replace HW0:=A5 (andthen HW0.out hb1);clear hb1;go_wp2_with fail;refine (HJ2.out _).mono ?_;rintro _ w2 ⟨rfl,hb2⟩;replace HU0:=A5 (HU0.out.keep hb2);replace HW0:=A5 (andthen HW0.out hb2);clear hb2;go_wp2_with fail;have hb3:=more (start w2) (.cells #[.string (str Ca.IN),.string (str Ca.SS)] 9);replace HU0:=A5 (HU0.out.keep hb3);replace HW0:=A5 (andthen HW0.out hb3);clear hb3;refine (YO _ _ _ (nJ w2 Ca.IN Ca.SS _)).mono ?_;rintro _ w4 ⟨rfl,hb4⟩;replace HU0:=A5 (HU0.out.keep hb4);replace HW0:=A5 (andthen HW0.out hb4);clear hb4;go_wp2_with fail;refine (bG _ [] (upC []) w4 HU0.out (by decide) (by have:=RQ;omega)).mono ?_;rintro _ w5 ⟨rfl,hu5,hb5⟩;replace HU0:=A5 hu5;replace HW0:=A5 (HW0.out.trans hb5);clear hu5 hb5;go_wp2_with fail
 go_loopw [6,14] (fun _ i wr=>∃ j:Nat,j<=l.length/\i=.int .i64 j/\Hid (Bu wr w.heap.size (upC (es.take j))/\(upC (es.take j)).length<=8000)/\Hid (Below w.heap.size w wr)) (fun _ i _=>l.length-(intOf i).toNat)
 case atStart=>exact ⟨0,Nat.zero_le _,rfl,A5 ⟨HU0.out,by rw [List.take_zero];have:=RQ;omega⟩,HW0⟩
 case round =>
  obtain ⟨j,hj,rfl,HU,HB⟩:=hrel
  by_cases hlt:j<l.length
  ·obtain ⟨b1,o1,rfl,hb1,hc1⟩:=HR.out (by intro h0;rw [h0] at hlt;exact absurd hlt (Nat.not_lt_zero _));have hje:j<es.length:=by rw [hel];exact hlt
   obtain ⟨p,hp⟩:∃ p,l[j]=p:=⟨_,rfl⟩;obtain ⟨e,m⟩:=p;have h13:=hc1 j hlt;have hem:=HL.out l[j] (List.getElem_mem _);have hge:=HG.out j hlt;rw [hp] at h13 hem hge;have HTK:Hid (upC (es.take (j+1))=upC (es.take j)++Fo.flat (Ev.BL unU e)):=A5 (by rw [List.take_succ_eq_append_getElem hje,hge,bC]);have HSZ:Hid ((Fo.flat (Ev.BL unU e)).length<=139000):=A5 (YL e);have HLE:Hid ((upC (es.take (j+1))).length<=(Ca.CK unU es).length):=A5 (by have:=A1X (es.take (j+1)) (es.drop (j+1));rwa [List.take_append_drop] at this);obtain ⟨L,hL⟩:∃ L,Ev.BL unU e=L:=⟨_,rfl⟩;rw [hL] at HTK HSZ;obtain ⟨p0,p1,p2,p3,p4,p5,p6,p7,p8,p9,p10,p11,p12⟩:=(h13.keep HB.out).all;have hi0:(0:Int)<=(j:Int):=by omega
   have hi1:(j:Int)<(l.length:Int):=by omega
   have hbV:=more (start wr) (.cells #[.string (str e.uid),.string (str e.text),.int .i64 e.st,.int .i64 e.lg,.slice m.O e.rooms.length m.oc,.int .i64 e.r.fr,.int .i64 e.r.ev,.int .i64 e.r.ct,.int .i64 e.r.un,.slice m.D e.r.ds.length m.dc,.slice m.M e.r.ms.length m.mc,.slice m.Y e.r.ys.length m.yc,.slice m.X e.ex.length m.xc] 47);have hem2:=(hem.keep HB.out).keep hbV;have HU2:=A5 (HU.out.1.keep hbV);have HB2:=A5 (andthen HB.out hbV);have HI:=A5 (HLO.out (e,m) (hp▸List.getElem_mem hlt) _ hem2 (HENV.out.keep HB2.out).e.tab L hL);have HWE:=A5 (fun A c w h=>gQ e L hL A c w h);obtain ⟨G,hG⟩:∃ G,upC (es.take j)=G:=⟨_,rfl⟩;have HGL:Hid (G.length<=8000):=A5 (hG▸HU.out.2);rw [hG] at HTK HU2;generalize Fo.flat L=F at *;generalize L.length=LN at *;clear hbV hem2 h13 hem hge hp hc1 hG hL;go_wp2_with fail;refine (HI.out).mono ?_;rintro _ w1 ⟨A1,c1,rfl,hrow1,hb1'⟩;have HU3:=A5 (HU2.out.keep hb1');have HB3:=A5 (andthen HB2.out hb1');clear hb1';go_wp2_with fail;refine (HWE.out _ _ _ hrow1).mono ?_;rintro _ w2 ⟨rfl,hb2⟩;have HU4:=A5 (HU3.out.keep hb2);have HB4:=A5 (andthen HB3.out hb2);clear hb2 hrow1;go_wp2_with fail;refine (bG _ G F w2 HU4.out (by have:=HGL.out;omega) (by have:=HSZ.out;omega)).mono ?_;rintro _ w3 ⟨rfl,hu5,hb5⟩;have HU5:=A5 hu5;have HB5:=A5 (HB4.out.trans hb5);clear hu5 hb5;rw [<- HTK.out] at HU5;go_wp2_with fail;refine (sP _ _ w3 HU5.out).mono ?_;rintro _ w6 ⟨rfl,rfl⟩
   by_cases hbig:8000<(upC (es.take (j+1))).length
   ·have hbi:(8000:Int)<((upC (es.take (j+1))).length:Int):=by omega
    have HNO:Hid (¬ (Ca.CK unU es).length<=8000):=A5 (by have:=HLE.out;omega);go_wp2_with fail;go_ret2;exact TW _ HNO.out HB5.out
   ·have hbi:¬ (8000:Int)<((upC (es.take (j+1))).length:Int):=by omega
    have HOK:Hid ((upC (es.take (j+1))).length<=8000):=A5 (by omega);go_wp2_with fail
    go_roundw
    case rel=>exact ⟨j+1,by omega,by go_num,A5 ⟨HU5.out,HOK.out⟩,HB5⟩
    case measure=>simp [intOf];omega
  ·obtain rfl:j=l.length:=by omega
   rw [List.take_of_length_le (by omega)] at HU;have HTX:Hid (upC es++Fo.flat [Ca.RA]=Ca.CK unU es):=A5 (TT es).symm;have HE0:=A5 WR;obtain ⟨G,hG⟩:∃ G,upC es=G:=⟨_,rfl⟩;rw [hG] at HU HTX;clear hG;go_wp2_with fail;refine (HJ3.out _).mono ?_;rintro _ w1 ⟨rfl,hb1⟩;have HU1:=A5 (HU.out.1.keep hb1);have HB1:=A5 (andthen HB.out hb1);clear hb1;go_wp2_with fail;have hb3:=more (start w1) (.cells #[.string (str Ca.RA)] 9);have HU2:=A5 (HU1.out.keep hb3);have HB2:=A5 (andthen HB1.out hb3);clear hb3;refine (written_end _ _ _ (nK w1 Ca.RA _)).mono ?_;rintro _ w4 ⟨rfl,hb4⟩;have HU3:=A5 (HU2.out.keep hb4);have HB3:=A5 (andthen HB2.out hb4);clear hb4;go_wp2_with fail;refine (bG _ G _ w4 HU3.out (by have:=HU.out.2;omega) (by have:=HE0.out;omega)).mono ?_;rintro _ w5 ⟨rfl,hu5,hb5⟩;have HU5:=A5 hu5;have HB5:=A5 (HB3.out.trans hb5);clear hu5 hb5;obtain ⟨T,hT⟩:∃ T,Ca.CK unU es=T:=⟨_,rfl⟩;have HT:=A5 hT;rw [HTX.out,hT] at HU5;clear hT;go_wp2_with fail;refine (nI _ _ w5 HU5.out).mono ?_;rintro _ w6 ⟨rfl,hb6,hf6⟩;have HB6:=A5 (HB5.out.trans hb6);have HF6:=A5 hf6;clear hb6 hf6;go_wp2_with fail;refine (WQ _ _ w6 HF6.out).mono ?_;rintro _ w7 ⟨rfl,rfl⟩
   by_cases hbig:T.length<=8000
   ·have hbi:decide (((T.length:Nat):Int)<=8000)=true:=z0H (by omega);have hbj:((T.length:Nat):Int)<=8000:=by omega
    go_wp2_with fail;go_ret2;exact bH HT.out hbig HB6.out
   ·have hbi:decide (((T.length:Nat):Int)<=8000)=false:=z0G (by omega);have hbj:¬ ((T.length:Nat):Int)<=8000:=by omega
    go_wp2_with fail;go_ret2;exact TW _ (by rw [HT.out];exact hbig) HB6.out
def A1Y (w:World) (es:List Ev.E) (e:Ending) (w':World):Prop:=Below w.heap.size w w'/\e=.returned (.tuple #[.string (str (Ca.FB unU es).1),.int .i64 (Ca.FB unU es).2])
theorem TX (A:Option Addr) (n c:Nat) (l:List EM) (w:World) (hl:GD w A l) (hn:n=l.length) (hsz:l.length<=100000) (hb:KV w l) (he:EE w) (ho:kV l) :
  Calls prog 9 #[.slice A n c] w (A1Y w (l.map Prod.fst)):=by
 have HC:=A5 (nH A n c l w hl hn hsz hb);have HP:=A5 (fun w hl hb he=>bI A n c l w hl hn hsz hb he ho);have HR:=A5 hl;have HL:=A5 hb;have HENV:=A5 he;obtain ⟨es,hes⟩:∃ es,l.map Prod.fst=es:=⟨_,rfl⟩;rw [hes] at HC HP ⊢;clear hl hb he hes hn hsz ho;obtain ⟨P,hP⟩:∃ P,Ca.FB unU es=P:=⟨_,rfl⟩;have HPP:=A5 hP;unfold Ca.FB at hP
 cases hk:Ca.okC es with
 | false =>
  rw [hk,if_neg (by decide)] at hP;rw [hk] at HC;have HQ:=A5 hP;clear hP hk;go_enter func9,ntmps9;go_wp2_with fail;refine (HC.out).mono ?_;rintro _ w1 ⟨rfl,hb1⟩;have HB1:=A5 hb1;clear hb1;go_wp2_with fail;go_ret2;exact ⟨HB1.out,by rw [HPP.out,<- HQ.out];rfl⟩
 | true =>
  rw [hk,if_pos rfl] at hP;rw [hk] at HC
  by_cases hbig:(Ca.CK unU es).length<=8000
  ·rw [if_neg (by omega)] at hP;have HQ:=A5 hP;have HBIG:=A5 hbig;clear hP hk hbig;go_enter func9,ntmps9;go_wp2_with fail;refine (HC.out).mono ?_;rintro _ w1 ⟨rfl,hb1⟩;have HB1:=A5 hb1;clear hb1;go_wp2_with fail;refine (HP.out _ (HR.out.keep HB1.out) (HL.out.keep HB1.out) (HENV.out.keep HB1.out)).mono ?_;rintro _ w2 ⟨hb2,h2⟩;rw [if_pos HBIG.out] at h2;subst h2;have HB2:=A5 (andthen HB1.out hb2);clear hb2;go_wp2_with fail;go_ret2;exact ⟨HB2.out,by rw [HPP.out,<- HQ.out];rfl⟩
  ·rw [if_pos (by omega)] at hP;have HQ:=A5 hP;have HBIG:=A5 hbig;clear hP hk hbig;go_enter func9,ntmps9;go_wp2_with fail;refine (HC.out).mono ?_;rintro _ w1 ⟨rfl,hb1⟩;have HB1:=A5 hb1;clear hb1;go_wp2_with fail;refine (HP.out _ (HR.out.keep HB1.out) (HL.out.keep HB1.out) (HENV.out.keep HB1.out)).mono ?_;rintro _ w2 ⟨hb2,h2⟩;rw [if_neg HBIG.out] at h2;obtain ⟨s,rfl⟩:=h2;have HB2:=A5 (andthen HB1.out hb2);clear hb2;go_wp2_with fail;go_ret2;exact ⟨HB2.out,by rw [HPP.out,<- HQ.out];rfl⟩
end Go.Proofs.YtfecnkhoojnkbaaGreatDoor

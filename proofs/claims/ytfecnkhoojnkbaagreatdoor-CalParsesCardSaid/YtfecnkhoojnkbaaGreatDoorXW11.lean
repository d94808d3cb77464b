import Derived.Test.YtfecnkhoojnkbaaGreatDoorXW12
import Derived.Test.YtfecnkhoojnkbaaGreatDoorXW8
set_option maxHeartbeats 8000000
set_option maxRecDepth 1000000
namespace Go.Proofs.YtfecnkhoojnkbaaGreatDoor
open Go.RowKit Rul Rt Go.Sort Tryz
structure EE (w:World):Prop where
 e:Env w
 f:G3 w
theorem EE.keep {w w':World} (h:EE w) (hb:Below w.heap.size w w'):EE w':=⟨h.e.keep hb,h.f.keep hb⟩
theorem EE.below {B:Nat} {w w':World} (h:EE w) (hb:Below B w w') (hB:w.heap.size<=B):EE w':=⟨h.e.below hb hB,h.f.below hb hB⟩
abbrev rdV (e:Ev.E) (m:Mem) (v:Value):List Value:=[.string (str e.uid),.string (str e.text),.int .i64 e.st,.int .i64 e.lg,.int .i64 e.r.fr,.int .i64 e.r.ev,.int .i64 e.r.ct,.int .i64 e.r.un,.slice m.D e.r.ds.length m.dc,.slice m.M e.r.ms.length m.mc,.slice m.Y e.r.ys.length m.yc,.slice m.X e.ex.length m.xc,.slice m.O e.rooms.length m.oc,v]
def IZ {α:Type} (X:Nat) (v:Value) (l:List α) (A:Option Addr):Prop:=l≠[]->∀ g o,A=some ⟨g,o,none⟩->X<g/\some g≠v.ownBlock
structure FM (w:World) (X:Nat) (e:Ev.E) (m:Mem) (v:Value):Prop where
 k:AX w X (rdV e m v)
 l:EvL w e m
 oo:IZ X v e.rooms m.O
 od:IZ X v e.r.ds m.D
 om:IZ X v e.r.ms m.M
 oy:IZ X v e.r.ys m.Y
 ox:IZ X v e.ex m.X
 own:some X≠v.ownBlock
theorem FM.keep {w w':World} {X:Nat} {e:Ev.E} {m:Mem} {v:Value} (h:FM w X e m v) (hb:Below w.heap.size w w'):FM w' X e m v :=
 ⟨h.k.keep hb,h.l.keep hb,h.oo,h.od,h.om,h.oy,h.ox,h.own⟩
theorem BS.past {w w':World} {row:Option Nat} {A:Option Addr} {l:List Int} (h:BS w A l) (g:w.grownBy w' row) (ho:l≠[]->∀ b o,A=some ⟨b,o,none⟩->some b≠row):BS w' A l:=fun hn=>BS.grow h g (ho hn) hn
theorem EL.past {w w':World} {row:Option Nat} {A:Option Addr} {l:List Wd} (h:EL w A l) (g:w.grownBy w' row) (ho:l≠[]->∀ b o,A=some ⟨b,o,none⟩->some b≠row):EL w' A l:=fun hn=>EL.grow h g (ho hn) hn
theorem EvL.past {w w':World} {row:Option Nat} {e:Ev.E} {m:Mem} (h:EvL w e m) (g:w.grownBy w' row) (oo:e.rooms≠[]->∀ b o,m.O=some ⟨b,o,none⟩->some b≠row) (od:e.r.ds≠[]->∀ b o,m.D=some ⟨b,o,none⟩->some b≠row) (om:e.r.ms≠[]->∀ b o,m.M=some ⟨b,o,none⟩->some b≠row) (oy:e.r.ys≠[]->∀ b o,m.Y=some ⟨b,o,none⟩->some b≠row) (ox:e.ex≠[]->∀ b o,m.X=some ⟨b,o,none⟩->some b≠row):EvL w' e m :=
 ⟨h.o.past g oo,h.ol,⟨h.r.d.past g od,h.r.dn,h.r.dl,h.r.m.past g om,h.r.mn,h.r.ml,h.r.y.past g oy,h.r.yn,h.r.yl⟩,h.x.past g ox,h.xl,h.ul,h.tl⟩
theorem IZ.row {α:Type} {X:Nat} {v:Value} {l:List α} {A:Option Addr} (h:IZ X v l A):l≠[]->∀ b o,A=some ⟨b,o,none⟩->some b≠some X:=fun hn b o e k=>by have:=(h hn b o e).1;injection k with k;omega
theorem IZ.xJ {α:Type} {X:Nat} {v:Value} {l:List α} {A:Option Addr} (h:IZ X v l A):l≠[]->∀ b o,A=some ⟨b,o,none⟩->some b≠v.ownBlock:=fun hn b o e=>(h hn b o e).2
theorem FM.put {w w':World} {X:Nat} {e:Ev.E} {m:Mem} {v:Value} (k:AX w' X (rdV e m v)) (g:w.grownBy w' (some X)) (l:EvL w e m) (oo:IZ X v e.rooms m.O) (od:IZ X v e.r.ds m.D) (om:IZ X v e.r.ms m.M) (oy:IZ X v e.r.ys m.Y) (ox:IZ X v e.ex m.X) (own:some X≠v.ownBlock):FM w' X e m v :=
 ⟨k,l.past g oo.row od.row om.row oy.row ox.row,oo,od,om,oy,ox,own⟩
theorem MN {α:Type} {X:Nat} {v v':Value} {l:List α} {A:Option Addr} {w w':World} (h:IZ X v l A) (g:M1 v w v' w') (hl:l≠[]->∀ b o,A=some ⟨b,o,none⟩->b<w.heap.size):IZ X v' l A:=fun hn b o e=>⟨(h hn b o e).1,by
 have h1:=hl hn b o e;rcases g.own with h2|⟨k,h2,hk⟩
 ·rw [h2];exact (h hn b o e).2
 ·rw [h2];intro c;injection c with c;omega⟩
theorem BS.in {w:World} {A:Option Addr} {l:List Int} (h:BS w A l):l≠[]->∀ b o,A=some ⟨b,o,none⟩->b<w.heap.size:=fun hn b o e=>by
 obtain ⟨g,k,e2,hl,_⟩:=h hn;rw [e] at e2;injection e2 with e2;injection e2 with e3 _;omega
theorem EL.in {w:World} {A:Option Addr} {l:List Wd} (h:EL w A l):l≠[]->∀ b o,A=some ⟨b,o,none⟩->b<w.heap.size:=fun hn b o e=>by
 obtain ⟨g,k,e2,hl,_⟩:=h hn;rw [e] at e2;injection e2 with e2;injection e2 with e3 _;omega
structure xK (w:World) (X:Nat) (e:Ev.E) (m:Mem) (u v:Value):Prop where
 k:AX w X (rdV e m u)
 l:EvL w e m
 oo:IZ X v e.rooms m.O
 od:IZ X v e.r.ds m.D
 om:IZ X v e.r.ms m.M
 oy:IZ X v e.r.ys m.Y
 ox:IZ X v e.ex m.X
 own:some X≠v.ownBlock
theorem FM.goes {w w':World} {X:Nat} {e:Ev.E} {m:Mem} {v v':Value} (h:FM w X e m v) (g:M1 v w v' w'):xK w' X e m v v' :=
 ⟨h.k.grow g.grown h.own,h.l.past g.grown h.oo.xJ h.od.xJ h.om.xJ h.oy.xJ h.ox.xJ,MN h.oo g h.l.o.in,MN h.od g h.l.r.d.in,MN h.om g h.l.r.m.in,MN h.oy g h.l.r.y.in,MN h.ox g h.l.x.in,by
  rcases g.own with h2|⟨k,h2,hk⟩
  ·rw [h2];exact h.own
  ·rw [h2];intro c;injection c with c;have:=h.k.lt;omega⟩
theorem xK.set {w:World} {X:Nat} {e:Ev.E} {m:Mem} {u v:Value} (h:xK w X e m u v):FM (w.setCell ⟨X,13,none⟩ v) X e m v :=
 FM.put ((h.k.set 13 v (by simp)).is rfl) (AG (start w)) h.l h.oo h.od h.om h.oy h.ox h.own
theorem FM.out {w w':World} {X c:Nat} {e:Ev.E} {m:Mem} {v:Value} (h:FM w X e m v) (hc:c<X) (g:w.grownBy w' (some c)):EvL w' e m :=
 h.l.past g (fun hn b o e k=>by have:=(h.oo hn b o e).1;injection k with k;omega) (fun hn b o e k=>by have:=(h.od hn b o e).1;injection k with k;omega) (fun hn b o e k=>by have:=(h.om hn b o e).1;injection k with k;omega) (fun hn b o e k=>by have:=(h.oy hn b o e).1;injection k with k;omega) (fun hn b o e k=>by have:=(h.ox hn b o e).1;injection k with k;omega)
def O3 (w:World) (X:Nat) (v:Value) (o:Option Ev.E) (e:Ending) (w':World):Prop :=
 w.grownBy w' (some X)/\match o with
  | none=>e=.returned (.bool false)
  | some q=>e=.returned (.bool true)/\∃ m,FM w' X q m v
theorem Q2 {α:Type} {X N:Nat} {v:Value} {l:List α} {A:Option Addr} (h:∀ g o,A=some ⟨g,o,none⟩->N<=g) (hX:X<N) (hv:∀ g,v.ownBlock=some g->g<N):IZ X v l A:=fun _ g o e=>by
 have hg:=h g o e;refine ⟨by omega,fun e2=>?_⟩;have:=hv g e2.symm;omega
theorem F5 {w:World} {B n c:Nat} {A:Option Addr} {l:List Int} (h:BV w B (.slice A n c) l):∀ g o,A=some ⟨g,o,none⟩->B<=g:=fun g o e=>by
 subst e;exact (h.lt g rfl).1
theorem xL {l:List Tx} {j:Nat} (hlt:j<l.length) (p:Tx->Bool):(l.take (j+1)).all p=((l.take j).all p&&p l[j]):=by
 rw [List.take_succ_eq_append_getElem hlt,List.all_append];simp
theorem A0O (X:Nat) (A A2:Option Addr) (n c n2 c2:Nat) (l seen:List Tx) (w:World) (hl:BU w A l) (hn:n=l.length) (hsz:l.length<=1000) (hs:BU w A2 seen) (hn2:n2=seen.length) (hsz2:seen.length<=1000) (hk:w.cell? ⟨X,13,none⟩=some (.slice A2 n2 c2)) :
  Calls prog 224 #[.pointer (some ⟨X,0,none⟩),.slice A n c] w (Ans w (.bool (l.all fun p=>decide (p∈seen)))):=by
 subst hn hn2;have HL:=A5 hl;have HS:=A5 hs;have HK:=A5 hk;clear hl hs hk;go_enter func224,ntmps224;go_wp2_with fail
 go_loopw [6,9] (fun _ i wr=>∃ j:Nat,j<=l.length/\i=.int .i64 j/\Hid ((l.take j).all (fun p=>decide (p∈seen))=true)/\Below w.heap.size w wr) (fun _ i _=>l.length-(intOf i).toNat)
 case atStart=>exact ⟨0,Nat.zero_le _,rfl,A5 rfl,start w⟩
 case round =>
  obtain ⟨j,hj,rfl,HA,hb⟩:=hrel;have HB:=A5 hb;clear hb
  by_cases hlt:j<l.length
  ·obtain ⟨b1,o1,rfl,hb1,hc1⟩:=HL.out (by intro h0;rw [h0] at hlt;exact absurd hlt (Nat.not_lt_zero _));have p1:wr.cell? ⟨b1,o1+j,none⟩=some (.string (str l[j])):=(HB.out.cell (p:=⟨b1,_,none⟩) hb1).trans (hc1 j hlt);have k1:=A9 HB.out HK.out;have hi0:(0:Int)<=(j:Int):=by omega
   have hi1:(j:Int)<(l.length:Int):=by omega
   have HST:=A5 (xL hlt (fun p=>decide (p∈seen)));have hrs:=HS.out.keep HB.out;have HCO:=A5 (I5 l[j] A2 _ c2 seen wr hrs rfl hsz2);clear hc1 hrs;generalize l[j]=T at *;simp only [HA.out,Bool.true_and] at HST
   cases hd:decide (T∈seen) with
   | true =>
    rw [hd] at HCO HST;go_wp2_with fail;refine HCO.out.mono ?_;rintro e w1 ⟨rfl,hb1⟩;replace HB:=A5 (andthen HB.out hb1);clear hb1;go_wp2_with fail
    go_roundw
    case rel=>exact ⟨j+1,by omega,by go_num,HST,HB.out⟩
    case measure=>simp [intOf];omega
   | false =>
    rw [hd] at HCO HST;have HF:Hid (l.all (fun p=>decide (p∈seen))=false):=A5 (by
     rw [Bool.eq_false_iff];intro g;have h1:=HST.out;rw [Bool.eq_false_iff] at h1;exact h1 (List.all_eq_true.2 fun x hx=>List.all_eq_true.1 g x (List.mem_of_mem_take hx)))
    go_wp2_with fail;refine HCO.out.mono ?_;rintro e w1 ⟨rfl,hb1⟩;replace HB:=A5 (andthen HB.out hb1);clear hb1;go_wp2_with fail;go_ret;exact ⟨AA HF.out.symm,HB.out⟩
  ·obtain rfl:j=l.length:=by omega
   rw [List.take_length] at HA;go_wp2_with fail;go_ret;exact ⟨AA HA.out.symm,HB.out⟩
theorem set_0 (t:Tx) (X:Nat) (e:Ev.E) (m:Mem) (v:Value) (seen:List Tx) (w:World) (h:FM w X e m v) (hv:∀ g,v.ownBlock=some g->g<w.heap.size) (he:EE w) (ht:t.length<=100000) :
  Calls prog 205 #[.pointer (some ⟨X,0,none⟩),.string (str Ev.AP),.string (str t)] w (O3 w X v (Ev.F4 unU seen e Ev.AP t)):=by
 have H0:Ev.F4 unU seen e Ev.AP t=if decide (Li.AW t=Ev.wEV)=true then some e else none:=by unfold Ev.F4;rw [if_pos rfl]
 rw [H0];clear H0;obtain ⟨N,hN⟩:∃ N,Ev.AP=N:=⟨_,rfl⟩;have e0:(N==[66,69,71,73,78])=true:=by rw [<- hN];decide
 have q1:=AH N;have hts:(str t).size<=100000:=by rw [AB];exact ht
 have htl:(str t).data.toList=t:=AD t;have H:=A5 h;have HE:=A5 he;have HV:=A5 hv;have hX:=h.k.lt;rw [hN];clear h he hv hN;have HC:=A5 (W9 t w HE.out.f ht);generalize decide (Li.AW t=Ev.wEV)=B at *;obtain ⟨O,hO⟩:∃ O,(if B=true then some e else none)=O:=⟨_,rfl⟩;rw [hO];have HO:=A5 hO;clear hO;go_enter func205,ntmps205;go_wp2_with fail;refine HC.out.mono ?_;rintro e w1 ⟨rfl,hb⟩;go_wp2_with fail;go_ret
 cases B with
 | true=>rw [<- HO.out,if_pos rfl];exact ⟨BC hb,rfl,_,H.out.keep hb⟩
 | false=>rw [<- HO.out,if_neg (by decide)];exact ⟨BC hb,rfl⟩
theorem set_1 (t:Tx) (X:Nat) (e:Ev.E) (m:Mem) (v:Value) (seen:List Tx) (w:World) (h:FM w X e m v) (hv:∀ g,v.ownBlock=some g->g<w.heap.size) (he:EE w) (ht:t.length<=100000) :
  Calls prog 205 #[.pointer (some ⟨X,0,none⟩),.string (str Ev.ER),.string (str t)] w (O3 w X v (Ev.F4 unU seen e Ev.ER t)):=by
 have H0:Ev.F4 unU seen e Ev.ER t=if Ev.FT t=true then some { e with uid:=t } else none:=by unfold Ev.F4;rw [if_neg (by decide),if_neg (by decide),Ev.vF]
 rw [H0];clear H0;obtain ⟨N,hN⟩:∃ N,Ev.ER=N:=⟨_,rfl⟩;have e0:(N==[66,69,71,73,78])=false:=by rw [<- hN];decide
 have e1:(N==[85,73,68])=true:=by rw [<- hN];decide
 have q1:=AH N;have hts:(str t).size<=100000:=by rw [AB];exact ht
 have htl:(str t).data.toList=t:=AD t;have H:=A5 h;have HE:=A5 he;have HV:=A5 hv;have hX:=h.k.lt;rw [hN];clear h he hv hN;have HC:=A5 (WW (str t) w hts);rw [htl] at HC;have hle:Ev.FT t=true->t.length<=40000:=fun hu=>by have:=Ev.PT hu;omega
 generalize Ev.FT t=B at *;obtain ⟨O,hO⟩:∃ O,(if B=true then some { e with uid:=t } else none)=O:=⟨_,rfl⟩;rw [hO];have HO:=A5 hO;clear hO;have ck:w.cell? ⟨X,0,none⟩=some (.string (str e.uid)):=H.out.k.cell 0 (by simp);have fk:=H.out.k.free 0;go_enter func205,ntmps205;go_wp2_with fail;refine HC.out.mono ?_;rintro e w1 ⟨rfl,rfl⟩;go_wp2_with fail;go_ret;have hg:=AG (b:=X) (i:=0) (y:=.string (str t)) (start w)
 cases B with
 | true =>
  rw [<- HO.out,if_pos rfl];exact ⟨hg,rfl,m,FM.put ((H.out.k.set 0 (.string (str t)) (by simp)).is rfl) hg ⟨H.out.l.o,H.out.l.ol,H.out.l.r,H.out.l.x,H.out.l.xl,hle rfl,H.out.l.tl⟩ H.out.oo H.out.od H.out.om H.out.oy H.out.ox H.out.own⟩
 | false=>rw [<- HO.out,if_neg (by decide)];exact ⟨hg,rfl⟩
theorem set_2 (t:Tx) (X:Nat) (e:Ev.E) (m:Mem) (v:Value) (seen:List Tx) (w:World) (h:FM w X e m v) (hv:∀ g,v.ownBlock=some g->g<w.heap.size) (he:EE w) (ht:t.length<=100000) :
  Calls prog 205 #[.pointer (some ⟨X,0,none⟩),.string (str Ev.BR),.string (str t)] w (O3 w X v (Ev.F4 unU seen e Ev.BR t)):=by
 have H0:Ev.F4 unU seen e Ev.BR t=(unU.f t).map fun m=>{ e with st:=m }:=by unfold Ev.F4;rw [if_neg (by decide),if_neg (by decide),Ev.vG]
 rw [H0];clear H0;obtain ⟨N,hN⟩:∃ N,Ev.BR=N:=⟨_,rfl⟩;have e0:(N==[66,69,71,73,78])=false:=by rw [<- hN];decide
 have e1:(N==[85,73,68])=false:=by rw [<- hN];decide
 have e2:(N==[68,84,83,84,65,82,84])=true:=by rw [<- hN];decide
 have q1:=AH N;have hts:(str t).size<=100000:=by rw [AB];exact ht
 have htl:(str t).data.toList=t:=AD t;have H:=A5 h;have HE:=A5 he;have HV:=A5 hv;have hX:=h.k.lt;rw [hN];clear h he hv hN;obtain ⟨O,hO⟩:∃ O,unU.f t=O:=⟨_,rfl⟩;have HC:=A5 (fun w (he:EE w)=>aZ t O w hO);rw [hO];clear hO;go_enter func205,ntmps205;go_wp2_with fail;refine (HC.out _ HE.out).mono ?_;rintro _ w1 ⟨n,hn,rfl,hb⟩;have HN:=A5 hn;clear hn;have H1:=A5 (H.out.keep hb);have HB:=A5 hb;have ck:w1.cell? ⟨X,2,none⟩=some (.int .i64 e.st):=H1.out.k.cell 2 (by simp);have fk:=H1.out.k.free 2;clear hb;go_wp2_with fail;go_ret;have hg:=AG (b:=X) (i:=2) (y:=.int .i64 n) HB.out
 cases O with
 | none=>exact ⟨hg,rfl⟩
 | some q =>
  obtain rfl:=HN.out q rfl;exact ⟨hg,rfl,m,FM.put ((H1.out.k.set 2 (.int .i64 n) (by simp)).is rfl) (AG (start w1)) ⟨H1.out.l.o,H1.out.l.ol,H1.out.l.r,H1.out.l.x,H1.out.l.xl,H1.out.l.ul,H1.out.l.tl⟩ H1.out.oo H1.out.od H1.out.om H1.out.oy H1.out.ox H1.out.own⟩
theorem set_3 (t:Tx) (X:Nat) (e:Ev.E) (m:Mem) (v:Value) (seen:List Tx) (w:World) (h:FM w X e m v) (hv:∀ g,v.ownBlock=some g->g<w.heap.size) (he:EE w) (ht:t.length<=100000) :
  Calls prog 205 #[.pointer (some ⟨X,0,none⟩),.string (str Ev.CQ),.string (str t)] w (O3 w X v (Ev.F4 unU seen e Ev.CQ t)):=by
 have H0:Ev.F4 unU seen e Ev.CQ t=(Ev.G9 t).map fun m=>{ e with lg:=m }:=by unfold Ev.F4;rw [if_neg (by decide),if_neg (by decide),Ev.vH]
 rw [H0];clear H0;obtain ⟨N,hN⟩:∃ N,Ev.CQ=N:=⟨_,rfl⟩;have e0:(N==[66,69,71,73,78])=false:=by rw [<- hN];decide
 have e1:(N==[85,73,68])=false:=by rw [<- hN];decide
 have e2:(N==[68,84,83,84,65,82,84])=false:=by rw [<- hN];decide
 have e3:(N==[68,85,82,65,84,73,79,78])=true:=by rw [<- hN];decide
 have q1:=AH N;have hts:(str t).size<=100000:=by rw [AB];exact ht
 have htl:(str t).data.toList=t:=AD t;have H:=A5 h;have HE:=A5 he;have HV:=A5 hv;have hX:=h.k.lt;rw [hN];clear h he hv hN;obtain ⟨O,hO⟩:∃ O,Ev.G9 t=O:=⟨_,rfl⟩;have HC:=A5 (fun w (he:EE w)=>A3b t O w he.e ht hO);rw [hO];clear hO;go_enter func205,ntmps205;go_wp2_with fail;refine (HC.out _ HE.out).mono ?_;rintro _ w1 ⟨n,hn,rfl,hb⟩;have HN:=A5 hn;clear hn;have H1:=A5 (H.out.keep hb);have HB:=A5 hb;have ck:w1.cell? ⟨X,3,none⟩=some (.int .i64 e.lg):=H1.out.k.cell 3 (by simp);have fk:=H1.out.k.free 3;clear hb;go_wp2_with fail;go_ret;have hg:=AG (b:=X) (i:=3) (y:=.int .i64 n) HB.out
 cases O with
 | none=>exact ⟨hg,rfl⟩
 | some q =>
  obtain rfl:=HN.out q rfl;exact ⟨hg,rfl,m,FM.put ((H1.out.k.set 3 (.int .i64 n) (by simp)).is rfl) (AG (start w1)) ⟨H1.out.l.o,H1.out.l.ol,H1.out.l.r,H1.out.l.x,H1.out.l.xl,H1.out.l.ul,H1.out.l.tl⟩ H1.out.oo H1.out.od H1.out.om H1.out.oy H1.out.ox H1.out.own⟩
theorem set_4 (t:Tx) (X:Nat) (e:Ev.E) (m:Mem) (v:Value) (seen:List Tx) (w:World) (h:FM w X e m v) (hv:∀ g,v.ownBlock=some g->g<w.heap.size) (he:EE w) (ht:t.length<=100000) :
  Calls prog 205 #[.pointer (some ⟨X,0,none⟩),.string (str Ev.DG),.string (str t)] w (O3 w X v (Ev.F4 unU seen e Ev.DG t)):=by
 have H0:Ev.F4 unU seen e Ev.DG t=(IM unU t).map fun r=>{ e with r:=r }:=by unfold Ev.F4;rw [if_neg (by decide),if_neg (by decide),Ev.vI]
 rw [H0];clear H0;obtain ⟨N,hN⟩:∃ N,Ev.DG=N:=⟨_,rfl⟩;have e0:(N==[66,69,71,73,78])=false:=by rw [<- hN];decide
 have e1:(N==[85,73,68])=false:=by rw [<- hN];decide
 have e2:(N==[68,84,83,84,65,82,84])=false:=by rw [<- hN];decide
 have e3:(N==[68,85,82,65,84,73,79,78])=false:=by rw [<- hN];decide
 have e4:(N==[82,82,85,76,69])=true:=by rw [<- hN];decide
 have q1:=AH N;have hts:(str t).size<=100000:=by rw [AB];exact ht
 have htl:(str t).data.toList=t:=AD t;have H:=A5 h;have HE:=A5 he;have HV:=A5 hv;have hX:=h.k.lt;rw [hN];clear h he hv hN;have HC:=A5 (fun w (he:EE w)=>qM (str t) w he.e hts);rw [htl] at HC;generalize IM unU t=O at *;go_enter func205,ntmps205;go_wp2_with fail;refine (HC.out _ HE.out).mono ?_;rintro _ w1 ⟨hb,r,D,dn,dc,M,mn,mc,Y,yn,yc,rfl,hn⟩;have HN:=A5 hn;clear hn;unfold M3;have H1:=A5 (H.out.keep hb);have HB:=A5 hb;have ck0:w1.cell? ⟨X,4,none⟩=some (.int .i64 e.r.fr):=H1.out.k.cell 4 (by simp);have fk0:=H1.out.k.free 4;have ck1:w1.cell? ⟨X,5,none⟩=some (.int .i64 e.r.ev):=H1.out.k.cell 5 (by simp);have fk1:=H1.out.k.free 5;have ck2:w1.cell? ⟨X,6,none⟩=some (.int .i64 e.r.ct):=H1.out.k.cell 6 (by simp);have fk2:=H1.out.k.free 6;have ck3:w1.cell? ⟨X,7,none⟩=some (.int .i64 e.r.un):=H1.out.k.cell 7 (by simp);have fk3:=H1.out.k.free 7;have ck4:w1.cell? ⟨X,8,none⟩=some (.slice m.D e.r.ds.length m.dc):=H1.out.k.cell 8 (by simp);have fk4:=H1.out.k.free 8;have ck5:w1.cell? ⟨X,9,none⟩=some (.slice m.M e.r.ms.length m.mc):=H1.out.k.cell 9 (by simp);have fk5:=H1.out.k.free 9;have ck6:w1.cell? ⟨X,10,none⟩=some (.slice m.Y e.r.ys.length m.yc):=H1.out.k.cell 10 (by simp);have fk6:=H1.out.k.free 10;clear hb;go_wp2_with fail;refine B6 (fun W=>W=CA w1 X 4 [.int .i64 r.fr,.int .i64 r.ev,.int .i64 r.ct,.int .i64 r.un,.slice D dn dc,.slice M mn mc,.slice Y yn yc]) rfl ?_;rintro W rfl;refine bodyPost_ret (v:=.bool O.isSome) (by simp [results,Tryz.results205,go_sem]) rfl ?_;have hg2:=F9 [.int .i64 r.fr,.int .i64 r.ev,.int .i64 r.ct,.int .i64 r.un,.slice D dn dc,.slice M mn mc,.slice Y yn yc] w1 X 4;have hg:=World.grownBy.trans (BC (b:=X) HB.out) hg2
 cases O with
 | none=>exact ⟨hg,rfl⟩
 | some q =>
  obtain ⟨rfl,hl,h1,h2,h3⟩:=HN.out q rfl;have hX1:X<w.heap.size:=hX;have hd:=hl.dn;have hm:=hl.mn;have hy:=hl.yn;subst hd hm hy;refine ⟨hg,rfl,⟨m.O,m.oc,D,dc,M,mc,Y,yc,m.X,m.xc⟩,FM.put ?_ hg2 ⟨H1.out.l.o,H1.out.l.ol,hl,H1.out.l.x,H1.out.l.xl,H1.out.l.ul,H1.out.l.tl⟩ H1.out.oo (Q2 h1 hX1 HV.out) (Q2 h2 hX1 HV.out) (Q2 h3 hX1 HV.out) H1.out.ox H1.out.own⟩;exact (((((((H1.out.k.set 4 (.int .i64 _) (by simp)).set 5 (.int .i64 _) (by simp)).set 6 (.int .i64 _) (by simp)).set 7 (.int .i64 _) (by simp)).set 8 (.slice D _ dc) (by simp)).set 9 (.slice M _ mc) (by simp)).set 10 (.slice Y _ yc) (by simp)).is rfl
theorem set_5 (t:Tx) (X:Nat) (e:Ev.E) (m:Mem) (v:Value) (seen:List Tx) (w:World) (h:FM w X e m v) (hv:∀ g,v.ownBlock=some g->g<w.heap.size) (he:EE w) (ht:t.length<=100000) :
  Calls prog 205 #[.pointer (some ⟨X,0,none⟩),.string (str Ev.nEX),.string (str t)] w (O3 w X v (Ev.F4 unU seen e Ev.nEX t)):=by
 have H0:Ev.F4 unU seen e Ev.nEX t=(Ev.exE unU t).map fun l=>{ e with ex:=l }:=by unfold Ev.F4;rw [if_neg (by decide),if_neg (by decide),Ev.vJ]
 rw [H0];clear H0;obtain ⟨N,hN⟩:∃ N,Ev.nEX=N:=⟨_,rfl⟩;have e0:(N==[66,69,71,73,78])=false:=by rw [<- hN];decide
 have e1:(N==[85,73,68])=false:=by rw [<- hN];decide
 have e2:(N==[68,84,83,84,65,82,84])=false:=by rw [<- hN];decide
 have e3:(N==[68,85,82,65,84,73,79,78])=false:=by rw [<- hN];decide
 have e4:(N==[82,82,85,76,69])=false:=by rw [<- hN];decide
 have e5:(N==[69,88,68,65,84,69])=true:=by rw [<- hN];decide
 have q1:=AH N;have hts:(str t).size<=100000:=by rw [AB];exact ht
 have htl:(str t).data.toList=t:=AD t;have H:=A5 h;have HE:=A5 he;have HV:=A5 hv;have hX:=h.k.lt;rw [hN];clear h he hv hN;obtain ⟨O,hO⟩:∃ O,(AK unU.f (Lib.splitN t [44] 13)).map (srt AI)=O:=⟨_,rfl⟩;have H0:Ev.exE unU t=Ev.JG Ev.exB O:=by rw [<- hO];rfl
 rw [H0];have hle:=J6 44 12 t;have hcon:=fun A_ cap_ w he hr=>gN A_ _ cap_ (Lib.splitN t [44] 13) w hr (PL 12 t) rfl (Nat.le_trans hle.2 (by omega)) (fun p hp=>Nat.le_trans (hle.1 p hp) ht) he
 have hlen:∀ l,O=some l->l.length<=1000:=fun l hl=>by
  rw [<- hO,Option.map_eq_some_iff] at hl;obtain ⟨xs,hx,rfl⟩:=hl;rw [(GI AI xs).length_eq,<- BF hx];exact Nat.le_trans hle.2 (by omega)
 have HLE:=A5 hlen;have HEL:=A5 (gL (str t) w HE.out.e hts);rw [htl] at HEL;rw [hO] at hcon;have HC:=A5 hcon;generalize (Lib.splitN t [44] 13)=LL at *;clear hO hcon hle hlen H0;go_enter func205,ntmps205;go_wp2_with fail;refine HEL.out.mono ?_;rintro _ w1 ⟨A,cap,rfl,hr,hb1⟩;have HB1:=A5 hb1;have HRR:=A5 hr;clear hb1 hr HEL;go_wp2_with fail;refine (HC.out A cap _ (HE.out.e.keep HB1.out) HRR.out).mono ?_;rintro _ w2 ⟨hb2,⟨rfl,rfl⟩|⟨l,v2,rfl,rfl,hown⟩⟩
 ·have HB:=A5 (andthen HB1.out hb2);clear hb2 HC HRR;have H1:=A5 (H.out.keep HB.out);have ck:w2.cell? ⟨X,11,none⟩=some (.slice m.X e.ex.length m.xc):=H1.out.k.cell 11 (by simp);have fk:=H1.out.k.free 11;go_wp2_with fail;go_ret;exact ⟨AG HB.out,rfl⟩
 ·have HB:=A5 (andthen HB1.out hb2);have hfrom:∀ A2 n2 c2,v2=.slice A2 n2 c2->∀ g o,A2=some ⟨g,o,none⟩->w.heap.size<=g:=fun A2 n2 c2 ev g o ea=>by subst ev;exact Nat.le_trans HB1.out.size (F5 hown g o ea)
  obtain ⟨A2,cap2,rfl,hrow⟩:=BV.row hown;have HNW:=A5 (hfrom A2 _ cap2 rfl);have hX1:X<w.heap.size:=hX;have hoff:IZ X v l A2:=Q2 HNW.out hX1 HV.out;have H1:=A5 (H.out.keep HB.out);have hlen:=HLE.out l rfl;have hg2:=AG (b:=X) (i:=11) (y:=.slice A2 l.length cap2) (start w2);have HRW:=A5 (hrow.past hg2 hoff.row);have HAR:=A5 (NU A2 l.length cap2 l _ HRW.out rfl (by omega));have HOF:=A5 hoff;have HRO:=A5 hrow;have ck:w2.cell? ⟨X,11,none⟩=some (.slice m.X e.ex.length m.xc):=H1.out.k.cell 11 (by simp);have fk:=H1.out.k.free 11;have cs:(w2.setCell ⟨X,11,none⟩ (.slice A2 l.length cap2)).cell? ⟨X,11,none⟩=some (.slice A2 l.length cap2):=World.cell?_setCell_same _ _ _ ck;have HRD:Hid (FM (w2.setCell ⟨X,11,none⟩ (.slice A2 l.length cap2)) X { e with ex:=l } ⟨m.O,m.oc,m.D,m.dc,m.M,m.mc,m.Y,m.yc,A2,cap2⟩ v):=A5 (FM.put ((H1.out.k.set 11 (.slice A2 l.length cap2) (by simp)).is rfl) hg2 ⟨H1.out.l.o,H1.out.l.ol,H1.out.l.r,HRO.out,hlen,H1.out.l.ul,H1.out.l.tl⟩ H1.out.oo H1.out.od H1.out.om H1.out.oy HOF.out H1.out.own);have HK:Hid (Ev.JG Ev.exB (some l)=if Ev.exB l=true then some l else none):=A5 rfl;obtain ⟨BB,hBB⟩:∃ BB,Ev.exB l=BB:=⟨_,rfl⟩;rw [hBB] at HAR;have HBB:=A5 hBB;clear hb2 hown hrow hfrom hoff HC HRR HRW hBB;go_wp2_with fail;refine HAR.out.mono ?_;rintro _ w3 ⟨rfl,hb3⟩;have HB3:=A5 hb3;clear hb3;go_wp2_with fail;go_ret;have hg:=World.grownBy.trans (World.grownBy.trans (BC (b:=X) HB.out) hg2) (BC HB3.out)
  cases BB with
  | true=>rw [HK.out,HBB.out,if_pos rfl];exact ⟨hg,rfl,_,HRD.out.keep HB3.out⟩
  | false=>rw [HK.out,HBB.out,if_neg (by decide)];exact ⟨hg,rfl⟩
theorem set_6 (t:Tx) (X:Nat) (e:Ev.E) (m:Mem) (v:Value) (seen:List Tx) (w:World) (h:FM w X e m v) (hv:∀ g,v.ownBlock=some g->g<w.heap.size) (he:EE w) (ht:t.length<=100000) :
  Calls prog 205 #[.pointer (some ⟨X,0,none⟩),.string (str Ev.BP),.string (str t)] w (O3 w X v (Ev.F4 unU seen e Ev.BP t)):=by
 have H0:Ev.F4 unU seen e Ev.BP t=(Ev.OJ t).map fun l=>{ e with rooms:=l }:=by unfold Ev.F4;rw [if_neg (by decide),if_neg (by decide),Ev.vK]
 rw [H0];clear H0;obtain ⟨N,hN⟩:∃ N,Ev.BP=N:=⟨_,rfl⟩;have e0:(N==[66,69,71,73,78])=false:=by rw [<- hN];decide
 have e1:(N==[85,73,68])=false:=by rw [<- hN];decide
 have e2:(N==[68,84,83,84,65,82,84])=false:=by rw [<- hN];decide
 have e3:(N==[68,85,82,65,84,73,79,78])=false:=by rw [<- hN];decide
 have e4:(N==[82,82,85,76,69])=false:=by rw [<- hN];decide
 have e5:(N==[69,88,68,65,84,69])=false:=by rw [<- hN];decide
 have e6:(N==[88,45,82,79,79,77,83])=true:=by rw [<- hN];decide
 have q1:=AH N;have hts:(str t).size<=100000:=by rw [AB];exact ht
 have htl:(str t).data.toList=t:=AD t;have H:=A5 h;have HE:=A5 he;have HV:=A5 hv;have hX:=h.k.lt;rw [hN];clear h he hv hN;obtain ⟨O,hO⟩:∃ O,(AK BJ (Lib.splitN t [44] 5)).map (srt AI)=O:=⟨_,rfl⟩;have H0:Ev.OJ t=Ev.JG Ev.EZ O:=by rw [<- hO];rfl
 rw [H0];have hle:=J6 44 4 t;have hcon:=fun A_ cap_ w he hr=>gM A_ _ cap_ (Lib.splitN t [44] 5) w hr (PL 4 t) rfl (Nat.le_trans hle.2 (by omega)) (fun p hp=>Nat.le_trans (hle.1 p hp) ht) he
 have hlen:∀ l,O=some l->l.length<=1000:=fun l hl=>by
  rw [<- hO,Option.map_eq_some_iff] at hl;obtain ⟨xs,hx,rfl⟩:=hl;rw [(GI AI xs).length_eq,<- BF hx];exact Nat.le_trans hle.2 (by omega)
 have HLE:=A5 hlen;have HEL:=A5 (kQ (str t) w HE.out.e hts);rw [htl] at HEL;rw [hO] at hcon;have HC:=A5 hcon;generalize (Lib.splitN t [44] 5)=LL at *;clear hO hcon hle hlen H0;go_enter func205,ntmps205;go_wp2_with fail;refine HEL.out.mono ?_;rintro _ w1 ⟨A,cap,rfl,hr,hb1⟩;have HB1:=A5 hb1;have HRR:=A5 hr;clear hb1 hr HEL;go_wp2_with fail;refine (HC.out A cap _ (HE.out.e.keep HB1.out) HRR.out).mono ?_;rintro _ w2 ⟨hb2,⟨rfl,rfl⟩|⟨l,v2,rfl,rfl,hown⟩⟩
 ·have HB:=A5 (andthen HB1.out hb2);clear hb2 HC HRR;have H1:=A5 (H.out.keep HB.out);have ck:w2.cell? ⟨X,12,none⟩=some (.slice m.O e.rooms.length m.oc):=H1.out.k.cell 12 (by simp);have fk:=H1.out.k.free 12;go_wp2_with fail;go_ret;exact ⟨AG HB.out,rfl⟩
 ·have HB:=A5 (andthen HB1.out hb2);have hfrom:∀ A2 n2 c2,v2=.slice A2 n2 c2->∀ g o,A2=some ⟨g,o,none⟩->w.heap.size<=g:=fun A2 n2 c2 ev g o ea=>by subst ev;exact Nat.le_trans HB1.out.size (F5 hown g o ea)
  obtain ⟨A2,cap2,rfl,hrow⟩:=BV.row hown;have HNW:=A5 (hfrom A2 _ cap2 rfl);have hX1:X<w.heap.size:=hX;have hoff:IZ X v l A2:=Q2 HNW.out hX1 HV.out;have H1:=A5 (H.out.keep HB.out);have hlen:=HLE.out l rfl;have hg2:=AG (b:=X) (i:=12) (y:=.slice A2 l.length cap2) (start w2);have HRW:=A5 (hrow.past hg2 hoff.row);have HAR:=A5 (P9 A2 l.length cap2 l _ HRW.out rfl (by omega));have HOF:=A5 hoff;have HRO:=A5 hrow;have ck:w2.cell? ⟨X,12,none⟩=some (.slice m.O e.rooms.length m.oc):=H1.out.k.cell 12 (by simp);have fk:=H1.out.k.free 12;have cs:(w2.setCell ⟨X,12,none⟩ (.slice A2 l.length cap2)).cell? ⟨X,12,none⟩=some (.slice A2 l.length cap2):=World.cell?_setCell_same _ _ _ ck;have HRD:Hid (FM (w2.setCell ⟨X,12,none⟩ (.slice A2 l.length cap2)) X { e with rooms:=l } ⟨A2,cap2,m.D,m.dc,m.M,m.mc,m.Y,m.yc,m.X,m.xc⟩ v):=A5 (FM.put ((H1.out.k.set 12 (.slice A2 l.length cap2) (by simp)).is rfl) hg2 ⟨HRO.out,hlen,H1.out.l.r,H1.out.l.x,H1.out.l.xl,H1.out.l.ul,H1.out.l.tl⟩ HOF.out H1.out.od H1.out.om H1.out.oy H1.out.ox H1.out.own);have HK:Hid (Ev.JG Ev.EZ (some l)=if Ev.EZ l=true then some l else none):=A5 rfl;obtain ⟨BB,hBB⟩:∃ BB,Ev.EZ l=BB:=⟨_,rfl⟩;rw [hBB] at HAR;have HBB:=A5 hBB;clear hb2 hown hrow hfrom hoff HC HRR HRW hBB;go_wp2_with fail;refine HAR.out.mono ?_;rintro _ w3 ⟨rfl,hb3⟩;have HB3:=A5 hb3;clear hb3;go_wp2_with fail;go_ret;have hg:=World.grownBy.trans (World.grownBy.trans (BC (b:=X) HB.out) hg2) (BC HB3.out)
  cases BB with
  | true=>rw [HK.out,HBB.out,if_pos rfl];exact ⟨hg,rfl,_,HRD.out.keep HB3.out⟩
  | false=>rw [HK.out,HBB.out,if_neg (by decide)];exact ⟨hg,rfl⟩
theorem set_7 (t:Tx) (X:Nat) (e:Ev.E) (m:Mem) (v:Value) (seen:List Tx) (w:World) (h:FM w X e m v) (hv:∀ g,v.ownBlock=some g->g<w.heap.size) (he:EE w) (ht:t.length<=100000) :
  Calls prog 205 #[.pointer (some ⟨X,0,none⟩),.string (str Ev.DH),.string (str t)] w (O3 w X v (Ev.F4 unU seen e Ev.DH t)):=by
 have H0:Ev.F4 unU seen e Ev.DH t=(Ev.MI t).map fun s=>{ e with text:=s }:=by unfold Ev.F4;rw [if_neg (by decide),if_neg (by decide),Ev.vN]
 rw [H0];clear H0;obtain ⟨N,hN⟩:∃ N,Ev.DH=N:=⟨_,rfl⟩;have e0:(N==[66,69,71,73,78])=false:=by rw [<- hN];decide
 have e1:(N==[85,73,68])=false:=by rw [<- hN];decide
 have e2:(N==[68,84,83,84,65,82,84])=false:=by rw [<- hN];decide
 have e3:(N==[68,85,82,65,84,73,79,78])=false:=by rw [<- hN];decide
 have e4:(N==[82,82,85,76,69])=false:=by rw [<- hN];decide
 have e5:(N==[69,88,68,65,84,69])=false:=by rw [<- hN];decide
 have e6:(N==[88,45,82,79,79,77,83])=false:=by rw [<- hN];decide
 have e7:(N==[83,85,77,77,65,82,89])=true:=by rw [<- hN];decide
 have q1:=AH N;have hts:(str t).size<=100000:=by rw [AB];exact ht
 have htl:(str t).data.toList=t:=AD t;have H:=A5 h;have HE:=A5 he;have HV:=A5 hv;have hX:=h.k.lt;rw [hN];clear h he hv hN;have HC:=A5 (fun w (he:EE w)=>gK (str t) w he.e hts);rw [htl] at HC;have hle:∀ s,Ev.MI t=some s->s.length<=40000:=fun s hs=>by
  unfold Ev.MI at hs
  split at hs
  ·split at hs
   ·rename_i hb;injection hs with hs;subst hs;have:=Ev.R7 hb;omega
   ·cases hs
  ·cases hs
 generalize Ev.MI t=O at *;go_enter func205,ntmps205;go_wp2_with fail;refine (HC.out _ HE.out).mono ?_;rintro _ w1 ⟨s,hn,rfl,hb⟩;have HN:=A5 hn;clear hn;have H1:=A5 (H.out.keep hb);have HB:=A5 hb;have ck:w1.cell? ⟨X,1,none⟩=some (.string (str e.text)):=H1.out.k.cell 1 (by simp);have fk:=H1.out.k.free 1;clear hb;go_wp2_with fail;go_ret;have hg:=AG (b:=X) (i:=1) (y:=.string (str s)) HB.out
 cases O with
 | none=>exact ⟨hg,rfl⟩
 | some q =>
  obtain rfl:=HN.out q rfl;exact ⟨hg,rfl,m,FM.put ((H1.out.k.set 1 (.string (str s)) (by simp)).is rfl) (AG (start w1)) ⟨H1.out.l.o,H1.out.l.ol,H1.out.l.r,H1.out.l.x,H1.out.l.xl,H1.out.l.ul,hle s rfl⟩ H1.out.oo H1.out.od H1.out.om H1.out.oy H1.out.ox H1.out.own⟩
abbrev four:List Tx:=[Ev.ER,Ev.BR,Ev.CQ,Ev.BP]
theorem xM (w:World) (t:TypeId):BU (w.alloc (.cells #[.string ⟨#[85,73,68]⟩,.string ⟨#[68,84,83,84,65,82,84]⟩,.string ⟨#[68,85,82,65,84,73,79,78]⟩,.string ⟨#[88,45,82,79,79,77,83]⟩] t)) (some ⟨w.heap.size,0,none⟩) four:=fun _=>by
 refine ⟨w.heap.size,0,rfl,by simp,fun i hi=>?_⟩;have hi4:i<4:=hi;rw [World.cell?_alloc_at _ _ _ _ rfl];rcases (by omega:i=0∨i=1∨i=2∨i=3) with rfl|rfl|rfl|rfl <;> rfl
theorem xN (seen:List Tx):(four.all fun p=>decide (p∈seen))=Ev.hasAll seen:=by
 simp only [four,List.all_cons,List.all_nil,Bool.and_true,Ev.hasAll]
theorem set_8 (t:Tx) (X:Nat) (e:Ev.E) (m:Mem) (v:Value) (seen:List Tx) (w:World) (h:FM w X e m v) (hv:∀ g,v.ownBlock=some g->g<w.heap.size) (he:EE w) (ht:t.length<=100000) (B:Nat) (ho:BY w B v seen) (hs:seen.length<=1000) :
  Calls prog 205 #[.pointer (some ⟨X,0,none⟩),.string (str Ev.DD),.string (str t)] w (O3 w X v (Ev.F4 unU seen e Ev.DD t)):=by
 have H0:Ev.F4 unU seen e Ev.DD t=if (decide (Li.AW t=Ev.wEV)&&(Ev.hasAll seen&&Ev.isE e))=true then some e else none:=by unfold Ev.F4;rw [if_neg (by decide),if_pos rfl]
 obtain ⟨O,hO⟩:∃ O,Ev.F4 unU seen e Ev.DD t=O:=⟨_,rfl⟩;rw [hO] at H0 ⊢;have HO:=A5 H0;clear H0 hO;obtain ⟨N,hN⟩:∃ N,Ev.DD=N:=⟨_,rfl⟩;have e0:(N==[66,69,71,73,78])=false:=by rw [<- hN];decide
 have e1:(N==[85,73,68])=false:=by rw [<- hN];decide
 have e2:(N==[68,84,83,84,65,82,84])=false:=by rw [<- hN];decide
 have e3:(N==[68,85,82,65,84,73,79,78])=false:=by rw [<- hN];decide
 have e4:(N==[82,82,85,76,69])=false:=by rw [<- hN];decide
 have e5:(N==[69,88,68,65,84,69])=false:=by rw [<- hN];decide
 have e6:(N==[88,45,82,79,79,77,83])=false:=by rw [<- hN];decide
 have e7:(N==[83,85,77,77,65,82,89])=false:=by rw [<- hN];decide
 have e8:(N==[69,78,68])=true:=by rw [<- hN];decide
 have q1:=AH N;obtain ⟨A2,cap2,rfl,hrow,_⟩:=BY.row ho;have H:=A5 h;have HE:=A5 he;have HR:=A5 hrow;rw [hN];clear h he hN hrow ho;obtain ⟨b1,hb1⟩:∃ b1,decide (Li.AW t=Ev.wEV)=b1:=⟨_,rfl⟩;obtain ⟨b2,hb2⟩:∃ b2,Ev.hasAll seen=b2:=⟨_,rfl⟩;obtain ⟨b3,hb3⟩:∃ b3,Ev.isE e=b3:=⟨_,rfl⟩;rw [hb1,hb2,hb3] at HO;have HC1:=A5 (sE t b1 w HE.out.f ht hb1);have HC2:=A5 (fun A c w h1 h2=>A0O X A A2 4 c seen.length cap2 four seen w h1 rfl (by decide) h2 rfl hs);rw [xN,hb2] at HC2;have HC3:=A5 (fun w h=>XY e m w h);rw [hb3] at HC3;clear hb1 hb2 hb3
 cases b1 with
 | false =>
  go_enter func205,ntmps205;go_wp2_with fail;refine HC1.out.mono ?_;rintro _ w1 ⟨rfl,hb⟩;go_wp2_with fail;go_ret;rw [HO.out,if_neg (by simp)];exact ⟨BC hb,rfl⟩
 | true =>
  go_enter func205,ntmps205;go_wp2_with fail;refine HC1.out.mono ?_;rintro _ w1 ⟨rfl,hb⟩;have hbm:=more hb (.cells #[.string ⟨#[85,73,68]⟩,.string ⟨#[68,84,83,84,65,82,84]⟩,.string ⟨#[68,85,82,65,84,73,79,78]⟩,.string ⟨#[88,45,82,79,79,77,83]⟩] 9);have hr4:=xM w1 9;have H1:=A5 (H.out.keep hbm);have HR1:=A5 (HR.out.keep hbm);have HB:=A5 hbm;have HR4:=A5 hr4;clear hb hbm hr4;go_wp2_with fail;refine (HC2.out _ 4 _ HR4.out HR1.out (H1.out.k.cell 13 (by simp))).mono ?_;rintro _ w2 ⟨rfl,hb⟩;replace H1:=A5 (H1.out.keep hb);replace HB:=A5 (andthen HB.out hb);clear hb HR1 HR4
  cases b2 with
  | false =>
   go_wp2_with fail;go_ret;rw [HO.out,if_neg (by simp)];exact ⟨BC HB.out,rfl⟩
  | true =>
   obtain ⟨⟨c0,-⟩,⟨c1,-⟩,⟨c2,-⟩,⟨c3,-⟩,⟨c4,-⟩,⟨c5,-⟩,⟨c6,-⟩,⟨c7,-⟩,⟨c8,-⟩,⟨c9,-⟩,⟨c10,-⟩,⟨c11,-⟩,⟨c12,-⟩,-⟩:=H1.out.k.c14;have HL:=A5 H1.out.l;go_wp2_with fail;refine (HC3.out _ HL.out).mono ?_;rintro _ w3 ⟨rfl,hb⟩;replace H1:=A5 (H1.out.keep hb);replace HB:=A5 (andthen HB.out hb);clear hb;go_wp2_with fail;go_ret;rw [HO.out]
   cases b3 with
   | true=>rw [if_pos (by rfl)];exact ⟨BC HB.out,rfl,_,H1.out⟩
   | false=>rw [if_neg (by simp)];exact ⟨BC HB.out,rfl⟩
theorem A0P (N t:Tx) (hN:N∈Ev.GX) (X:Nat) (e:Ev.E) (m:Mem) (v:Value) (seen:List Tx) (w:World) (h:FM w X e m v) (hv:∀ g,v.ownBlock=some g->g<w.heap.size) (he:EE w) (ht:t.length<=100000) (B:Nat) (ho:BY w B v seen) (hs:seen.length<=1000) :
  Calls prog 205 #[.pointer (some ⟨X,0,none⟩),.string (str N),.string (str t)] w (O3 w X v (Ev.F4 unU seen e N t)):=by
 unfold Ev.GX at hN;simp only [List.mem_cons,List.not_mem_nil,or_false] at hN;rcases hN with rfl|rfl|rfl|rfl|rfl|rfl|rfl|rfl|rfl
 ·exact set_0 t X e m v seen w h hv he ht
 ·exact set_1 t X e m v seen w h hv he ht
 ·exact set_2 t X e m v seen w h hv he ht
 ·exact set_3 t X e m v seen w h hv he ht
 ·exact set_4 t X e m v seen w h hv he ht
 ·exact set_5 t X e m v seen w h hv he ht
 ·exact set_6 t X e m v seen w h hv he ht
 ·exact set_7 t X e m v seen w h hv he ht
 ·exact set_8 t X e m v seen w h hv he ht B ho hs
def A2H (w:World) (X:Nat) (o:Option (Ev.E×List Tx)) (e:Ending) (w':World):Prop :=
 Below X w w'/\match o with
  | none=>e=.returned (.bool false)
  | some q=>e=.returned (.bool true)/\∃ m v,FM w' X q.1 m v/\BY w' (X+1) v q.2
theorem eW (e:Ev.E) (seen:List Tx) (n t:Tx) (h:(decide (seen=[]) != decide (n=Ev.AP))=true):Ev.FY unU e seen n t=none:=by unfold Ev.FY;rw [if_pos h]
theorem xO (e:Ev.E) (seen:List Tx) (n t:Tx) (h:(decide (seen=[]) != decide (n=Ev.AP))=false):Ev.FY unU e seen n t=if decide (n∈seen)=true then none else if decide (n∈Ev.GX)=true then (Ev.F4 unU (seen++[n]) e n t).map fun e'=>(e',seen++[n]) else some (e,seen):=by
 unfold Ev.FY;rw [if_neg (by rw [h];decide)];simp only [decide_eq_true_eq]
theorem len0 (l:List Tx):((l.length:Int)==0)=decide (l=[]):=by
 cases l with
 | nil=>rfl
 | cons a l=>simp;omega
theorem qJ (N t:Tx) (X:Nat) (e:Ev.E) (m:Mem) (v:Value) (seen:List Tx) (w:World) (h:FM w X e m v) (ho:BY w (X+1) v seen) (he:∀ w',Below X w w'->EE w') (ht:N∈Ev.GX->t.length<=100000) (hs:seen.length<=999) :
  Calls prog 172 #[.pointer (some ⟨X,0,none⟩),.string (str N),.string (str t)] w (A2H w X (Ev.FY unU e seen N t)):=by
 obtain ⟨A2,cap2,rfl,hrow,_⟩:=BY.row ho;have H:=A5 h;have HE:=A5 he;have HR:=A5 hrow;have HOW:=A5 ho;have hX:=h.k.lt;have HB:=A5 (Below.refl X w);have ck0:=h.k.cell 13 (by simp);simp only [rdV,List.getElem_cons_zero,List.getElem_cons_succ] at ck0;have q1:=AH N;obtain ⟨O,hO⟩:∃ O,Ev.FY unU e seen N t=O:=⟨_,rfl⟩;obtain ⟨f,hf⟩:∃ f,decide (seen=[])=f:=⟨_,rfl⟩;obtain ⟨g,hg⟩:∃ g,decide (N=Ev.AP)=g:=⟨_,rfl⟩;have e0:(N==[66,69,71,73,78])=g:=by rw [<- hg,AO];rfl
 have e1:((seen.length:Int)==0)=f:=by rw [<- hf,len0]
 have hx:(decide (seen=[]) != decide (N=Ev.AP))=(f != g):=by rw [hf,hg]
 rw [hO];clear hf hg h he hrow ho
 by_cases hfg:(f != g)=true
 ·rw [hfg] at hx;rw [eW e seen N t hx] at hO;have HO:=A5 hO.symm;clear hO hx
  cases f <;> cases g
  ·exact absurd hfg (by decide)
  iterate 2
   clear hfg;go_enter func172,ntmps172;go_wp2_with fail;go_ret;rw [HO.out];exact ⟨HB.out,rfl⟩
  exact absurd hfg (by decide)
 ·rw [Bool.not_eq_true] at hfg;rw [hfg] at hx;rw [xO e seen N t hx] at hO;have HO:=A5 hO.symm;have HCO:=A5 (fun w hr=>I5 N A2 seen.length cap2 seen w hr rfl (by omega));have HKN:Hid (∀ w,Calls prog 204 #[.string (str N)] w fun e w'=>e=.returned (.bool (decide (N∈Ev.GX)))/\w=w'):=A5 (fun w=>gO N w);obtain ⟨d,hd⟩:∃ d,decide (N∈seen)=d:=⟨_,rfl⟩;obtain ⟨k,hk⟩:∃ k,decide (N∈Ev.GX)=k:=⟨_,rfl⟩;rw [hd] at HCO;rw [hk] at HKN;rw [hd,hk] at HO;have HKT:Hid (k=true->N∈Ev.GX):=A5 (fun e=>of_decide_eq_true (hk.trans e));clear hO hx hd hk
  cases f <;> cases g
  case false.true=>exact absurd hfg (by decide)
  case true.false=>exact absurd hfg (by decide)
  all_goals
   clear hfg;go_enter func172,ntmps172;go_wp2_with fail;refine (HCO.out _ HR.out).mono ?_;rintro _ w1 ⟨rfl,hb1⟩;replace H:=A5 (H.out.keep hb1);replace HOW:=A5 (HOW.out.keep hb1);replace HB:=A5 (HB.out.trans (hb1.mono (Nat.le_trans (Nat.le_of_lt hX) HB.out.size)));clear hb1 HR
   cases d with
   | true =>
    go_wp2_with fail;go_ret;rw [HO.out]
    try simp only [if_true]
    exact ⟨HB.out,rfl⟩
   | false =>
    go_wp2_with fail;refine (HKN.out _).mono ?_;rintro _ _ ⟨rfl,rfl⟩
    cases k with
    | false =>
     go_wp2_with fail;go_ret;rw [HO.out]
     try simp only [Bool.false_eq_true,if_false]
     exact ⟨HB.out,rfl,_,_,H.out,HOW.out⟩
    | true =>
     have ck:=H.out.k.cell 13 (by simp);simp only [rdV,List.getElem_cons_zero,List.getElem_cons_succ] at ck;have hown1:=HOW.out;have hlt1:X+1<=w1.heap.size:=H.out.k.lt;have hs1:seen.length<=1000000:=by omega
     go_wp2_with (at_builtin;refine aO (l:=seen) (p:=N) rfl _ _ rfl rfl rfl rfl hown1 hlt1 hs1 ?_;intro v4 w4 hown4 hg4;obtain ⟨A4,cap4,rfl,_,_⟩:=BY.row hown4;have hl4:(seen++[N]).length=seen.length+1:=(by rw [z0J];rfl);rw [hl4] at hown4 hg4;have HOLD:=A5 (H.out.goes hg4);have ck4:w4.cell? ⟨X,13,none⟩=some (.slice A2 seen.length cap2):=HOLD.out.k.cell 13 (by simp);have fk4:=HOLD.out.k.free 13);replace ck4:True:=trivial;have hb4:=HB.out.grown hg4.grown (Nat.le_of_lt hlt1) fun k hk=>(by have:=(hown1.lt k hk).1;omega)
     have hg5:=AG (b:=X) (i:=13) (y:=.slice A4 (seen.length+1) cap4) (start w4);have hX4:X<w4.heap.size:=HOLD.out.k.lt;have hb5:=hb4.grown hg5 (Nat.le_of_lt hX4) fun k hk=>(by injection hk with hk;omega)
     have hown5:=World.ownsRow.kept hown4 hg5 (Or.inr fun e=>by have:=(hown4.lt X e).1;omega);have HRD:=A5 HOLD.out.set;have HB5:=A5 hb5;have HO5:=A5 hown5;have HS:=A5 (fun w h hv he B ho=>A0P N t (HKT.out (by first|trivial|rfl)) X e m (.slice A4 (seen.length+1) cap4) (seen++[N]) w h hv he (ht (HKT.out (by first|trivial|rfl))) B ho (by rw [z0J];simp only [List.length_cons,List.length_nil];omega));clear hb4 hg5 hb5 hown5 hown1 hlt1 hs1 hg4 hown4 ck;go_wp2_with fail;refine (HS.out _ HRD.out (fun g e=>(HO5.out.lt g e).2) (HE.out _ HB5.out) _ HO5.out).mono ?_;rintro e6 w6 ⟨hg6,h6⟩;have hX5:=HRD.out.k.lt;have hb6:=HB5.out.grown hg6 (Nat.le_of_lt hX5) fun k hk=>(by injection hk with hk;omega)
     have hown6:=World.ownsRow.kept HO5.out hg6 (Or.inr fun e=>by have:=(HO5.out.lt X e).1;omega);have HB6:=A5 hb6;have HO6:=A5 hown6
     try simp only [Bool.false_eq_true,if_true,if_false] at HO
     clear hg6 hb6 hown6
     cases hq:Ev.F4 unU (seen++[N]) e N t with
     | none =>
      rw [hq] at h6 HO;subst h6;go_wp2_with fail;go_ret;rw [HO.out];exact ⟨HB6.out,rfl⟩
     | some q =>
      rw [hq] at h6 HO;obtain ⟨rfl,m6,h6⟩:=h6;have H6:=A5 h6;clear h6;go_wp2_with fail;go_ret;rw [HO.out];exact ⟨HB6.out,rfl,m6,_,H6.out,HO6.out⟩
end Go.Proofs.YtfecnkhoojnkbaaGreatDoor

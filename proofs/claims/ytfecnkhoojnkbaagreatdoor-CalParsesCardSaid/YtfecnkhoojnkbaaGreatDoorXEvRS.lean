import Derived.Test.YtfecnkhoojnkbaaGreatDoorXW18
import Derived.Test.YtfecnkhoojnkbaaGreatDoorXW20
import Derived.Test.YtfecnkhoojnkbaaGreatDoorXC1
import Derived.Test.YtfecnkhoojnkbaaGreatDoorXFoR
set_option maxHeartbeats 8000000
set_option maxRecDepth 1000000
namespace Go.Proofs.YtfecnkhoojnkbaaGreatDoor
open Go.RowKit Rul Rt Go.Sort Tryz
abbrev evC (e:Ev.E) (m:Mem):List Value:=[.string (str e.uid),.string (str e.text),.int .i64 e.st,.int .i64 e.lg,.slice m.O e.rooms.length m.oc,.int .i64 e.r.fr,.int .i64 e.r.ev,.int .i64 e.r.ct,.int .i64 e.r.un,.slice m.D e.r.ds.length m.dc,.slice m.M e.r.ms.length m.mc,.slice m.Y e.r.ys.length m.yc,.slice m.X e.ex.length m.xc]
def I9 {α:Type} (B:Nat) (l:List α) (A:Option Addr):Prop:=l≠[]->∀ g o,A=some ⟨g,o,none⟩->B<=g
structure G4 (w:World) (X B:Nat) (e:Ev.E) (m:Mem):Prop where
 k:AX w X (evC e m)
 l:EvL w e m
 oo:I9 B e.rooms m.O
 od:I9 B e.r.ds m.D
 om:I9 B e.r.ms m.M
 oy:I9 B e.r.ys m.Y
 ox:I9 B e.ex m.X
 xb:X<B
 bs:B<=w.heap.size
theorem G4.keep {w w':World} {X B:Nat} {e:Ev.E} {m:Mem} (h:G4 w X B e m) (hb:Below w.heap.size w w'):G4 w' X B e m :=
 ⟨h.k.keep hb,h.l.keep hb,h.oo,h.od,h.om,h.oy,h.ox,h.xb,Nat.le_trans h.bs hb.size⟩
theorem I9.row {α:Type} {X B:Nat} {l:List α} {A:Option Addr} (h:I9 B l A) (hX:X<B):l≠[]->∀ b o,A=some ⟨b,o,none⟩->some b≠some X:=fun hn b o e k=>by have:=h hn b o e;injection k with k;omega
theorem G4.put {w w':World} {X B:Nat} {e:Ev.E} {m:Mem} (hx:X<B) (hs:B<=w.heap.size) (k:AX w' X (evC e m)) (g:w.grownBy w' (some X)) (l:EvL w e m) (oo:I9 B e.rooms m.O) (od:I9 B e.r.ds m.D) (om:I9 B e.r.ms m.M) (oy:I9 B e.r.ys m.Y) (ox:I9 B e.ex m.X):G4 w' X B e m :=
 ⟨k,l.past g (oo.row hx) (od.row hx) (om.row hx) (oy.row hx) (ox.row hx),oo,od,om,oy,ox,hx,Nat.le_trans hs g.size⟩
theorem G4.far {w:World} {X B c i:Nat} {e:Ev.E} {m:Mem} {y:Value} (h:G4 w X B e m) (hc:c<B) (hne:c≠X):G4 (w.setCell ⟨c,i,none⟩ y) X B e m :=
 ⟨h.k.far hne,h.l.past (AG (start w)) (h.oo.row hc) (h.od.row hc) (h.om.row hc) (h.oy.row hc) (h.ox.row hc),h.oo,h.od,h.om,h.oy,h.ox,h.xb,by rw [World.size_setCell];exact h.bs⟩
theorem cF {α:Type} {B N:Nat} {l:List α} {A:Option Addr} (h:∀ g o,A=some ⟨g,o,none⟩->N<=g) (hX:B<=N):I9 B l A:=fun _ g o e=>Nat.le_trans hX (h g o e)
def RS (w:World) (X B:Nat) (o:Option Ev.E) (e:Ending) (w':World):Prop :=
 w.grownBy w' (some X)/\match o with
  | none=>e=.returned (.bool false)
  | some q=>e=.returned (.bool true)/\∃ m,G4 w' X B q m
theorem A24 (t:Tx) (X B:Nat) (e:Ev.E) (m:Mem) (w:World) (h:G4 w X B e m) (ht:t.length<=8400) :
  Calls prog 103 #[.pointer (some ⟨X,0,none⟩),.string (str Ev.ER),.string (str t)] w (RS w X B (Ev.FH unU e Ev.ER t)):=by
 have H0:Ev.FH unU e Ev.ER t=if Ev.FT t=true then some { e with uid:=t } else none:=Ev.vF ..
 rw [H0];clear H0;obtain ⟨N,hN⟩:∃ N,Ev.ER=N:=⟨_,rfl⟩;have e0:(N==[85,73,68])=true:=by rw [<- hN];decide
 have q1:=AH N;have hts:(str t).size<=8400:=by rw [AB];exact ht
 have htl:(str t).data.toList=t:=AD t;have H:=A5 h;have hX:=h.k.lt;have hxb:=h.xb;have hbs:=h.bs;rw [hN];clear h hN;have HC:=A5 (fun w=>ZT t w (by omega) rfl);generalize Ev.FT t=B at *;obtain ⟨O,hO⟩:∃ O,(if B=true then some { e with uid:=t } else none)=O:=⟨_,rfl⟩;rw [hO];have HO:=A5 hO;clear hO;have ck:w.cell? ⟨X,0,none⟩=some (.string (str e.uid)):=H.out.k.cell 0 (by simp);have fk:=H.out.k.free 0;go_enter func103,ntmps103;go_wp2_with fail;refine (HC.out _).mono ?_;rintro e w1 ⟨rfl,rfl⟩;go_wp2_with fail;go_ret;have hg:=AG (b:=X) (i:=0) (y:=.string (str t)) (start w)
 cases B with
 | true =>
  rw [<- HO.out,if_pos rfl];exact ⟨hg,rfl,m,G4.put hxb hbs ((H.out.k.set 0 (.string (str t)) (by simp)).is rfl) hg ⟨H.out.l.o,H.out.l.ol,H.out.l.r,H.out.l.x,H.out.l.xl,by show t.length<=40000;omega,H.out.l.tl⟩ H.out.oo H.out.od H.out.om H.out.oy H.out.ox⟩
 | false=>rw [<- HO.out,if_neg (by decide)];exact ⟨hg,rfl⟩
theorem A25 (t:Tx) (X B:Nat) (e:Ev.E) (m:Mem) (w:World) (h:G4 w X B e m) (ht:t.length<=8400) :
  Calls prog 103 #[.pointer (some ⟨X,0,none⟩),.string (str Ev.BR),.string (str t)] w (RS w X B (Ev.FH unU e Ev.BR t)):=by
 have H0:Ev.FH unU e Ev.BR t=(unU.f t).map fun m=>{ e with st:=m }:=Ev.vG ..
 rw [H0];clear H0;obtain ⟨N,hN⟩:∃ N,Ev.BR=N:=⟨_,rfl⟩;have e0:(N==[85,73,68])=false:=by rw [<- hN];decide
 have e1:(N==[68,84,83,84,65,82,84])=true:=by rw [<- hN];decide
 have q1:=AH N;have hts:(str t).size<=8400:=by rw [AB];exact ht
 have htl:(str t).data.toList=t:=AD t;have H:=A5 h;have hX:=h.k.lt;have hxb:=h.xb;have hbs:=h.bs;rw [hN];clear h hN;have HC:=A5 (fun w=>OO (str t) w);rw [htl] at HC;have hun:unU.f t=if (BZ t).2=0 then some (BZ t).1 else none:=rfl
 rw [hun];obtain ⟨⟨n,c⟩,hP⟩:∃ P,BZ t=P:=⟨_,rfl⟩;rw [hP] at HC ⊢;clear hun hP;simp only at HC ⊢
 by_cases hc:c=0
 ·have q2:(c==0)=true:=beq_iff_eq.2 hc;rw [if_pos hc];clear hc;go_enter func103,ntmps103;go_wp2_with fail;refine (HC.out _).mono ?_;rintro _ w1 ⟨rfl,hb⟩;have H1:=A5 (H.out.keep hb);have HB:=A5 hb;have ck:w1.cell? ⟨X,2,none⟩=some (.int .i64 e.st):=H1.out.k.cell 2 (by simp);have fk:=H1.out.k.free 2;clear hb;go_wp2_with fail;go_ret;have hg:=AG (b:=X) (i:=2) (y:=.int .i64 n) HB.out;exact ⟨hg,rfl,m,G4.put hxb H1.out.bs ((H1.out.k.set 2 (.int .i64 n) (by simp)).is rfl) (AG (start w1)) ⟨H1.out.l.o,H1.out.l.ol,H1.out.l.r,H1.out.l.x,H1.out.l.xl,H1.out.l.ul,H1.out.l.tl⟩ H1.out.oo H1.out.od H1.out.om H1.out.oy H1.out.ox⟩
 ·have q2:(c==0)=false:=beq_eq_false_iff_ne.2 hc;rw [if_neg hc];clear hc;go_enter func103,ntmps103;go_wp2_with fail;refine (HC.out _).mono ?_;rintro _ w1 ⟨rfl,hb⟩;have H1:=A5 (H.out.keep hb);have HB:=A5 hb;have ck:w1.cell? ⟨X,2,none⟩=some (.int .i64 e.st):=H1.out.k.cell 2 (by simp);have fk:=H1.out.k.free 2;clear hb;go_wp2_with fail;go_ret;exact ⟨AG (b:=X) (i:=2) (y:=.int .i64 n) HB.out,rfl⟩
theorem zW {t:Tx} (h:t.length<4∨t.take 2≠Ev.wPT∨t.getLast?≠some 77):Ev.G9 t=none:=by
 rw [Ev.UZ];unfold Ev.lX
 split
 ·rename_i hf
  unfold Ev.GK at hf;rw [Bool.and_eq_true,Bool.and_eq_true,decide_eq_true_eq,decide_eq_true_eq,decide_eq_true_eq] at hf;rcases h with h|h|h
  ·have:Ev.within t=[]:=List.eq_nil_of_length_eq_zero (by unfold Ev.within;rw [List.length_dropLast,List.length_drop];omega);rw [this];rfl
  ·exact absurd hf.1 h
  ·exact absurd hf.2.2 h
 ·rfl
theorem tX {t:Tx} (h1:¬ t.length<4) (h2:t.take 2=Ev.wPT) (h3:t.getLast?=some 77):Ev.G9 t=Ev.PU Ev.lgB (B8 (Ev.within t) false):=by
 rw [Ev.UZ];unfold Ev.lX Ev.GK;rw [z0H h2,z0H h3,z0H (show 3<=t.length by omega)];exact if_pos rfl
theorem A26 (t:Tx) (X B:Nat) (e:Ev.E) (m:Mem) (w:World) (h:G4 w X B e m) (ht:t.length<=8400) :
  Calls prog 103 #[.pointer (some ⟨X,0,none⟩),.string (str Ev.CQ),.string (str t)] w (RS w X B (Ev.FH unU e Ev.CQ t)):=by
 have H0:Ev.FH unU e Ev.CQ t=(Ev.G9 t).map fun m=>{ e with lg:=m }:=Ev.vH ..
 rw [H0];clear H0;obtain ⟨N,hN⟩:∃ N,Ev.CQ=N:=⟨_,rfl⟩;have e0:(N==[85,73,68])=false:=by rw [<- hN];decide
 have e1:(N==[68,84,83,84,65,82,84])=false:=by rw [<- hN];decide
 have e2:(N==[68,85,82,65,84,73,79,78])=true:=by rw [<- hN];decide
 have q1:=AH N;have hts:(str t).size<=8400:=by rw [AB];exact ht
 have htl:(str t).data.toList=t:=AD t;have H:=A5 h;have hX:=h.k.lt;have hxb:=h.xb;have hbs:=h.bs;rw [hN];clear h hN;have HL1:=A5 (fun h=>zW (t:=t) h);have HL2:=A5 (fun h1 h2 h3=>tX (t:=t) h1 h2 h3);obtain ⟨L,hL⟩:∃ L,Ev.G9 t=L:=⟨_,rfl⟩;rw [hL] at HL1 HL2 ⊢;clear hL;have hs2:(str t).extract 0 2=str (t.take 2):=by rw [GO,AD,List.drop_zero]
 by_cases h4:t.length<4
 ·have g:((str t).size:Int)<4:=by rw [AB];omega
  have HL:=A5 (HL1.out (Or.inl h4));rw [HL.out];clear h4 hs2;go_enter func103,ntmps103;go_wp2_with fail;go_ret;exact ⟨BC (start _),rfl⟩
 ·obtain ⟨P,hP⟩:∃ P,t.take 2=P:=⟨_,rfl⟩;rw [hP] at hs2;have qp:=AH P;obtain ⟨n,hn⟩:∃ n,t.length=n+1:=⟨t.length-1,by omega⟩;have hsz:(str t).size=n+1:=by rw [AB];exact hn
  have g1:¬ ((str t).size:Int)<4:=by omega
  have g2:(2:Int)<=((str t).size:Int):=by omega
  by_cases h2:P=Ev.wPT
  ·have ep:(P==[80,84])=true:=beq_iff_eq.2 h2;have hns:n<(str t).size:=by omega
   obtain ⟨c,hc⟩:∃ c,(str t)[n]'hns=c:=⟨_,rfl⟩;have hlast:t.getLast?=some c:=by
    rw [List.getLast?_eq_getElem?,hn,Nat.add_sub_cancel,List.getElem?_eq_getElem (by omega),<- hc];have:=NO (str t) n hns (by rw [AD];omega);rw [<- this];simp only [AD]
   have hb7:((c.toNat:Int)==77)=decide (c=77):=BN c 77
   by_cases h7:c=77
   ·have q7:((c.toNat:Int) != 77)=false:=by rw [bne,hb7,z0H h7];rfl
    have HL:=A5 (HL2.out h4 (by rw [hP];exact h2) (by rw [hlast,h7]));have hw:(str t).extract 2 n=str (Ev.within t):=by
     rw [GO,AD]
     congr 1
     unfold Ev.within;rw [List.dropLast_eq_take,List.length_drop,hn,List.drop_take]
     congr 1
    have hwl:(Ev.within t).length<=8400:=by unfold Ev.within;rw [List.length_dropLast,List.length_drop];omega
    have HDC:=A5 (fun w=>MT (str (Ev.within t)) false w (by rw [AB];omega));rw [AD] at HDC;have ck:w.cell? ⟨X,3,none⟩=some (.int .i64 e.lg):=H.out.k.cell 3 (by simp);have fk:=H.out.k.free 3;have g3:(2:Int)<=(n:Int):=by omega
    have g4:(n:Int)<=(n:Int)+1:=by omega
    generalize Ev.within t=V at *;clear hb7 h4 h2 h7 hP hlast HL1 HL2 hn
    cases hd:B8 V false with
    | none =>
     rw [BG hd] at HDC;have HLN:Hid (L=none):=A5 (by rw [HL.out,hd];rfl);have ck2:(w.setCell ⟨X,3,none⟩ (.int .i64 0)).cell? ⟨X,3,none⟩=some (.int .i64 0):=World.cell?_setCell_same _ _ _ ck;clear hd HL;go_enter func103,ntmps103;go_wp2_with fail;refine (HDC.out _).mono ?_;rintro _ w1 ⟨rfl,rfl⟩;go_wp2_with fail;go_ret;rw [HLN.out];exact ⟨AG (b:=X) (i:=3) (y:=.int .i64 0) (start _),rfl⟩
    | some x =>
     rw [EO hd] at HDC;have HLN:Hid (L=Ev.PU Ev.lgB (some x)):=A5 (by rw [HL.out,hd]);have HG:=A5 (AG (b:=X) (i:=3) (y:=.int .i64 x) (start w));have HN:Hid (G4 (w.setCell ⟨X,3,none⟩ (.int .i64 x)) X B { e with lg:=x } m):=A5 (G4.put hxb hbs ((H.out.k.set 3 (.int .i64 x) (by simp)).is rfl) HG.out ⟨H.out.l.o,H.out.l.ol,H.out.l.r,H.out.l.x,H.out.l.xl,H.out.l.ul,H.out.l.tl⟩ H.out.oo H.out.od H.out.om H.out.oy H.out.ox);have ck2:(w.setCell ⟨X,3,none⟩ (.int .i64 x)).cell? ⟨X,3,none⟩=some (.int .i64 x):=World.cell?_setCell_same _ _ _ ck;clear hd HL
     by_cases x1:1<=x
     ·have d1:decide ((1:Int)<=x)=true:=z0H x1
      by_cases x2:x<=10080
      ·have d2:decide (x<=(10080:Int))=true:=z0H x2;have HE:Hid (L=some x):=A5 (by rw [HLN.out,Ev.OI];exact ⟨rfl,by rw [Ev.lgB,AY];omega⟩);clear x1 x2 HLN;go_enter func103,ntmps103;go_wp2_with fail;refine (HDC.out _).mono ?_;rintro _ w1 ⟨rfl,rfl⟩;go_wp2_with fail;go_ret;rw [HE.out];exact ⟨HG.out,rfl,_,HN.out⟩
      ·have d2:decide (x<=(10080:Int))=false:=z0G x2;have HE:Hid (L=none):=A5 (by
        rw [HLN.out];unfold Ev.PU;simp only;rw [if_neg];rw [Ev.lgB,AY];omega)
       clear x1 x2 HLN;go_enter func103,ntmps103;go_wp2_with fail;refine (HDC.out _).mono ?_;rintro _ w1 ⟨rfl,rfl⟩;go_wp2_with fail;go_ret;rw [HE.out];exact ⟨HG.out,rfl⟩
     ·have d1:decide ((1:Int)<=x)=false:=z0G x1;have HE:Hid (L=none):=A5 (by
       rw [HLN.out];unfold Ev.PU;simp only;rw [if_neg];rw [Ev.lgB,AY];omega)
      clear x1 HLN;go_enter func103,ntmps103;go_wp2_with fail;refine (HDC.out _).mono ?_;rintro _ w1 ⟨rfl,rfl⟩;go_wp2_with fail;go_ret;rw [HE.out];exact ⟨HG.out,rfl⟩
   ·have q7:((c.toNat:Int) != 77)=true:=by rw [bne,hb7,z0G h7];rfl
    have HL:=A5 (HL1.out (Or.inr (Or.inr (by rw [hlast];intro e;injection e with e;exact h7 e))));clear hb7 h4 h2 h7 hP hlast HL1 HL2 hn;go_enter func103,ntmps103;go_wp2_with fail;go_ret;rw [HL.out];exact ⟨BC (start _),rfl⟩
  ·have ep:(P==[80,84])=false:=beq_eq_false_iff_ne.2 h2;have HL:=A5 (HL1.out (Or.inr (Or.inl (by rw [hP];exact h2))));rw [HL.out];clear h4 h2 hP;go_enter func103,ntmps103;go_wp2_with fail;go_ret;exact ⟨BC (start _),rfl⟩
theorem A27 (t:Tx) (X B:Nat) (e:Ev.E) (m:Mem) (w:World) (h:G4 w X B e m) (ht:t.length<=8400) :
  Calls prog 103 #[.pointer (some ⟨X,0,none⟩),.string (str Ev.DG),.string (str t)] w (RS w X B (Ev.FH unU e Ev.DG t)):=by
 have H0:Ev.FH unU e Ev.DG t=(IM unU t).map fun r=>{ e with r:=r }:=Ev.vI ..
 rw [H0];clear H0;obtain ⟨N,hN⟩:∃ N,Ev.DG=N:=⟨_,rfl⟩;have e0:(N==[85,73,68])=false:=by rw [<- hN];decide
 have e1:(N==[68,84,83,84,65,82,84])=false:=by rw [<- hN];decide
 have e2:(N==[68,85,82,65,84,73,79,78])=false:=by rw [<- hN];decide
 have e3:(N==[82,82,85,76,69])=true:=by rw [<- hN];decide
 have q1:=AH N;have hts:(str t).size<=8400:=by rw [AB];exact ht
 have htl:(str t).data.toList=t:=AD t;have H:=A5 h;have hX:=h.k.lt;have hxb:=h.xb;have hbs:=h.bs;rw [hN];clear h hN;have HC:=A5 (fun w=>rI (str t) w (by omega));rw [htl,<- X9] at HC;generalize IM unU t=O at *;go_enter func103,ntmps103;go_wp2_with fail;refine (HC.out _).mono ?_;rintro _ w1 ⟨hb,⟨rfl,rfl⟩|⟨q,D,dn,dc,M,mn,mc,Y,yn,yc,rfl,rfl,hr⟩⟩
 ·unfold DM;have H1:=A5 (H.out.keep hb);have HB:=A5 hb;have ck0:w1.cell? ⟨X,5,none⟩=some (.int .i64 e.r.fr):=H1.out.k.cell 5 (by simp);have fk0:=H1.out.k.free 5;have ck1:w1.cell? ⟨X,6,none⟩=some (.int .i64 e.r.ev):=H1.out.k.cell 6 (by simp);have fk1:=H1.out.k.free 6;have ck2:w1.cell? ⟨X,7,none⟩=some (.int .i64 e.r.ct):=H1.out.k.cell 7 (by simp);have fk2:=H1.out.k.free 7;have ck3:w1.cell? ⟨X,8,none⟩=some (.int .i64 e.r.un):=H1.out.k.cell 8 (by simp);have fk3:=H1.out.k.free 8;have ck4:w1.cell? ⟨X,9,none⟩=some (.slice m.D e.r.ds.length m.dc):=H1.out.k.cell 9 (by simp);have fk4:=H1.out.k.free 9;have ck5:w1.cell? ⟨X,10,none⟩=some (.slice m.M e.r.ms.length m.mc):=H1.out.k.cell 10 (by simp);have fk5:=H1.out.k.free 10;have ck6:w1.cell? ⟨X,11,none⟩=some (.slice m.Y e.r.ys.length m.yc):=H1.out.k.cell 11 (by simp);have fk6:=H1.out.k.free 11;clear hb;go_wp2_with fail;refine B6 (fun W=>W=CA w1 X 5 [.int .i64 0,.int .i64 0,.int .i64 0,.int .i64 0,.slice none 0 0,.slice none 0 0,.slice none 0 0]) rfl ?_;rintro W rfl;refine bodyPost_ret (v:=.bool false) (by simp [results,Tryz.results103,go_sem]) rfl ?_;exact ⟨World.grownBy.trans (BC (b:=X) HB.out) (F9 _ w1 X 5),rfl⟩
 ·unfold M3;have H1:=A5 (H.out.keep hb);have HB:=A5 hb;have HL:=A5 hr.BD;have hd:I9 B q.ds D:=fun _ g o e=>by have:=(hr.od g o e).2.2.2;omega
  have hm:I9 B q.ms M:=fun _ g o e=>by have:=(hr.om g o e).2.2.2;omega
  have hy:I9 B q.ys Y:=fun _ g o e=>by have:=(hr.oy g o e).2.2.2;omega
  have HD:=A5 hd;have HM:=A5 hm;have HY:=A5 hy;have ck0:w1.cell? ⟨X,5,none⟩=some (.int .i64 e.r.fr):=H1.out.k.cell 5 (by simp);have fk0:=H1.out.k.free 5;have ck1:w1.cell? ⟨X,6,none⟩=some (.int .i64 e.r.ev):=H1.out.k.cell 6 (by simp);have fk1:=H1.out.k.free 6;have ck2:w1.cell? ⟨X,7,none⟩=some (.int .i64 e.r.ct):=H1.out.k.cell 7 (by simp);have fk2:=H1.out.k.free 7;have ck3:w1.cell? ⟨X,8,none⟩=some (.int .i64 e.r.un):=H1.out.k.cell 8 (by simp);have fk3:=H1.out.k.free 8;have ck4:w1.cell? ⟨X,9,none⟩=some (.slice m.D e.r.ds.length m.dc):=H1.out.k.cell 9 (by simp);have fk4:=H1.out.k.free 9;have ck5:w1.cell? ⟨X,10,none⟩=some (.slice m.M e.r.ms.length m.mc):=H1.out.k.cell 10 (by simp);have fk5:=H1.out.k.free 10;have ck6:w1.cell? ⟨X,11,none⟩=some (.slice m.Y e.r.ys.length m.yc):=H1.out.k.cell 11 (by simp);have fk6:=H1.out.k.free 11;clear hb hr hd hm hy;go_wp2_with fail;refine B6 (fun W=>W=CA w1 X 5 [.int .i64 q.fr,.int .i64 q.ev,.int .i64 q.ct,.int .i64 q.un,.slice D dn dc,.slice M mn mc,.slice Y yn yc]) rfl ?_;rintro W rfl;refine bodyPost_ret (v:=.bool true) (by simp [results,Tryz.results103,go_sem]) rfl ?_;have hg2:=F9 [.int .i64 q.fr,.int .i64 q.ev,.int .i64 q.ct,.int .i64 q.un,.slice D dn dc,.slice M mn mc,.slice Y yn yc] w1 X 5;have hg:=World.grownBy.trans (BC (b:=X) HB.out) hg2;have hdn:=HL.out.dn;have hmn:=HL.out.mn;have hyn:=HL.out.yn;have hl:=HL.out;clear HL;subst hdn hmn hyn;refine ⟨hg,rfl,⟨m.O,m.oc,D,dc,M,mc,Y,yc,m.X,m.xc⟩,G4.put hxb H1.out.bs ?_ hg2 ⟨H1.out.l.o,H1.out.l.ol,hl,H1.out.l.x,H1.out.l.xl,H1.out.l.ul,H1.out.l.tl⟩ H1.out.oo HD.out HM.out HY.out H1.out.ox⟩;exact (((((((H1.out.k.set 5 (.int .i64 _) (by simp)).set 6 (.int .i64 _) (by simp)).set 7 (.int .i64 _) (by simp)).set 8 (.int .i64 _) (by simp)).set 9 (.slice D _ dc) (by simp)).set 10 (.slice M _ mc) (by simp)).set 11 (.slice Y _ yc) (by simp)).is rfl
theorem A28 (t:Tx) (X B:Nat) (e:Ev.E) (m:Mem) (w:World) (h:G4 w X B e m) (ht:t.length<=8400) :
  Calls prog 103 #[.pointer (some ⟨X,0,none⟩),.string (str Ev.nEX),.string (str t)] w (RS w X B (Ev.FH unU e Ev.nEX t)):=by
 have H0:Ev.FH unU e Ev.nEX t=(Ev.exE unU t).map fun l=>{ e with ex:=l }:=Ev.vJ ..
 rw [H0];clear H0;obtain ⟨N,hN⟩:∃ N,Ev.nEX=N:=⟨_,rfl⟩;have e0:(N==[85,73,68])=false:=by rw [<- hN];decide
 have e1:(N==[68,84,83,84,65,82,84])=false:=by rw [<- hN];decide
 have e2:(N==[68,85,82,65,84,73,79,78])=false:=by rw [<- hN];decide
 have e3:(N==[82,82,85,76,69])=false:=by rw [<- hN];decide
 have e4:(N==[69,88,68,65,84,69])=true:=by rw [<- hN];decide
 have q1:=AH N;have hts:(str t).size<=8400:=by rw [AB];exact ht
 have htl:(str t).data.toList=t:=AD t;have H:=A5 h;have hX:=h.k.lt;have hxb:=h.xb;have hbs:=h.bs;rw [hN];clear h hN;rw [Ev.uX unU sM];have HC:=A5 (fun w=>jR (str t) w (by omega));rw [htl] at HC;have hle:∀ l,FD AI unU.f t=some l->l.length<=10000:=fun l hl=>by have:=KR hl;omega
 unfold Ev.exR;generalize FD AI unU.f t=O at *;have HLE:=A5 hle;clear hle;go_enter func103,ntmps103;go_wp2_with fail;refine (HC.out _).mono ?_;rintro _ w1 ⟨hb,⟨rfl,rfl⟩|⟨l,v,rfl,rfl,hown⟩⟩
 ·have H1:=A5 (H.out.keep hb);have HB:=A5 hb;have ck:w1.cell? ⟨X,12,none⟩=some (.slice m.X e.ex.length m.xc):=H1.out.k.cell 12 (by simp);have fk:=H1.out.k.free 12;clear hb;go_wp2_with fail;go_ret;exact ⟨AG (b:=X) (i:=12) (y:=.slice none 0 0) HB.out,rfl⟩
 ·obtain ⟨A,cap,rfl,hrow⟩:=BV.row hown;have H1:=A5 (H.out.keep hb);have HB:=A5 hb;have HO:Hid (I9 B l A):=A5 (cF (F5 hown) hbs);have HR:=A5 hrow;have hll:=HLE.out l rfl;have ck:w1.cell? ⟨X,12,none⟩=some (.slice m.X e.ex.length m.xc):=H1.out.k.cell 12 (by simp);have fk:=H1.out.k.free 12;have cs:(w1.setCell ⟨X,12,none⟩ (.slice A l.length cap)).cell? ⟨X,12,none⟩=some (.slice A l.length cap):=World.cell?_setCell_same _ _ _ ck;have HG:=A5 (AG (b:=X) (i:=12) (y:=.slice A l.length cap) HB.out);have HD:Hid (decide ((l.length:Int)<=12)=decide (l.length<=12)):=A5 (by rw [decide_eq_decide];omega);clear hb hown hrow
  by_cases h12:l.length<=12
  ·have q3:decide ((l.length:Int)<=12)=true:=by rw [HD.out];exact z0H h12
   have hx12:({ e with ex:=l }:Ev.E).ex.length<=1000:=by show l.length<=1000;omega
   have HRD:Hid (G4 (w1.setCell ⟨X,12,none⟩ (.slice A l.length cap)) X B { e with ex:=l } ⟨m.O,m.oc,m.D,m.dc,m.M,m.mc,m.Y,m.yc,A,cap⟩):=A5 (G4.put hxb H1.out.bs ((H1.out.k.set 12 (.slice A l.length cap) (by simp)).is rfl) (AG (start w1)) ⟨H1.out.l.o,H1.out.l.ol,H1.out.l.r,HR.out,hx12,H1.out.l.ul,H1.out.l.tl⟩ H1.out.oo H1.out.od H1.out.om H1.out.oy HO.out);clear hx12;have HK:Hid (Ev.JG (fun l=>decide (l.length<=12)) (some l)=some l):=A5 (by rw [Ev.JH];exact ⟨rfl,z0H h12⟩);clear h12;go_wp2_with fail;go_ret;rw [HK.out];exact ⟨HG.out,rfl,_,HRD.out⟩
  ·have q3:decide ((l.length:Int)<=12)=false:=by rw [HD.out];exact z0G h12
   have HK:Hid (Ev.JG (fun l=>decide (l.length<=12)) (some l)=none):=A5 (by unfold Ev.JG;simp only [decide_eq_true_eq];rw [if_neg h12]);clear h12;go_wp2_with fail;go_ret;rw [HK.out];exact ⟨HG.out,rfl⟩
theorem A29 (t:Tx) (X B:Nat) (e:Ev.E) (m:Mem) (w:World) (h:G4 w X B e m) (ht:t.length<=8400) :
  Calls prog 103 #[.pointer (some ⟨X,0,none⟩),.string (str Ev.BP),.string (str t)] w (RS w X B (Ev.FH unU e Ev.BP t)):=by
 have H0:Ev.FH unU e Ev.BP t=(Ev.OJ t).map fun l=>{ e with rooms:=l }:=Ev.vK ..
 rw [H0];clear H0;obtain ⟨N,hN⟩:∃ N,Ev.BP=N:=⟨_,rfl⟩;have e0:(N==[85,73,68])=false:=by rw [<- hN];decide
 have e1:(N==[68,84,83,84,65,82,84])=false:=by rw [<- hN];decide
 have e2:(N==[68,85,82,65,84,73,79,78])=false:=by rw [<- hN];decide
 have e3:(N==[82,82,85,76,69])=false:=by rw [<- hN];decide
 have e4:(N==[69,88,68,65,84,69])=false:=by rw [<- hN];decide
 have e5:(N==[88,45,82,79,79,77,83])=true:=by rw [<- hN];decide
 have q1:=AH N;have hts:(str t).size<=8400:=by rw [AB];exact ht
 have htl:(str t).data.toList=t:=AD t;have H:=A5 h;have hX:=h.k.lt;have hxb:=h.xb;have hbs:=h.bs;rw [hN];clear h hN;rw [Ev.dP];have HC:=A5 (fun w=>VI (str t) false w (by omega));rw [htl] at HC;have hle:∀ l,FD AI (fun x=>B8 x false) t=some l->l.length<=10000/\l≠[]:=fun l hl=>⟨by have:=KR hl;omega,(Ev.LB ID hl).2.2⟩
 unfold Ev.iU;generalize FD AI (fun x=>B8 x false) t=O at *;have HLE:=A5 hle;clear hle;go_enter func103,ntmps103;go_wp2_with fail;refine (HC.out _).mono ?_;rintro _ w1 ⟨hb,⟨rfl,rfl⟩|⟨l,v,rfl,rfl,hown⟩⟩
 ·have H1:=A5 (H.out.keep hb);have HB:=A5 hb;have ck:w1.cell? ⟨X,4,none⟩=some (.slice m.O e.rooms.length m.oc):=H1.out.k.cell 4 (by simp);have fk:=H1.out.k.free 4;have HG:=A5 (AG (b:=X) (i:=4) (y:=.slice none 0 0) HB.out);have HD:=A5 (fun a=>AJ (start (w1.setCell ⟨X,4,none⟩ (.slice none 0 0))) a);clear hb;go_wp2_with fail;go_quiet (fail);have HD2:=A5 (HD.out nq);clear HD;generalize (w1.setCell ⟨X,4,none⟩ (.slice none 0 0)).drewN nq=wq at *;go_wp2_with fail;go_ret;exact ⟨H7 HG.out HD2.out,rfl⟩
 ·obtain ⟨A,cap,rfl,hrow⟩:=BV.row hown;have H1:=A5 (H.out.keep hb);have HB:=A5 hb;have HO:Hid (I9 B l A):=A5 (cF (F5 hown) hbs);have HR:=A5 hrow;obtain ⟨hll,hne⟩:=HLE.out l rfl;obtain ⟨bO,oO,hA,hbO,hcO⟩:=hrow hne;subst hA;have hXO:bO≠X:=by have:=HO.out hne bO oO rfl;omega
  obtain ⟨n,hn⟩:∃ n,l.length=n+1:=⟨l.length-1,by have:=List.length_pos_iff.2 hne;omega⟩;have hnl:n<l.length:=by omega
  have hz:l.getLastD 0=l[n]:=by
   rw [List.getLastD_eq_getLast?,List.getLast?_eq_getElem?,hn,Nat.add_sub_cancel,List.getElem?_eq_getElem hnl];rfl
  obtain ⟨z,hzz⟩:∃ z,l[n]=z:=⟨_,rfl⟩;have p0:w1.cell? ⟨bO,oO+n,none⟩=some (.int .i64 z):=by rw [<- hzz];exact hcO n hnl
  rw [hzz] at hz;have p1:(w1.setCell ⟨X,4,none⟩ (.slice (some ⟨bO,oO,none⟩) l.length cap)).cell? ⟨bO,oO+n,none⟩=some (.int .i64 z):=(World.cell?_setCell_far _ _ _ _ (fun e=>hXO e.symm)).trans p0;have ck:w1.cell? ⟨X,4,none⟩=some (.slice m.O e.rooms.length m.oc):=H1.out.k.cell 4 (by simp);have fk:=H1.out.k.free 4;have cs:(w1.setCell ⟨X,4,none⟩ (.slice (some ⟨bO,oO,none⟩) l.length cap)).cell? ⟨X,4,none⟩=some (.slice (some ⟨bO,oO,none⟩) l.length cap):=World.cell?_setCell_same _ _ _ ck;have HG:=A5 (AG (b:=X) (i:=4) (y:=.slice (some ⟨bO,oO,none⟩) l.length cap) HB.out);have HK:Hid (Ev.JG (fun l=>decide (l.length<=4)&&decide (l.getLastD 0<8)) (some l)=if (decide (n+1<=4)&&decide (z<8))=true then some l else none):=A5 (by unfold Ev.JG;simp only [hz,hn]);have HN:=A5 hn;have HD:=A5 (fun a=>AJ (start (w1.setCell ⟨X,4,none⟩ (.slice (some ⟨bO,oO,none⟩) l.length cap))) a);have hXN:X≠bO:=fun e=>hXO e.symm
  clear hb hown hrow hz hzz hcO p0 hne HLE;rw [hn] at cs p1 HG HD;rw [hn];clear hn hnl
  by_cases h12:n+1<=4
  ·have h13:(n:Int)+1<=4:=by omega
   have q5:decide (n+1<=4)=true:=z0H h12;have hn0:(0:Int)<=(n:Int):=by omega
   have hn1:(n:Int)<(n:Int)+1:=by omega
   by_cases h8:z<8
   ·have hx4:({ e with rooms:=l }:Ev.E).rooms.length<=1000:=by show l.length<=1000;rw [HN.out];omega
    have hkk:AX (w1.setCell ⟨X,4,none⟩ (.slice (some ⟨bO,oO,none⟩) (n+1) cap)) X (evC { e with rooms:=l } ⟨some ⟨bO,oO,none⟩,cap,m.D,m.dc,m.M,m.mc,m.Y,m.yc,m.X,m.xc⟩):=(H1.out.k.set 4 (.slice (some ⟨bO,oO,none⟩) (n+1) cap) (by simp)).is (by rw [<- HN.out];rfl);have HRD:Hid (G4 (w1.setCell ⟨X,4,none⟩ (.slice (some ⟨bO,oO,none⟩) (n+1) cap)) X B { e with rooms:=l } ⟨some ⟨bO,oO,none⟩,cap,m.D,m.dc,m.M,m.mc,m.Y,m.yc,m.X,m.xc⟩):=A5 (G4.put hxb H1.out.bs hkk (AG (start w1)) ⟨HR.out,hx4,H1.out.l.r,H1.out.l.x,H1.out.l.xl,H1.out.l.ul,H1.out.l.tl⟩ HO.out H1.out.od H1.out.om H1.out.oy H1.out.ox);clear hx4 hkk;have HE:Hid ((if (decide (n+1<=4)&&decide (z<8))=true then some l else none)=some l):=A5 (by rw [q5,z0H h8];rfl);clear h12 q5;go_wp2_with fail;go_quiet (fail);have HD2:=A5 (HD.out nq);clear HD;generalize (w1.setCell ⟨X,4,none⟩ (.slice (some ⟨bO,oO,none⟩) (n+1) cap)).drewN nq=wq at *;go_wp2_with fail;go_ret;rw [HK.out,HE.out];exact ⟨H7 HG.out HD2.out,rfl,_,HRD.out.keep HD2.out⟩
   ·have HE:Hid ((if (decide (n+1<=4)&&decide (z<8))=true then some l else none)=none):=A5 (by rw [q5,z0G h8];rfl);have H8:Hid (decide (z<8)=false):=A5 (z0G h8);clear h12 q5 h8;go_wp2_with fail;go_quiet (fail);have HD2:=A5 (HD.out nq);clear HD;generalize (w1.setCell ⟨X,4,none⟩ (.slice (some ⟨bO,oO,none⟩) (n+1) cap)).drewN nq=wq at *;go_wp2_with fail;go_ret;rw [HK.out,HE.out];exact ⟨H7 HG.out HD2.out,AA H8.out⟩
  ·have h13:((n:Int)+1<=4)=False:=eq_false (by omega);have q5:decide (n+1<=4)=false:=z0G h12;have HE:Hid ((if (decide (n+1<=4)&&decide (z<8))=true then some l else none)=none):=A5 (by rw [q5];rfl);clear h12 q5;go_wp2_with fail;go_quiet (fail);have HD2:=A5 (HD.out nq);clear HD;generalize (w1.setCell ⟨X,4,none⟩ (.slice (some ⟨bO,oO,none⟩) (n+1) cap)).drewN nq=wq at *;go_wp2_with fail;go_ret;rw [HK.out,HE.out];exact ⟨H7 HG.out HD2.out,rfl⟩
theorem A2a (t:Tx) (X B:Nat) (e:Ev.E) (m:Mem) (w:World) (h:G4 w X B e m) (ht:t.length<=8400) :
  Calls prog 103 #[.pointer (some ⟨X,0,none⟩),.string (str Ev.DH),.string (str t)] w (RS w X B (Ev.FH unU e Ev.DH t)):=by
 have H0:Ev.FH unU e Ev.DH t=(Ev.MI t).map fun s=>{ e with text:=s }:=Ev.vN ..
 rw [H0];clear H0;obtain ⟨N,hN⟩:∃ N,Ev.DH=N:=⟨_,rfl⟩;have e0:(N==[85,73,68])=false:=by rw [<- hN];decide
 have e1:(N==[68,84,83,84,65,82,84])=false:=by rw [<- hN];decide
 have e2:(N==[68,85,82,65,84,73,79,78])=false:=by rw [<- hN];decide
 have e3:(N==[82,82,85,76,69])=false:=by rw [<- hN];decide
 have e4:(N==[69,88,68,65,84,69])=false:=by rw [<- hN];decide
 have e5:(N==[88,45,82,79,79,77,83])=false:=by rw [<- hN];decide
 have e6:(N==[83,85,77,77,65,82,89])=true:=by rw [<- hN];decide
 have q1:=AH N;have hts:(str t).size<=8400:=by rw [AB];exact ht
 have htl:(str t).data.toList=t:=AD t;have H:=A5 h;have hX:=h.k.lt;have hxb:=h.xb;have hbs:=h.bs;rw [hN];clear h hN;have HC:=A5 (fun w=>WC (str t) w (by omega));rw [htl] at HC;have hul:∀ s,Fo.unE t=some s->s.length<=8400:=fun s hs=>Nat.le_trans (Fo.TC t.length t s (Nat.le_refl _) hs) ht
 unfold Ev.MI;generalize Fo.unE t=O at *
 cases O with
 | none =>
  simp only;go_enter func103,ntmps103;go_wp2_with fail;refine (HC.out _).mono ?_;rintro _ w1 ⟨rfl,hb⟩;unfold unR;have H1:=A5 (H.out.keep hb);have HB:=A5 hb;have ck:w1.cell? ⟨X,1,none⟩=some (.string (str e.text)):=H1.out.k.cell 1 (by simp);have fk:=H1.out.k.free 1;clear hb;go_wp2_with fail;go_ret;exact ⟨AG (b:=X) (i:=1) (y:=.string (str [])) HB.out,rfl⟩
 | some s =>
  have hsl:=hul s rfl;have HT:=A5 (fun w=>ZU s w (by omega) rfl);clear hul;simp only;obtain ⟨B,hB⟩:∃ B,Ev.E0 s=B:=⟨_,rfl⟩;rw [hB] at HT ⊢;clear hB;obtain ⟨O2,hO⟩:∃ O,Option.map (fun s=>{ e with text:=s }) (if B=true then some s else none)=O:=⟨_,rfl⟩;rw [hO];have HO:=A5 hO;clear hO;go_enter func103,ntmps103;go_wp2_with fail;refine (HC.out _).mono ?_;rintro _ w1 ⟨rfl,hb⟩;unfold unR;have H1:=A5 (H.out.keep hb);have HB:=A5 hb;have ck:w1.cell? ⟨X,1,none⟩=some (.string (str e.text)):=H1.out.k.cell 1 (by simp);have fk:=H1.out.k.free 1;have cs:(w1.setCell ⟨X,1,none⟩ (.string (str s))).cell? ⟨X,1,none⟩=some (.string (str s)):=World.cell?_setCell_same _ _ _ ck;have HG:=A5 (AG (b:=X) (i:=1) (y:=.string (str s)) HB.out);clear hb;go_wp2_with fail;refine (HT.out _).mono ?_;rintro _ w2 ⟨rfl,rfl⟩;go_wp2_with fail;go_ret
  cases B with
  | true =>
   rw [<- HO.out,if_pos rfl];exact ⟨HG.out,rfl,m,G4.put hxb H1.out.bs ((H1.out.k.set 1 (.string (str s)) (by simp)).is rfl) (AG (start w1)) ⟨H1.out.l.o,H1.out.l.ol,H1.out.l.r,H1.out.l.x,H1.out.l.xl,H1.out.l.ul,by show s.length<=40000;omega⟩ H1.out.oo H1.out.od H1.out.om H1.out.oy H1.out.ox⟩
  | false=>rw [<- HO.out,if_neg (by decide)];exact ⟨HG.out,rfl⟩
theorem tY (N t:Tx) (hN:N∈kN) (X B:Nat) (e:Ev.E) (m:Mem) (w:World) (h:G4 w X B e m) (ht:t.length<=8400) :
  Calls prog 103 #[.pointer (some ⟨X,0,none⟩),.string (str N),.string (str t)] w (RS w X B (Ev.FH unU e N t)):=by
 unfold kN at hN;simp only [List.mem_cons,List.not_mem_nil,or_false] at hN;rcases hN with rfl|rfl|rfl|rfl|rfl|rfl|rfl
 ·exact A24 t X B e m w h ht
 ·exact A25 t X B e m w h ht
 ·exact A26 t X B e m w h ht
 ·exact A29 t X B e m w h ht
 ·exact A27 t X B e m w h ht
 ·exact A28 t X B e m w h ht
 ·exact A2a t X B e m w h ht
end Go.Proofs.YtfecnkhoojnkbaaGreatDoor

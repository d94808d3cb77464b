import Derived.Test.YtfecnkhoojnkbaaGreatDoorXW17
import Derived.Test.YtfecnkhoojnkbaaGreatDoorXC1
import Derived.Test.YtfecnkhoojnkbaaGreatDoorXRtPr
import Derived.Test.YtfecnkhoojnkbaaGreatDoorXFoR
set_option maxHeartbeats 8000000
set_option maxRecDepth 1000000
namespace Go.Proofs.YtfecnkhoojnkbaaGreatDoor
open Go.RowKit Rul Rt Go.Sort Tryz
structure NP (w:World) (cs:List Value) (e:Ev.E) (m:Mem) (wx:World):Prop where
 k:AX wx w.heap.size cs
 l0:EvL w e m
 b:Below w.heap.size w wx
theorem NP.l {w:World} {cs:List Value} {e:Ev.E} {m:Mem} {w1:World} (h:NP w cs e m w1):EvL w1 e m:=h.l0.keep h.b
theorem NP.keep {w:World} {cs:List Value} {e:Ev.E} {m:Mem} {w1 w2:World} (h:NP w cs e m w1) (hb:Below w1.heap.size w1 w2):NP w cs e m w2:=⟨h.k.keep hb,h.l0,andthen h.b hb⟩
theorem NP.app {w:World} {cs:List Value} {e:Ev.E} {m:Mem} {w1 w2:World} (h:NP w cs e m w1) (hb:Below (w.heap.size+1) w1 w2):NP w cs e m w2:=⟨h.k.under hb (Nat.lt_succ_self _),h.l0,h.b.trans (hb.mono (Nat.le_succ _))⟩
theorem SZ {w W W1:World} {u t:Tx} {s l:Int} {o:List Int} {fr ev ct un:Int} {ds:List Wd} {ms ys x:List Int} {O D M Y X:Option Addr} {oc dc mc yc xc:Nat} (hb:Below W.heap.size W W1) (h:W.cell? ⟨w.heap.size,0,none⟩=some (.string (str u))/\W.cell? ⟨w.heap.size,2,none⟩=some (.int .i64 s)/\W.cell? ⟨w.heap.size,3,none⟩=some (.int .i64 l)/\NP w [.string (str u),.string (str t),.int .i64 s,.int .i64 l,.slice O o.length oc,.int .i64 fr,.int .i64 ev,.int .i64 ct,.int .i64 un,.slice D ds.length dc,.slice M ms.length mc,.slice Y ys.length yc,.slice X x.length xc] ⟨u,t,s,l,o,⟨fr,ev,ct,un,ds,ms,ys⟩,x⟩ ⟨O,oc,D,dc,M,mc,Y,yc,X,xc⟩ W):W1.cell? ⟨w.heap.size,0,none⟩=some (.string (str u))/\W1.cell? ⟨w.heap.size,2,none⟩=some (.int .i64 s)/\W1.cell? ⟨w.heap.size,3,none⟩=some (.int .i64 l)/\NP w [.string (str u),.string (str t),.int .i64 s,.int .i64 l,.slice O o.length oc,.int .i64 fr,.int .i64 ev,.int .i64 ct,.int .i64 un,.slice D ds.length dc,.slice M ms.length mc,.slice Y ys.length yc,.slice X x.length xc] ⟨u,t,s,l,o,⟨fr,ev,ct,un,ds,ms,ys⟩,x⟩ ⟨O,oc,D,dc,M,mc,Y,yc,X,xc⟩ W1 :=
 ⟨A9 hb h.1,A9 hb h.2.1,A9 hb h.2.2.1,h.2.2.2.keep hb⟩
set_option linter.unusedSimpArgs false in
theorem cE (u t:Tx) (s l:Int) (o:List Int) (fr ev ct un:Int) (ds:List Wd) (ms ys x:List Int) (O D M Y X:Option Addr) (oc dc mc yc xc:Nat) (w:World) (h:EvL w ⟨u,t,s,l,o,⟨fr,ev,ct,un,ds,ms,ys⟩,x⟩ ⟨O,oc,D,dc,M,mc,Y,yc,X,xc⟩) (hi:Ev.isE ⟨u,t,s,l,o,⟨fr,ev,ct,un,ds,ms,ys⟩,x⟩=true) :
  Calls prog 19 #[.agg #[.string (str u),.string (str t),.int .i64 s,.int .i64 l,.slice O o.length oc,.int .i64 fr,.int .i64 ev,.int .i64 ct,.int .i64 un,.slice D ds.length dc,.slice M ms.length mc,.slice Y ys.length yc,.slice X x.length xc]] w (K6 w (Ev.BL unU ⟨u,t,s,l,o,⟨fr,ev,ct,un,ds,ms,ys⟩,x⟩)):=by
 have hI:=(Ev.N7 _).1 hi;have HDL:=A5 (Ev.oZ unU _ hI);rw [<- HDL.out];have h1:=Ev.PT hI.uid;have h2:=Ev.R7 hI.text;have h3:Ev.lgB l=true:=hI.lg;rw [Ev.lgB,AY] at h3;have hlg:EX l:=by unfold EX;omega
 have h4:=(Ev.FK o).1 hI.rooms;have hro:∀ z∈o,0<=z/\z<=7:=fun z hz=>by
  have:=h4.2.1 z hz;rw [Ev.CO,AY] at this;omega
 have h5:=(Ev.Z7 x).1 hI.ex;have h41:=h4.1;have h51:=h5.1;have hul:u.length<=12:=h1.2;have htl:t.length<=40:=h2;have v1:=Lib.itoa_length_le l hlg.1 hlg.2;have v2:=IL s;have v3:=tW ⟨fr,ev,ct,un,ds,ms,ys⟩;have v4:=FA AZ 15 x fun z _=>IL z
 have v5:=FA Lib.itoa 30 o fun z hz=>Nat.le_trans (Lib.itoa_length_le z (by have:=hro z hz;omega) (by have:=hro z hz;omega)) (by omega)
 have v6:=Fo.PJ t;have HRO:=A5 hro;have HIS:=A5 hi;have CT:=A5 (fun n w=>XN n w);have CN:=A5 (fun w=>F7 l w (by omega) (by omega));have CR:=A5 (fun n (hn:0<=n/\n<=7) w=>F7 n w (by omega) (by omega));have CP:=A5 (fun w h=>j7 fr ev ct un D M Y ds.length dc ms.length mc ys.length yc ds ms ys w h);have CE:=A5 (fun w=>cG (str t) w (by rw [AB];omega));rw [AD] at CE;obtain ⟨SA,hSA⟩:∃ S,Ev.docA unU ⟨u,t,s,l,o,⟨fr,ev,ct,un,ds,ms,ys⟩,x⟩=S:=⟨_,rfl⟩;obtain ⟨SB,hSB⟩:∃ S,Ev.docB unU ⟨u,t,s,l,o,⟨fr,ev,ct,un,ds,ms,ys⟩,x⟩=S:=⟨_,rfl⟩;obtain ⟨SC,hSC⟩:∃ S,Ev.docC unU ⟨u,t,s,l,o,⟨fr,ev,ct,un,ds,ms,ys⟩,x⟩=S:=⟨_,rfl⟩;obtain ⟨SD,hSD⟩:∃ S,Ev.docD unU ⟨u,t,s,l,o,⟨fr,ev,ct,un,ds,ms,ys⟩,x⟩=S:=⟨_,rfl⟩;obtain ⟨SE,hSE⟩:∃ S,Ev.docE unU ⟨u,t,s,l,o,⟨fr,ev,ct,un,ds,ms,ys⟩,x⟩=S:=⟨_,rfl⟩;have HN1:Hid (SA=[Ev.Z8,Ev.CZ (Ev.ER,u),Ev.CZ (Ev.BR,AZ s),Ev.CZ (Ev.CQ,Ev.UY l)]):=A5 hSA.symm;have HN2:Hid (SB=SA++Ev.OK (decide (fr≠0)) Ev.DG (DU unU ⟨fr,ev,ct,un,ds,ms,ys⟩)):=A5 (by rw [<- hSA];exact hSB.symm);have HN3:Hid (SC=SB++Ev.OK (decide (AR AZ x≠[])) Ev.nEX (AR AZ x)):=A5 (by rw [<- hSB];exact hSC.symm);have HN4:Hid (SD=SC++[Ev.CZ (Ev.BP,AR Lib.itoa o)]):=A5 (by rw [<- hSC];exact hSD.symm);have HN5:Hid (SE=SD++Ev.OK (decide (t≠[])) Ev.DH (Fo.DV t)):=A5 (by rw [<- hSD];exact hSE.symm);have HN6:Hid (Ev.docL unU ⟨u,t,s,l,o,⟨fr,ev,ct,un,ds,ms,ys⟩,x⟩=SE++[Ev.dQ]):=A5 (by rw [<- hSE];rfl);have sl:∀ (k:Bool) (n v:Tx),(Ev.OK k n v).length<=1:=fun k n v=>by unfold Ev.OK;split <;> simp
 have l1:SA.length<=4:=by rw [HN1.out];simp
 have l2:SB.length<=5:=by rw [HN2.out,z0J];have:=sl (decide (fr≠0)) Ev.DG (DU unU ⟨fr,ev,ct,un,ds,ms,ys⟩);omega
 have l3:SC.length<=6:=by rw [HN3.out,z0J];have:=sl (decide (AR AZ x≠[])) Ev.nEX (AR AZ x);omega
 have l4:SD.length<=7:=by rw [HN4.out,z0J];simp only [List.length_singleton];omega
 have l5:SE.length<=8:=by rw [HN5.out,z0J];have:=sl (decide (t≠[])) Ev.DH (Fo.DV t);omega
 have hbox:=more (start w) (.cells #[.string (str u),.string (str t),.int .i64 s,.int .i64 l,.slice O o.length oc,.int .i64 fr,.int .i64 ev,.int .i64 ct,.int .i64 un,.slice D ds.length dc,.slice M ms.length mc,.slice Y ys.length yc,.slice X x.length xc] 47);have hk0:=DY w #[.string (str u),.string (str t),.int .i64 s,.int .i64 l,.slice O o.length oc,.int .i64 fr,.int .i64 ev,.int .i64 ct,.int .i64 un,.slice D ds.length dc,.slice M ms.length mc,.slice Y ys.length yc,.slice X x.length xc] 47;have HW:Hid (NP w [.string (str u),.string (str t),.int .i64 s,.int .i64 l,.slice O o.length oc,.int .i64 fr,.int .i64 ev,.int .i64 ct,.int .i64 un,.slice D ds.length dc,.slice M ms.length mc,.slice Y ys.length yc,.slice X x.length xc] ⟨u,t,s,l,o,⟨fr,ev,ct,un,ds,ms,ys⟩,x⟩ ⟨O,oc,D,dc,M,mc,Y,yc,X,xc⟩ (w.alloc (.cells #[.string (str u),.string (str t),.int .i64 s,.int .i64 l,.slice O o.length oc,.int .i64 fr,.int .i64 ev,.int .i64 ct,.int .i64 un,.slice D ds.length dc,.slice M ms.length mc,.slice Y ys.length yc,.slice X x.length xc] 47))):=A5 ⟨hk0,h,hbox⟩;have q0:=hk0.cell 0 (by simp);have q1:=hk0.cell 1 (by simp);have q2:=hk0.cell 2 (by simp);have q3:=hk0.cell 3 (by simp);have q4:=hk0.cell 4 (by simp);have q5:=hk0.cell 5 (by simp);have q6:=hk0.cell 6 (by simp);have q7:=hk0.cell 7 (by simp);have q8:=hk0.cell 8 (by simp);have q9:=hk0.cell 9 (by simp);have q10:=hk0.cell 10 (by simp);have q11:=hk0.cell 11 (by simp);have q12:=hk0.cell 12 (by simp);simp only [List.getElem_cons_zero,List.getElem_cons_succ] at q0 q1 q2 q3 q4 q5 q6 q7 q8 q9 q10 q11 q12;clear hi hI h1 h2 h3 h4 h5 hro hlg sl hSA hSB hSC hSD hSE hbox hk0 h;go_enter func19,ntmps19;go_wp2_with fail;refine (AF (TL ⟨u,t,s,l,o,⟨fr,ev,ct,un,ds,ms,ys⟩,x⟩ ⟨O,oc,D,dc,M,mc,Y,yc,X,xc⟩ _ HW.out.l) HIS.out).mono ?_;rintro _ w1 ⟨rfl,hb1⟩;replace HW:=A5 (HW.out.keep hb1);replace q0:=A9 hb1 q0;replace q1:=A9 hb1 q1;replace q2:=A9 hb1 q2;replace q3:=A9 hb1 q3;replace q4:=A9 hb1 q4;replace q5:=A9 hb1 q5;replace q6:=A9 hb1 q6;replace q7:=A9 hb1 q7;replace q8:=A9 hb1 q8;replace q9:=A9 hb1 q9;replace q10:=A9 hb1 q10;replace q11:=A9 hb1 q11;replace q12:=A9 hb1 q12;clear hb1
 go_upto_region 3 with fail
 go_cut [3] from 7 (fun v wx=>BY wx (w.heap.size+1) v SA/\NP w [.string (str u),.string (str t),.int .i64 s,.int .i64 l,.slice O o.length oc,.int .i64 fr,.int .i64 ev,.int .i64 ct,.int .i64 un,.slice D ds.length dc,.slice M ms.length mc,.slice Y ys.length yc,.slice X x.length xc] ⟨u,t,s,l,o,⟨fr,ev,ct,un,ds,ms,ys⟩,x⟩ ⟨O,oc,D,dc,M,mc,Y,yc,X,xc⟩ wx)
 case first =>
  have z1:(str u).size<=12:=by rw [AB];exact hul
  have z2:(str (AZ s)).size<=15:=by rw [AB];exact v2
  have z3:(str (Lib.itoa l)).size<=30:=by rw [AB];omega
  have z4:((⟨#[68,85,82,65,84,73,79,78,58,80,84]⟩:ByteArray)++str (Lib.itoa l)).size<=50:=by rw [ByteArray.size_append,AB];have:(⟨#[68,85,82,65,84,73,79,78,58,80,84]⟩:ByteArray).size=11:=rfl;omega
  have HZ1:Hid ((⟨#[85,73,68,58]⟩:ByteArray)++str u=str (Ev.CZ (Ev.ER,u))):=A5 (by rw [show (⟨#[85,73,68,58]⟩:ByteArray)=str [85,73,68,58] from rfl,AM];rfl);have HZ2:Hid ((⟨#[68,84,83,84,65,82,84,58]⟩:ByteArray)++str (AZ s)=str (Ev.CZ (Ev.BR,AZ s))):=A5 (by rw [show (⟨#[68,84,83,84,65,82,84,58]⟩:ByteArray)=str [68,84,83,84,65,82,84,58] from rfl,AM];rfl);have HZ3:Hid (((⟨#[68,85,82,65,84,73,79,78,58,80,84]⟩:ByteArray)++str (Lib.itoa l))++(⟨#[77]⟩:ByteArray)=str (Ev.CZ (Ev.CQ,Ev.UY l))):=A5 (by rw [show (⟨#[68,85,82,65,84,73,79,78,58,80,84]⟩:ByteArray)=str [68,85,82,65,84,73,79,78,58,80,84] from rfl,show (⟨#[77]⟩:ByteArray)=str [77] from rfl,AM,AM];rfl);have CT2:=A5 (fun w=>CT.out s w);have n1:¬ (9223372036854775807<4+(str u).size):=by omega
  have n2:¬ (9223372036854775807<8+(str (AZ s)).size):=by omega
  have n3:¬ (9223372036854775807<11+(str (Lib.itoa l)).size):=by omega
  have n4:¬ (9223372036854775807<11+(str (Lib.itoa l)).size+1):=by omega
  have n5:¬ (9223372036854775807<((⟨#[68,85,82,65,84,73,79,78,58,80,84]⟩:ByteArray)++str (Lib.itoa l)).size+1):=by omega
  generalize AZ s=T2 at *;generalize Lib.itoa l=LG at *;have hS3:=And.intro q0 (And.intro q2 (And.intro q3 HW.out));clear HW q0 q1 q2 q3 q4 q5 q6 q7 q8 q9 q10 q11 q12;refine wp_region_held_drew (S:=(fun w'=>w'.cell? ⟨w.heap.size,0,none⟩=some (.string (str u))/\w'.cell? ⟨w.heap.size,2,none⟩=some (.int .i64 s)/\w'.cell? ⟨w.heap.size,3,none⟩=some (.int .i64 l)/\NP w [.string (str u),.string (str t),.int .i64 s,.int .i64 l,.slice O o.length oc,.int .i64 fr,.int .i64 ev,.int .i64 ct,.int .i64 un,.slice D ds.length dc,.slice M ms.length mc,.slice Y ys.length yc,.slice X x.length xc] ⟨u,t,s,l,o,⟨fr,ev,ct,un,ds,ms,ys⟩,x⟩ ⟨O,oc,D,dc,M,mc,Y,yc,X,xc⟩ w')) (by kernel_rfl) ?_ (fun hH0=>?_)
  ·exact SZ (start _).drew hS3
  refine' z0L (i:=0) (v:=?v0) rfl (by kernel_rfl) (by kernel_rfl) (by kernel_rfl) ?y0 hH0 ?r0
  case y0=>(intro w hSw;(try dsimp only at hSw);go_simp;(try with_reducible rfl))
  try simp only [Act.put,z0A,z0B,z0C,z0D,z0E,z0F]
  refine' z0L (i:=1) (v:=?v1) rfl (by kernel_rfl) (by kernel_rfl) (by kernel_rfl) ?y1 hH0 ?r1
  case y1=>(intro w hSw;(try dsimp only at hSw);go_simp;(try with_reducible rfl))
  try simp only [Act.put,z0A,z0B,z0C,z0D,z0E,z0F]
  refine' z0L (i:=2) (v:=?v2) rfl (by kernel_rfl) (by kernel_rfl) (by kernel_rfl) ?y2 hH0 ?r2
  case y2=>(intro w hSw;(try dsimp only at hSw);go_simp;(try with_reducible rfl))
  try simp only [Act.put,z0A,z0B,z0C,z0D,z0E,z0F]
  refine' z0L (i:=3) (v:=?v3) rfl (by kernel_rfl) (by kernel_rfl) (by kernel_rfl) ?y3 hH0 ?r3
  case y3=>(intro w hSw;(try dsimp only at hSw);go_simp;(try with_reducible rfl))
  try simp only [Act.put,z0A,z0B,z0C,z0D,z0E,z0F]
  refine' z0L (i:=4) (v:=?v4) rfl (by kernel_rfl) (by kernel_rfl) (by kernel_rfl) ?y4 hH0 ?r4
  case y4=>(intro w hSw;(try dsimp only at hSw);go_simp;(try with_reducible rfl))
  try simp only [Act.put,z0A,z0B,z0C,z0D,z0E,z0F]
  refine' z0L (i:=7) (v:=?v5) rfl (by kernel_rfl) (by kernel_rfl) (by kernel_rfl) ?y5 hH0 ?r5
  case y5=>(intro w hSw;(try dsimp only at hSw);go_simp;(try with_reducible rfl))
  try simp only [Act.put,z0A,z0B,z0C,z0D,z0E,z0F]
  refine' z0L (i:=8) (v:=?v6) rfl (by kernel_rfl) (by kernel_rfl) (by kernel_rfl) ?y6 hH0 ?r6
  case y6=>(intro w hSw;(try dsimp only at hSw);go_simp;(try with_reducible rfl))
  try simp only [Act.put,z0A,z0B,z0C,z0D,z0E,z0F]
  refine wpAnyH_ready (rs:=[5]) (by as_aux_lemma=>kernel_rfl) (by simp) ?_;refine AllReadyH.cons (o:=_) rfl (fun K hK=>?_) AllReadyH.nil
  go_simp
  refine (CT2.out _).mono ?_;rintro _ wz ⟨rfl,hb⟩;refine hK.out _ _ (SZ hb hH0) (fun hN=>?_);clear hK K hH0;have hH1:=hN;clear hN
  try simp only [Act.put,z0A,z0B,z0C,z0D,z0E,z0F]
  refine' z0L (i:=6) (v:=?v7) rfl (by kernel_rfl) (by kernel_rfl) (by kernel_rfl) ?y7 hH1 ?r7
  case y7=>(intro w hSw;(try dsimp only at hSw);go_simp;(try with_reducible rfl))
  try simp only [Act.put,z0A,z0B,z0C,z0D,z0E,z0F]
  refine wpAnyH_ready (rs:=[9]) (by as_aux_lemma=>kernel_rfl) (by simp) ?_;refine AllReadyH.cons (o:=_) rfl (fun K hK=>?_) AllReadyH.nil
  go_simp
  refine (CN.out _).mono ?_;rintro _ wz ⟨rfl,hb⟩;have hbk:w.heap.size+1<=wz.heap.size:=Nat.le_trans hH1.2.2.2.k.lt hb.size;refine hK.out _ _ (SZ hb hH1) (fun hN=>?_);clear hK K hH1;have hH2:=hN;clear hN
  try simp only [Act.put,z0A,z0B,z0C,z0D,z0E,z0F]
  refine' z0L (i:=10) (v:=?v8) rfl (by kernel_rfl) (by kernel_rfl) (by kernel_rfl) ?y8 hH2 ?r8
  case y8=>(intro w hSw;(try dsimp only at hSw);go_simp;(try with_reducible rfl))
  try simp only [Act.put,z0A,z0B,z0C,z0D,z0E,z0F]
  refine' z0L (i:=11) (v:=?v9) rfl (by kernel_rfl) (by kernel_rfl) (by kernel_rfl) ?y9 hH2 ?r9
  case y9=>(intro w hSw;(try dsimp only at hSw);go_simp;(try with_reducible rfl))
  try simp only [Act.put,z0A,z0B,z0C,z0D,z0E,z0F]
  refine wpAnyH_ready (rs:=[12]) (by as_aux_lemma=>kernel_rfl) (by simp) ?_;refine AllReadyH.cons (o:=_) rfl (fun K hK=>?_) AllReadyH.nil
  go_simp
  refine hK.out _ _ (SZ (more (start _) _) hH2) (fun hN=>?_);clear hK K hH2;have hH3:=hN;clear hN
  try simp only [Act.put,z0A,z0B,z0C,z0D,z0E,z0F]
  refine' z0L (i:=13) (v:=?v10) rfl (by kernel_rfl) (by kernel_rfl) (by kernel_rfl) ?y10 hH3 ?r10
  case y10=>(intro w hSw;(try dsimp only at hSw);go_simp;(try with_reducible rfl))
  try simp only [Act.put,z0A,z0B,z0C,z0D,z0E,z0F]
  refine wpAnyH_done (by as_aux_lemma=>kernel_rfl) ?_ _;have hfin:=hH3.2.2.2;go_wp2_with fail
  go_meet
  refine ⟨?_,hfin⟩;rw [HZ1.out,HZ2.out,HZ3.out,HN1.out];exact World.ownsRow_lit _ #[.string (str Ev.Z8),.string _,.string _,.string _] 4 hbk (by unfold maxLen;omega) rfl
 obtain ⟨hown0,hW⟩:=hcut;have HO:=A5 hown0;have HW:=A5 hW;have hz0:w.heap.size+1<=wc.heap.size:=hW.k.lt;have q0:=hW.k.cell 0 (by simp);have q1:=hW.k.cell 1 (by simp);have q2:=hW.k.cell 2 (by simp);have q3:=hW.k.cell 3 (by simp);have q4:=hW.k.cell 4 (by simp);have q5:=hW.k.cell 5 (by simp);have q6:=hW.k.cell 6 (by simp);have q7:=hW.k.cell 7 (by simp);have q8:=hW.k.cell 8 (by simp);have q9:=hW.k.cell 9 (by simp);have q10:=hW.k.cell 10 (by simp);have q11:=hW.k.cell 11 (by simp);have q12:=hW.k.cell 12 (by simp);simp only [List.getElem_cons_zero,List.getElem_cons_succ] at q0 q1 q2 q3 q4 q5 q6 q7 q8 q9 q10 q11 q12;clear hown0 hW
 go_upto_if 26 with fail
 go_cut [3] from 7 (fun v wx=>BY wx (w.heap.size+1) v SB/\NP w [.string (str u),.string (str t),.int .i64 s,.int .i64 l,.slice O o.length oc,.int .i64 fr,.int .i64 ev,.int .i64 ct,.int .i64 un,.slice D ds.length dc,.slice M ms.length mc,.slice Y ys.length yc,.slice X x.length xc] ⟨u,t,s,l,o,⟨fr,ev,ct,un,ds,ms,ys⟩,x⟩ ⟨O,oc,D,dc,M,mc,Y,yc,X,xc⟩ wx)
 case first =>
  by_cases hc:fr=0
  ·have k0:(fr==0)=true:=beq_iff_eq.2 hc;have k1:(fr != 0)=false:=by rw [bne,k0];rfl
   have HE:Hid (SB=SA):=A5 (by rw [HN2.out];unfold Ev.OK;rw [if_neg (by simpa using hc),List.append_nil]);go_wp2_with fail
   go_meet
   exact ⟨by rw [HE.out];exact HO.out,HW.out⟩
  ·have k0:(fr==0)=false:=beq_eq_false_iff_ne.2 hc;have k1:(fr != 0)=true:=by rw [bne,k0];rfl
   have HE:Hid (SB=SA++[Ev.CZ (Ev.DG,DU unU ⟨fr,ev,ct,un,ds,ms,ys⟩)]):=A5 (by rw [HN2.out];unfold Ev.OK;rw [if_pos (by simpa using hc)]);generalize DU unU ⟨fr,ev,ct,un,ds,ms,ys⟩=PR at *;have z1:(str PR).size<=7007:=by rw [AB];exact v3
   have HZ:Hid ((⟨#[82,82,85,76,69,58]⟩:ByteArray)++str PR=str (Ev.CZ (Ev.DG,PR))):=A5 (by rw [show (⟨#[82,82,85,76,69,58]⟩:ByteArray)=str [82,82,85,76,69,58] from rfl,AM];rfl);go_wp2_with fail;refine (CP.out _ HW.out.l.r).mono ?_;rintro _ w2 ⟨rfl,hb⟩;replace HW:=A5 (HW.out.keep hb);have hown:=HO.out.keep hb;have hz:w.heap.size+1<=w2.heap.size:=HW.out.k.lt;clear hb;go_wp2_with (at_builtin;rw [HZ.out];refine DR (l:=SA) (p:=Ev.CZ (Ev.DG,PR)) rfl _ _ rfl rfl rfl rfl hown hz (by omega) ?_;intro v3 w3 hown3 hb3)
   go_meet
   exact ⟨by rw [HE.out];exact hown3,HW.out.app hb3⟩
 obtain ⟨hown0,hW⟩:=hcut;have HO:=A5 hown0;have HW:=A5 hW;have hz0:w.heap.size+1<=wc.heap.size:=hW.k.lt;have q0:=hW.k.cell 0 (by simp);have q1:=hW.k.cell 1 (by simp);have q2:=hW.k.cell 2 (by simp);have q3:=hW.k.cell 3 (by simp);have q4:=hW.k.cell 4 (by simp);have q5:=hW.k.cell 5 (by simp);have q6:=hW.k.cell 6 (by simp);have q7:=hW.k.cell 7 (by simp);have q8:=hW.k.cell 8 (by simp);have q9:=hW.k.cell 9 (by simp);have q10:=hW.k.cell 10 (by simp);have q11:=hW.k.cell 11 (by simp);have q12:=hW.k.cell 12 (by simp);simp only [List.getElem_cons_zero,List.getElem_cons_succ] at q0 q1 q2 q3 q4 q5 q6 q7 q8 q9 q10 q11 q12;clear hown0 hW;go_wp2_with fail
 go_loopw [4,5] (fun sv i wr=>∃ j:Nat,j<=x.length/\i=.int .i64 j/\(∃ S:ByteArray,sv=.string S/\Hid (S=str (AU 44 ((x.take j).map AZ)))/\S.size<=100*j)/\Below wc.heap.size wc wr) (fun _ i _=>x.length-(intOf i).toNat)
 case atStart=>exact ⟨0,Nat.zero_le _,rfl,⟨⟨#[]⟩,rfl,A5 rfl,by decide⟩,start _⟩
 case round =>
  obtain ⟨j,hj,rfl,⟨S,rfl,HS,hss⟩,hbw⟩:=hrel;have HBR:=A5 hbw;have c12:=A9 hbw q12;clear hbw
  by_cases hlt:j<x.length
  ·obtain ⟨b1,o1,rfl,hb1,hc1⟩:=HW.out.l.x (by intro h0;have h0':x=[]:=h0;rw [h0'] at hlt;exact absurd hlt (Nat.not_lt_zero _));obtain ⟨z,hz⟩:∃ z,x[j]=z:=⟨_,rfl⟩;have p1:wr.cell? ⟨b1,o1+j,none⟩=some (.int .i64 z):=by rw [<- hz];exact (HBR.out.cell (p:=⟨b1,_,none⟩) hb1).trans (hc1 j hlt)
   have hi0:(0:Int)<=(j:Int):=by omega
   have hi1:(j:Int)<(x.length:Int):=by omega
   have hjn:=Ev.SF 44 AZ x j hlt;rw [hz] at hjn;have hzr9:True:=trivial;have hzl:(AZ z).length<=30:=Nat.le_trans (IL z) (by decide);have HCZ:=A5 (fun w=>CT.out z w);generalize AZ z=TZ at *;have zz:(str TZ).size<=30:=by rw [AB];exact hzl
   clear hc1 hz;rcases Nat.eq_zero_or_pos j with h0|h0
   ·subst h0;rw [Nat.add_zero] at p1;rw [if_pos rfl] at hjn;have HJ:=A5 hjn;have g1:decide ((0:Int)<((0:Nat):Int))=false:=rfl;have g2:¬ ((0:Int)<((0:Nat):Int)):=by decide
    go_wp2_with fail;refine (HCZ.out _).mono ?_;rintro _ w2 ⟨rfl,hb⟩;replace HBR:=A5 (andthen HBR.out hb);clear hb;go_wp2_with fail
    go_roundw
    case rel=>exact ⟨1,by omega,by go_num,⟨_,rfl,A5 (by have hj0:=HJ.out;have hs0:=HS.out;rw [hj0,hs0,AM];rfl),by rw [ByteArray.size_append];omega⟩,HBR.out⟩
    case measure=>simp [intOf];omega
   ·have h0n:¬ (j=0):=by omega
    rw [if_neg h0n] at hjn;have HJ:=A5 hjn;have g2:(0:Int)<(j:Int):=by omega
    have g1:decide ((0:Int)<(j:Int))=true:=z0H g2;have z9:(S++(⟨#[44]⟩:ByteArray)).size<=100*j+1:=by rw [ByteArray.size_append];have:(⟨#[44]⟩:ByteArray).size=1:=rfl;omega
    go_wp2_with fail;refine (HCZ.out _).mono ?_;rintro _ w2 ⟨rfl,hb⟩;replace HBR:=A5 (andthen HBR.out hb);clear hb;go_wp2_with fail
    go_roundw
    case rel=>exact ⟨j+1,by omega,by go_num,⟨_,rfl,A5 (by have hj0:=HJ.out;have hs0:=HS.out;rw [hj0,hs0,show (⟨#[44]⟩:ByteArray)=str [44] from rfl,AM,AM];simp),by rw [ByteArray.size_append];omega⟩,HBR.out⟩
    case measure=>simp [intOf];omega
  ·obtain rfl:j=x.length:=by omega
   have HS2:Hid (S=str (AR AZ x)):=A5 (by have:=HS.out;rw [List.take_length] at this;exact this);replace HO:=A5 (HO.out.keep HBR.out);replace HW:=A5 (HW.out.keep HBR.out);have hzr:w.heap.size+1<=wr.heap.size:=HW.out.k.lt;replace q0:=A9 HBR.out q0;replace q1:=A9 HBR.out q1;replace q2:=A9 HBR.out q2;replace q3:=A9 HBR.out q3;replace q4:=A9 HBR.out q4;replace q5:=A9 HBR.out q5;replace q6:=A9 HBR.out q6;replace q7:=A9 HBR.out q7;replace q8:=A9 HBR.out q8;replace q9:=A9 HBR.out q9;replace q10:=A9 HBR.out q10;replace q11:=A9 HBR.out q11;replace q12:=A9 HBR.out q12;clear HBR HS c12 hss;obtain rfl:S=str (AR AZ x):=HS2.out;have z1:(str (AR AZ x)).size<=3000:=by rw [AB];omega
   generalize AR AZ x=LX at *;have qt:=AH LX
   go_upto_if 54 with fail
   go_cut [3] from 4 (fun v wx=>BY wx (w.heap.size+1) v SC/\NP w [.string (str u),.string (str t),.int .i64 s,.int .i64 l,.slice O o.length oc,.int .i64 fr,.int .i64 ev,.int .i64 ct,.int .i64 un,.slice D ds.length dc,.slice M ms.length mc,.slice Y ys.length yc,.slice X x.length xc] ⟨u,t,s,l,o,⟨fr,ev,ct,un,ds,ms,ys⟩,x⟩ ⟨O,oc,D,dc,M,mc,Y,yc,X,xc⟩ wx)
   case first =>
    by_cases hc:LX=[]
    ·have k0:LX.isEmpty=true:=by rw [hc];rfl
     have k3:(!LX.isEmpty)=false:=by rw [k0];rfl
     have k1:(LX==[])=true:=by rw [hc];rfl
     have k2:(LX != [])=false:=by rw [bne,k1];rfl
     have HE:Hid (SC=SB):=A5 (by rw [HN3.out];unfold Ev.OK;rw [if_neg (by simpa using hc),List.append_nil]);clear hc;simp only [k3];clear k0 k1 k2 k3 qt;go_wp2_with fail
     go_meet
     exact ⟨by rw [HE.out];exact HO.out,HW.out⟩
    ·have k0:LX.isEmpty=false:=by cases LX with|nil=>exact absurd rfl hc|cons _ _=>rfl
     have k3:(!LX.isEmpty)=true:=by rw [k0];rfl
     have k1:(LX==[])=false:=by cases LX with|nil=>exact absurd rfl hc|cons _ _=>rfl
     have k2:(LX != [])=true:=by rw [bne,k1];rfl
     have HE:Hid (SC=SB++[Ev.CZ (Ev.nEX,LX)]):=A5 (by rw [HN3.out];unfold Ev.OK;rw [if_pos (by simpa using hc)]);clear hc;simp only [k3];clear k0 k1 k2 k3 qt;have HZ:Hid ((⟨#[69,88,68,65,84,69,58]⟩:ByteArray)++str LX=str (Ev.CZ (Ev.nEX,LX))):=A5 (by rw [show (⟨#[69,88,68,65,84,69,58]⟩:ByteArray)=str [69,88,68,65,84,69,58] from rfl,AM];rfl);have hown:=HO.out;have hz:=hzr;go_wp2_with (at_builtin;rw [HZ.out];refine DR (l:=SB) (p:=Ev.CZ (Ev.nEX,LX)) rfl _ _ rfl rfl rfl rfl hown hz (by omega) ?_;intro v3 w3 hown3 hb3)
     go_meet
     exact ⟨by rw [HE.out];exact hown3,HW.out.app hb3⟩
   clear HO HW q0 q1 q2 q3 q4 q5 q6 q7 q8 q9 q10 q11 q12 hzr hz0 qt z1;obtain ⟨hown0,hW⟩:=hcut;have HO:=A5 hown0;have HW:=A5 hW;have hz0:w.heap.size+1<=wc.heap.size:=hW.k.lt;have q0:=hW.k.cell 0 (by simp);have q1:=hW.k.cell 1 (by simp);have q2:=hW.k.cell 2 (by simp);have q3:=hW.k.cell 3 (by simp);have q4:=hW.k.cell 4 (by simp);have q5:=hW.k.cell 5 (by simp);have q6:=hW.k.cell 6 (by simp);have q7:=hW.k.cell 7 (by simp);have q8:=hW.k.cell 8 (by simp);have q9:=hW.k.cell 9 (by simp);have q10:=hW.k.cell 10 (by simp);have q11:=hW.k.cell 11 (by simp);have q12:=hW.k.cell 12 (by simp);simp only [List.getElem_cons_zero,List.getElem_cons_succ] at q0 q1 q2 q3 q4 q5 q6 q7 q8 q9 q10 q11 q12;clear hown0 hW;go_wp2_with fail
   go_loopw [4,6] (fun sv i wr=>∃ j:Nat,j<=o.length/\i=.int .i64 j/\(∃ S:ByteArray,sv=.string S/\Hid (S=str (AU 44 ((o.take j).map Lib.itoa)))/\S.size<=100*j)/\Below wc.heap.size wc wr) (fun _ i _=>o.length-(intOf i).toNat)
   case atStart=>exact ⟨0,Nat.zero_le _,rfl,⟨⟨#[]⟩,rfl,A5 rfl,by decide⟩,start _⟩
   case round =>
    obtain ⟨j,hj,rfl,⟨S,rfl,HS,hss⟩,hbw⟩:=hrel;have HBR:=A5 hbw;have c4:=A9 hbw q4;clear hbw
    by_cases hlt:j<o.length
    ·obtain ⟨b1,o1,rfl,hb1,hc1⟩:=HW.out.l.o (by intro h0;have h0':o=[]:=h0;rw [h0'] at hlt;exact absurd hlt (Nat.not_lt_zero _));obtain ⟨z,hz⟩:∃ z,o[j]=z:=⟨_,rfl⟩;have p1:wr.cell? ⟨b1,o1+j,none⟩=some (.int .i64 z):=by rw [<- hz];exact (HBR.out.cell (p:=⟨b1,_,none⟩) hb1).trans (hc1 j hlt)
     have hi0:(0:Int)<=(j:Int):=by omega
     have hi1:(j:Int)<(o.length:Int):=by omega
     have hjn:=Ev.SF 44 Lib.itoa o j hlt;rw [hz] at hjn;have hzr9:=HRO.out z (by rw [<- hz];exact List.getElem_mem _);have hzl:(Lib.itoa z).length<=30:=Nat.le_trans (Lib.itoa_length_le z (by omega) (by omega)) (by omega);have HCZ:=A5 (fun w=>CR.out z hzr9 w);generalize Lib.itoa z=TZ at *;have zz:(str TZ).size<=30:=by rw [AB];exact hzl
     clear hc1 hz;rcases Nat.eq_zero_or_pos j with h0|h0
     ·subst h0;rw [Nat.add_zero] at p1;rw [if_pos rfl] at hjn;have HJ:=A5 hjn;have g1:decide ((0:Int)<((0:Nat):Int))=false:=rfl;have g2:¬ ((0:Int)<((0:Nat):Int)):=by decide
      go_wp2_with fail;refine (HCZ.out _).mono ?_;rintro _ w2 ⟨rfl,hb⟩;replace HBR:=A5 (andthen HBR.out hb);clear hb;go_wp2_with fail
      go_roundw
      case rel=>exact ⟨1,by omega,by go_num,⟨_,rfl,A5 (by have hj0:=HJ.out;have hs0:=HS.out;rw [hj0,hs0,AM];rfl),by rw [ByteArray.size_append];omega⟩,HBR.out⟩
      case measure=>simp [intOf];omega
     ·have h0n:¬ (j=0):=by omega
      rw [if_neg h0n] at hjn;have HJ:=A5 hjn;have g2:(0:Int)<(j:Int):=by omega
      have g1:decide ((0:Int)<(j:Int))=true:=z0H g2;have z9:(S++(⟨#[44]⟩:ByteArray)).size<=100*j+1:=by rw [ByteArray.size_append];have:(⟨#[44]⟩:ByteArray).size=1:=rfl;omega
      go_wp2_with fail;refine (HCZ.out _).mono ?_;rintro _ w2 ⟨rfl,hb⟩;replace HBR:=A5 (andthen HBR.out hb);clear hb;go_wp2_with fail
      go_roundw
      case rel=>exact ⟨j+1,by omega,by go_num,⟨_,rfl,A5 (by have hj0:=HJ.out;have hs0:=HS.out;rw [hj0,hs0,show (⟨#[44]⟩:ByteArray)=str [44] from rfl,AM,AM];simp),by rw [ByteArray.size_append];omega⟩,HBR.out⟩
      case measure=>simp [intOf];omega
    ·obtain rfl:j=o.length:=by omega
     have HS2:Hid (S=str (AR Lib.itoa o)):=A5 (by have:=HS.out;rw [List.take_length] at this;exact this);replace HO:=A5 (HO.out.keep HBR.out);replace HW:=A5 (HW.out.keep HBR.out);have hzr:w.heap.size+1<=wr.heap.size:=HW.out.k.lt;replace q0:=A9 HBR.out q0;replace q1:=A9 HBR.out q1;replace q2:=A9 HBR.out q2;replace q3:=A9 HBR.out q3;replace q4:=A9 HBR.out q4;replace q5:=A9 HBR.out q5;replace q6:=A9 HBR.out q6;replace q7:=A9 HBR.out q7;replace q8:=A9 HBR.out q8;replace q9:=A9 HBR.out q9;replace q10:=A9 HBR.out q10;replace q11:=A9 HBR.out q11;replace q12:=A9 HBR.out q12;clear HBR HS c4 hss;obtain rfl:S=str (AR Lib.itoa o):=HS2.out;have z1:(str (AR Lib.itoa o)).size<=3000:=by rw [AB];omega
     generalize AR Lib.itoa o=LO at *;have HZ:Hid ((⟨#[88,45,82,79,79,77,83,58]⟩:ByteArray)++str LO=str (Ev.CZ (Ev.BP,LO))):=A5 (by rw [show (⟨#[88,45,82,79,79,77,83,58]⟩:ByteArray)=str [88,45,82,79,79,77,83,58] from rfl,AM];rfl);have hown:=HO.out;have hz:=hzr;have qt:=AH t
     go_upto_if 86 with (at_builtin;rw [HZ.out];refine DR (l:=SC) (p:=Ev.CZ (Ev.BP,LO)) rfl _ _ rfl rfl rfl rfl hown hz (by omega) ?_;intro v3 w3 hown3 hb3;replace HW:=A5 (HW.out.app hb3);have r1:=HW.out.k.cell 1 (by simp);simp only [List.getElem_cons_zero,List.getElem_cons_succ] at r1)
     have HO4:Hid (BY w3 (w.heap.size+1) v3 SD):=A5 (by rw [HN4.out];exact hown3);have hz4:w.heap.size+1<=w3.heap.size:=HW.out.k.lt;clear hown hown3 hb3 hz hzr q0 q1 q2 q3 q4 q5 q6 q7 q8 q9 q10 q11 q12 HZ z1 HO
     go_cut [3] from 4 (fun v wx=>BY wx (w.heap.size+1) v SE/\NP w [.string (str u),.string (str t),.int .i64 s,.int .i64 l,.slice O o.length oc,.int .i64 fr,.int .i64 ev,.int .i64 ct,.int .i64 un,.slice D ds.length dc,.slice M ms.length mc,.slice Y ys.length yc,.slice X x.length xc] ⟨u,t,s,l,o,⟨fr,ev,ct,un,ds,ms,ys⟩,x⟩ ⟨O,oc,D,dc,M,mc,Y,yc,X,xc⟩ wx)
     case first =>
      by_cases hc:t=[]
      ·have k0:t.isEmpty=true:=by rw [hc];rfl
       have k3:(!t.isEmpty)=false:=by rw [k0];rfl
       have k1:(t==[])=true:=by rw [hc];rfl
       have k2:(t != [])=false:=by rw [bne,k1];rfl
       have HE:Hid (SE=SD):=A5 (by rw [HN5.out];unfold Ev.OK;rw [if_neg (by simpa using hc),List.append_nil]);clear hc;simp only [k3];clear k0 k1 k2 k3 qt;go_wp2_with fail
       go_meet
       exact ⟨by rw [HE.out];exact HO4.out,HW.out⟩
      ·have k0:t.isEmpty=false:=by cases t with|nil=>exact absurd rfl hc|cons _ _=>rfl
       have k3:(!t.isEmpty)=true:=by rw [k0];rfl
       have k1:(t==[])=false:=by cases t with|nil=>exact absurd rfl hc|cons _ _=>rfl
       have k2:(t != [])=true:=by rw [bne,k1];rfl
       have HE:Hid (SE=SD++[Ev.CZ (Ev.DH,Fo.DV t)]):=A5 (by rw [HN5.out];unfold Ev.OK;rw [if_pos (by simpa using hc)]);clear hc;simp only [k3];clear k0 k1 k2 k3 qt;generalize Fo.DV t=ET at *;have z1:(str ET).size<=100:=by rw [AB];omega
       have HZ:Hid ((⟨#[83,85,77,77,65,82,89,58]⟩:ByteArray)++str ET=str (Ev.CZ (Ev.DH,ET))):=A5 (by rw [show (⟨#[83,85,77,77,65,82,89,58]⟩:ByteArray)=str [83,85,77,77,65,82,89,58] from rfl,AM];rfl);go_wp2_with fail;refine (CE.out _).mono ?_;rintro _ w2 ⟨rfl,hb⟩;replace HW:=A5 (HW.out.keep hb);have hown:=HO4.out.keep hb;have hz:w.heap.size+1<=w2.heap.size:=HW.out.k.lt;clear hb;go_wp2_with (at_builtin;rw [HZ.out];refine DR (l:=SD) (p:=Ev.CZ (Ev.DH,ET)) rfl _ _ rfl rfl rfl rfl hown hz (by omega) ?_;intro v5 w5 hown5 hb5)
       go_meet
       exact ⟨by rw [HE.out];exact hown5,HW.out.app hb5⟩
     clear HO4 HW r1 qt hz4;obtain ⟨hown0,hW⟩:=hcut;have HO:=A5 hown0;have HW:=A5 hW;have hz0:w.heap.size+1<=wc.heap.size:=hW.k.lt;have q0:=hW.k.cell 0 (by simp);have q1:=hW.k.cell 1 (by simp);have q2:=hW.k.cell 2 (by simp);have q3:=hW.k.cell 3 (by simp);have q4:=hW.k.cell 4 (by simp);have q5:=hW.k.cell 5 (by simp);have q6:=hW.k.cell 6 (by simp);have q7:=hW.k.cell 7 (by simp);have q8:=hW.k.cell 8 (by simp);have q9:=hW.k.cell 9 (by simp);have q10:=hW.k.cell 10 (by simp);have q11:=hW.k.cell 11 (by simp);have q12:=hW.k.cell 12 (by simp);simp only [List.getElem_cons_zero,List.getElem_cons_succ] at q0 q1 q2 q3 q4 q5 q6 q7 q8 q9 q10 q11 q12;clear hown0 hW;have HZ:Hid ((⟨#[69,78,68,58,86,69,86,69,78,84]⟩:ByteArray)=str Ev.dQ):=A5 rfl;have hown:=HO.out;have hz:=hz0;clear q0 q1 q2 q3 q4 q5 q6 q7 q8 q9 q10 q11 q12;go_wp2_with (at_builtin;rw [HZ.out];refine DR (l:=SE) (p:=Ev.dQ) rfl _ _ rfl rfl rfl rfl hown hz (by omega) ?_;intro v7 w7 hown7 hb7);go_ret;rw [HN6.out];exact ⟨_,rfl,BY.low hown7 (Nat.le_succ _),(HW.out.app hb7).b⟩
theorem iH (e:Ev.E) (m:Mem) (w:World) (h:EvL w e m) :
  Calls prog 19 #[evV e m] w (K6 w (Ev.BL unU e)):=by
 obtain ⟨u,t,s,l,o,⟨fr,ev,ct,un,ds,ms,ys⟩,x⟩:=e;obtain ⟨O,oc,D,dc,M,mc,Y,yc,X,xc⟩:=m
 cases hi:Ev.isE ⟨u,t,s,l,o,⟨fr,ev,ct,un,ds,ms,ys⟩,x⟩ with
 | true=>exact cE u t s l o fr ev ct un ds ms ys x O D M Y X oc dc mc yc xc w h hi
 | false =>
  rw [Ev.vP unU hi];have HIS:=A5 hi;have hbox:=more (start w) (.cells #[.string (str u),.string (str t),.int .i64 s,.int .i64 l,.slice O o.length oc,.int .i64 fr,.int .i64 ev,.int .i64 ct,.int .i64 un,.slice D ds.length dc,.slice M ms.length mc,.slice Y ys.length yc,.slice X x.length xc] 47);have hk0:=DY w #[.string (str u),.string (str t),.int .i64 s,.int .i64 l,.slice O o.length oc,.int .i64 fr,.int .i64 ev,.int .i64 ct,.int .i64 un,.slice D ds.length dc,.slice M ms.length mc,.slice Y ys.length yc,.slice X x.length xc] 47;have HL:=A5 (h.keep hbox);have HB:=A5 hbox;have q0:=hk0.cell 0 (by simp);have q1:=hk0.cell 1 (by simp);have q2:=hk0.cell 2 (by simp);have q3:=hk0.cell 3 (by simp);have q4:=hk0.cell 4 (by simp);have q5:=hk0.cell 5 (by simp);have q6:=hk0.cell 6 (by simp);have q7:=hk0.cell 7 (by simp);have q8:=hk0.cell 8 (by simp);have q9:=hk0.cell 9 (by simp);have q10:=hk0.cell 10 (by simp);have q11:=hk0.cell 11 (by simp);have q12:=hk0.cell 12 (by simp);simp only [List.getElem_cons_zero,List.getElem_cons_succ] at q0 q1 q2 q3 q4 q5 q6 q7 q8 q9 q10 q11 q12;clear hi hbox hk0 h;simp only [evV];go_enter func19,ntmps19;go_wp2_with fail;refine (AF (TL ⟨u,t,s,l,o,⟨fr,ev,ct,un,ds,ms,ys⟩,x⟩ ⟨O,oc,D,dc,M,mc,Y,yc,X,xc⟩ _ HL.out) HIS.out).mono ?_;rintro _ w1 ⟨rfl,hb1⟩;replace HB:=A5 (andthen HB.out hb1);clear hb1 q0 q1 q2 q3 q4 q5 q6 q7 q8 q9 q10 q11 q12;go_wp2_with fail;go_ret;exact ⟨_,rfl,IK _ _,HB.out⟩
end Go.Proofs.YtfecnkhoojnkbaaGreatDoor

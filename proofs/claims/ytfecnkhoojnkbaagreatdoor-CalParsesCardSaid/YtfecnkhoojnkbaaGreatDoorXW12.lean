import Derived.Test.YtfecnkhoojnkbaaGreatDoorXEvG
set_option maxHeartbeats 8000000
set_option maxRecDepth 1000000
namespace Go.Proofs.YtfecnkhoojnkbaaGreatDoor
open Go.RowKit Rul Rt Go.Sort Tryz
def A2I (w:World) (o:Option T) (e:Ending) (w':World):Prop:=Below w.heap.size w w' ∧
 ((o=none/\e=.returned (.tuple #[DM,.int .i64 12]))∨∃ r D dn dc M mn mc Y yn yc,o=some r/\e=.returned (.tuple #[M3 r D dn dc M mn mc Y yn yc,.int .i64 0])/\DS w' D dn M mn Y yn r.ds r.ms r.ys ∧
  (∀ g o,D=some ⟨g,o,none⟩->w.heap.size<=g)/\(∀ g o,M=some ⟨g,o,none⟩->w.heap.size<=g)/\(∀ g o,Y=some ⟨g,o,none⟩->w.heap.size<=g))
theorem qK (s:ByteArray) (w:World) (he:Env w) (hs:s.size<=100000) :
  Calls prog 229 #[.string s] w (A2I w (IM unU s.data.toList)):=by
 have HE:=A5 he;have HZ:=A5 (VW w 44);have HZB:Hid (Below w.heap.size w (w.alloc (.cells #[.int .i64 0,.int .i64 0,.int .i64 0,.int .i64 0,.slice none 0 0,.slice none 0 0,.slice none 0 0] 44))):=A5 (more (start w) _);clear he;go_enter func229,ntmps229;go_wp2_with fail;refine (kE s _ (HE.out.keep HZB.out) hs).mono ?_;rintro e w1 ⟨A,cap,rfl,hr,hb1⟩;have hle:=J6 59 7 s.data.toList;rw [AE] at hle;have HRD:=A5 (fun w hr he=>yT A _ cap (Lib.splitN s.data.toList [59] 8) w hr rfl (Nat.le_trans hle.2 (by omega)) (fun p hp=>Nat.le_trans (hle.1 p hp) hs) he);obtain ⟨O,hO⟩:∃ O,O4 unU (Lib.splitN s.data.toList [59] 8)=O:=⟨_,rfl⟩;have hA:=A1w unU s.data.toList;rw [hO] at HRD hA;have HA:=A5 hA;replace HZ:=A5 (HZ.out.keep hb1);replace HZB:=A5 (andthen HZB.out hb1);have HRR:=A5 hr;generalize Lib.splitN s.data.toList [59] 8=L at *;clear hO hle hb1 hr hA;go_wp2_with fail;refine (HRD.out _ HRR.out (HE.out.keep HZB.out)).mono ?_;rintro e w2 ⟨hb2,⟨rfl,rfl⟩|⟨r,D,dn,dc,M,mn,mc,Y,yn,yc,rfl,rfl,hlies⟩⟩
 ·have HF:Hid (IM unU s.data.toList=none):=HA;unfold DM;replace HZ:=A5 ((HZ.out.keep hb2).keep (more (start w2) (.cells #[.int .i64 0,.int .i64 0,.int .i64 0,.int .i64 0,.slice none 0 0,.slice none 0 0,.slice none 0 0] 44)));replace HZB:=A5 (more (andthen HZB.out hb2) (.cells #[.int .i64 0,.int .i64 0,.int .i64 0,.int .i64 0,.slice none 0 0,.slice none 0 0,.slice none 0 0] 44));clear hb2;have z0:=HZ.out.c0;have z1:=HZ.out.c1;have z2:=HZ.out.c2;have z3:=HZ.out.c3;have z4:=HZ.out.c4;have z5:=HZ.out.c5;have z6:=HZ.out.c6;have f0:=HZ.out.f0;have f1:=HZ.out.f1;have f2:=HZ.out.f2;have f3:=HZ.out.f3;have f4:=HZ.out.f4;have f5:=HZ.out.f5;have f6:=HZ.out.f6;have hlz:=HZ.out.lt;go_wp2_with fail;refine B6 (JR w) (K9 HZ.out HZB.out) ?_;rintro WF ⟨⟨c0,c1,c2,c3,c4,c5,c6⟩,hb⟩;exact bodyPost_ret (v:=.tuple #[DM,.int .i64 12]) (by simp [results,Tryz.results229,go_sem,c0,c1,c2,c3,c4,c5,c6,DM]) rfl ⟨hb,Or.inl ⟨HF.out,rfl⟩⟩
 ·have HL:=A5 hlies;unfold M3;obtain ⟨fr,ev,ct,un,ds,ms,ys⟩:=r;simp only at HL ⊢;have hR:=fun w h=>CY fr ev ct un D M Y dn dc mn mc yn yc ds ms ys w h
  have hO:MU (some ⟨fr,ev,ct,un,ds,ms,ys⟩)=if isB ⟨fr,ev,ct,un,ds,ms,ys⟩=true then some ⟨fr,ev,ct,un,ds,ms,ys⟩ else none:=rfl
  rw [hO] at HA;have h01:=HZ.out.lt;obtain ⟨X,hX⟩:∃ X,w2.heap.size=X:=⟨_,rfl⟩;obtain ⟨q0,q1,q2,q3,q4,q5,q6⟩:=YC w2 44 (.int .i64 fr) (.int .i64 ev) (.int .i64 ct) (.int .i64 un) (.slice D dn dc) (.slice M mn mc) (.slice Y yn yc) hX;replace HL:=A5 (HL.out.keep (more (start w2) (.cells #[.int .i64 fr,.int .i64 ev,.int .i64 ct,.int .i64 un,.slice D dn dc,.slice M mn mc,.slice Y yn yc] 44)));replace HZ:=A5 ((HZ.out.keep hb2).keep (more (start w2) (.cells #[.int .i64 fr,.int .i64 ev,.int .i64 ct,.int .i64 un,.slice D dn dc,.slice M mn mc,.slice Y yn yc] 44)));replace HZB:=A5 (more (andthen HZB.out hb2) (.cells #[.int .i64 fr,.int .i64 ev,.int .i64 ct,.int .i64 un,.slice D dn dc,.slice M mn mc,.slice Y yn yc] 44));have HQ:=A5 (And.intro q0 (And.intro q1 (And.intro q2 (And.intro q3 (And.intro q4 (And.intro q5 q6))))));clear hb2 hlies hO q0 q1 q2 q3 q4 q5 q6
  by_cases hb:isB ⟨fr,ev,ct,un,ds,ms,ys⟩=true
  ·rw [if_pos hb] at HA;rw [hb] at hR;have HRR2:=A5 hR;clear hR hb;obtain ⟨q0,q1,q2,q3,q4,q5,q6⟩:=HQ.out;go_wp2_with fail;refine (HRR2.out _ HL.out.BD).mono ?_;rintro e w3 ⟨rfl,hb3⟩;replace HL:=A5 (HL.out.keep hb3);replace HZ:=A5 (HZ.out.keep hb3);replace HZB:=A5 (andthen HZB.out hb3);have x0:=A9 hb3 HQ.out.1;have x1:=A9 hb3 HQ.out.2.1;have x2:=A9 hb3 HQ.out.2.2.1;have x3:=A9 hb3 HQ.out.2.2.2.1;have x4:=A9 hb3 HQ.out.2.2.2.2.1;have x5:=A9 hb3 HQ.out.2.2.2.2.2.1;have x6:=A9 hb3 HQ.out.2.2.2.2.2.2;rw [hX] at *;have HCP:=A5 (HZ.out.copy HL.out h01);have z0:=HZ.out.c0;have z1:=HZ.out.c1;have z2:=HZ.out.c2;have z3:=HZ.out.c3;have z4:=HZ.out.c4;have z5:=HZ.out.c5;have z6:=HZ.out.c6;have f0:=HZ.out.f0;have f1:=HZ.out.f1;have f2:=HZ.out.f2;have f3:=HZ.out.f3;have f4:=HZ.out.f4;have f5:=HZ.out.f5;have f6:=HZ.out.f6;have hlz:=HZ.out.lt;clear hb3 HQ q0 q1 q2 q3 q4 q5 q6;go_wp2_with fail;refine B6 (kG w ⟨fr,ev,ct,un,ds,ms,ys⟩ D dn dc M mn mc Y yn yc) ⟨_,HCP.out,below_7 HZB.out (Nat.le_refl _)⟩ ?_;rintro WF ⟨_,hr,hb⟩;exact bodyPost_ret (v:=.tuple #[M3 ⟨fr,ev,ct,un,ds,ms,ys⟩ D dn dc M mn mc Y yn yc,.int .i64 0]) (by simp [results,Tryz.results229,go_sem,hr.c0,hr.c1,hr.c2,hr.c3,hr.c4,hr.c5,hr.c6,M3]) rfl ⟨hb,Or.inr ⟨_,_,_,_,_,_,_,_,_,_,HA.out,rfl,hr.BD,fun g o e=>Nat.le_of_lt (hr.od g o e).2.2.2,fun g o e=>Nat.le_of_lt (hr.om g o e).2.2.2,fun g o e=>Nat.le_of_lt (hr.oy g o e).2.2.2⟩⟩
  ·rw [if_neg hb] at HA;rw [Bool.eq_false_iff.2 hb] at hR;have HF:=HA;have HRR2:=A5 hR;clear hR hb;obtain ⟨q0,q1,q2,q3,q4,q5,q6⟩:=HQ.out;go_wp2_with fail;refine (HRR2.out _ HL.out.BD).mono ?_;rintro e w3 ⟨rfl,hb3⟩;replace HZ:=A5 (HZ.out.keep hb3);replace HZB:=A5 (andthen HZB.out hb3);have z0:=HZ.out.c0;have z1:=HZ.out.c1;have z2:=HZ.out.c2;have z3:=HZ.out.c3;have z4:=HZ.out.c4;have z5:=HZ.out.c5;have z6:=HZ.out.c6;have f0:=HZ.out.f0;have f1:=HZ.out.f1;have f2:=HZ.out.f2;have f3:=HZ.out.f3;have f4:=HZ.out.f4;have f5:=HZ.out.f5;have f6:=HZ.out.f6;have hlz:=HZ.out.lt;clear hb3 HQ q0 q1 q2 q3 q4 q5 q6;go_wp2_with fail;refine B6 (JR w) (K9 HZ.out HZB.out) ?_;rintro WF ⟨⟨c0,c1,c2,c3,c4,c5,c6⟩,hb⟩;exact bodyPost_ret (v:=.tuple #[DM,.int .i64 12]) (by simp [results,Tryz.results229,go_sem,c0,c1,c2,c3,c4,c5,c6,DM]) rfl ⟨hb,Or.inl ⟨HF.out,rfl⟩⟩
def MayN (w:World) (o:Option T) (e:Ending) (w':World):Prop:=Below w.heap.size w w'/\∃ r D dn dc M mn mc Y yn yc,e=.returned (.tuple #[M3 r D dn dc M mn mc Y yn yc,.bool o.isSome]) ∧
 (∀ q,o=some q->q=r/\DS w' D dn M mn Y yn r.ds r.ms r.ys/\(∀ g o,D=some ⟨g,o,none⟩->w.heap.size<=g)/\(∀ g o,M=some ⟨g,o,none⟩->w.heap.size<=g)/\(∀ g o,Y=some ⟨g,o,none⟩->w.heap.size<=g))
theorem DS.grow {w w':World} {c:Nat} {D M Y:Option Addr} {dn mn yn:Nat} {ds:List Wd} {ms ys:List Int} (h:DS w D dn M mn Y yn ds ms ys) (g:w.grownBy w' (some c)) (hd:∀ b o,D=some ⟨b,o,none⟩->b≠c) (hm:∀ b o,M=some ⟨b,o,none⟩->b≠c) (hy:∀ b o,Y=some ⟨b,o,none⟩->b≠c):DS w' D dn M mn Y yn ds ms ys :=
 ⟨h.d.grow g (fun b o e k=>hd b o e (by injection k)),h.dn,h.dl,h.m.grow g (fun b o e k=>hm b o e (by injection k)),h.mn,h.ml,h.y.grow g (fun b o e k=>hy b o e (by injection k)),h.yn,h.yl⟩
theorem qL (s:ByteArray) (w:World) (he:Env w) (hs:s.size<=100000) :
  Calls prog 229 #[.string s] w fun e w'=>Below w.heap.size w w'/\∃ (r:T) (er:Int) (D:Option Addr) (dn dc:Nat) (M:Option Addr) (mn mc:Nat) (Y:Option Addr) (yn yc:Nat),e=.returned (.tuple #[.agg #[.int .i64 r.fr,.int .i64 r.ev,.int .i64 r.ct,.int .i64 r.un,.slice D dn dc,.slice M mn mc,.slice Y yn yc],.int .i64 er])/\(er==0)=(IM unU s.data.toList).isSome/\(∀ q,IM unU s.data.toList=some q->q=r)/\DS w' D dn M mn Y yn r.ds r.ms r.ys ∧
   (∀ g o,D=some ⟨g,o,none⟩->w.heap.size<=g)/\(∀ g o,M=some ⟨g,o,none⟩->w.heap.size<=g)/\(∀ g o,Y=some ⟨g,o,none⟩->w.heap.size<=g):=by
 refine (qK s w he hs).mono ?_;rintro e w' ⟨hb,⟨h1,h2⟩|⟨r,D,dn,dc,M,mn,mc,Y,yn,yc,h1,h2,h3,h4,h5,h6⟩⟩
 ·exact ⟨hb,⟨0,0,0,0,[],[],[]⟩,12,none,0,0,none,0,0,none,0,0,h2,by rw [h1];rfl,fun q hq=>(by rw [h1] at hq;cases hq),C7 _,(fun _ _ h=>by cases h),(fun _ _ h=>by cases h),(fun _ _ h=>by cases h)⟩
 ·exact ⟨hb,r,0,D,dn,dc,M,mn,mc,Y,yn,yc,h2,by rw [h1];rfl,fun q hq=>(by rw [h1] at hq;injection hq with hq;exact hq.symm),h3,h4,h5,h6⟩
theorem qM (s:ByteArray) (w:World) (he:Env w) (hs:s.size<=100000) :
  Calls prog 219 #[.string s] w (MayN w (IM unU s.data.toList)):=by
 have hb0:=more (start w) (.cells #[.int .i64 0,.int .i64 0,.int .i64 0,.int .i64 0,.slice none 0 0,.slice none 0 0,.slice none 0 0] 44);have hz:=DY w #[.int .i64 0,.int .i64 0,.int .i64 0,.int .i64 0,.slice none 0 0,.slice none 0 0,.slice none 0 0] 44;have HP:=A5 (fun w he=>qL s w he hs);have HE:=A5 (he.keep hb0);have HZ:=A5 hz;have HB:=A5 hb0;clear he hz hb0;obtain ⟨O,hO⟩:∃ O,IM unU s.data.toList=O:=⟨_,rfl⟩;rw [hO] at HP ⊢;clear hO;go_enter func219,ntmps219;go_wp2_with fail;refine (HP.out _ HE.out).mono ?_;rintro e w1 ⟨hb,r,er,D,dn,dc,M,mn,mc,Y,yn,yc,rfl,h1,h2,h3,h4,h5,h6⟩;obtain ⟨fr,ev,ct,un,ds,ms,ys⟩:=r;simp only at h3 ⊢;have H1:=A5 h1;have H2:=A5 h2;have hb2:=more (start w1) (.cells #[.int .i64 fr,.int .i64 ev,.int .i64 ct,.int .i64 un,.slice D dn dc,.slice M mn mc,.slice Y yn yc] 44);have HZ2:=A5 ((HZ.out.keep hb).keep hb2);have HB2:=A5 (andthen (andthen HB.out hb) hb2);have H3:=A5 (h3.keep hb2);simp only [World.size_alloc] at h4 h5 h6;have H4:=A5 h4;have H5:=A5 h5;have H6:=A5 h6;clear HZ HB h1 h2 h3 h4 h5 h6 hb hb2;have z0:(w1.alloc (.cells #[.int .i64 fr,.int .i64 ev,.int .i64 ct,.int .i64 un,.slice D dn dc,.slice M mn mc,.slice Y yn yc] 44)).cell? ⟨w.heap.size,0,none⟩=some (.int .i64 0):=HZ2.out.cell 0 (by simp);have g0:=HZ2.out.free 0;have z1:(w1.alloc (.cells #[.int .i64 fr,.int .i64 ev,.int .i64 ct,.int .i64 un,.slice D dn dc,.slice M mn mc,.slice Y yn yc] 44)).cell? ⟨w.heap.size,1,none⟩=some (.int .i64 0):=HZ2.out.cell 1 (by simp);have g1:=HZ2.out.free 1;have z2:(w1.alloc (.cells #[.int .i64 fr,.int .i64 ev,.int .i64 ct,.int .i64 un,.slice D dn dc,.slice M mn mc,.slice Y yn yc] 44)).cell? ⟨w.heap.size,2,none⟩=some (.int .i64 0):=HZ2.out.cell 2 (by simp);have g2:=HZ2.out.free 2;have z3:(w1.alloc (.cells #[.int .i64 fr,.int .i64 ev,.int .i64 ct,.int .i64 un,.slice D dn dc,.slice M mn mc,.slice Y yn yc] 44)).cell? ⟨w.heap.size,3,none⟩=some (.int .i64 0):=HZ2.out.cell 3 (by simp);have g3:=HZ2.out.free 3;have z4:(w1.alloc (.cells #[.int .i64 fr,.int .i64 ev,.int .i64 ct,.int .i64 un,.slice D dn dc,.slice M mn mc,.slice Y yn yc] 44)).cell? ⟨w.heap.size,4,none⟩=some (.slice none 0 0):=HZ2.out.cell 4 (by simp);have g4:=HZ2.out.free 4;have z5:(w1.alloc (.cells #[.int .i64 fr,.int .i64 ev,.int .i64 ct,.int .i64 un,.slice D dn dc,.slice M mn mc,.slice Y yn yc] 44)).cell? ⟨w.heap.size,5,none⟩=some (.slice none 0 0):=HZ2.out.cell 5 (by simp);have g5:=HZ2.out.free 5;have z6:(w1.alloc (.cells #[.int .i64 fr,.int .i64 ev,.int .i64 ct,.int .i64 un,.slice D dn dc,.slice M mn mc,.slice Y yn yc] 44)).cell? ⟨w.heap.size,6,none⟩=some (.slice none 0 0):=HZ2.out.cell 6 (by simp);have g6:=HZ2.out.free 6;have hlt:=HZ2.out.lt;go_wp2_with fail;refine B6 (fun W=>AX W w.heap.size [.int .i64 fr,.int .i64 ev,.int .i64 ct,.int .i64 un,.slice D dn dc,.slice M mn mc,.slice Y yn yc]/\DS W D dn M mn Y yn ds ms ys/\Below w.heap.size w W) ⟨HZ2.out.all [.int .i64 fr,.int .i64 ev,.int .i64 ct,.int .i64 un,.slice D dn dc,.slice M mn mc,.slice Y yn yc] rfl,H3.out.grow (F9 [.int .i64 fr,.int .i64 ev,.int .i64 ct,.int .i64 un,.slice D dn dc,.slice M mn mc,.slice Y yn yc] _ w.heap.size 0) (fun b o e=>by have:=H4.out b o e;omega) (fun b o e=>by have:=H5.out b o e;omega) (fun b o e=>by have:=H6.out b o e;omega),BK [.int .i64 fr,.int .i64 ev,.int .i64 ct,.int .i64 un,.slice D dn dc,.slice M mn mc,.slice Y yn yc] _ _ HB2.out (Nat.le_refl _)⟩ ?_;rintro WF ⟨hk,hl,hb⟩;have k0:=hk.cell 0 (by simp);have k1:=hk.cell 1 (by simp);have k2:=hk.cell 2 (by simp);have k3:=hk.cell 3 (by simp);have k4:=hk.cell 4 (by simp);have k5:=hk.cell 5 (by simp);have k6:=hk.cell 6 (by simp);simp only [List.getElem_cons_zero,List.getElem_cons_succ] at k0 k1 k2 k3 k4 k5 k6;have q:=H1.out;exact bodyPost_ret (v:=.tuple #[.agg #[.int .i64 fr,.int .i64 ev,.int .i64 ct,.int .i64 un,.slice D dn dc,.slice M mn mc,.slice Y yn yc],.bool O.isSome]) (by simp [results,Tryz.results219,go_sem,k0,k1,k2,k3,k4,k5,k6,q]) rfl ⟨hb,⟨fr,ev,ct,un,ds,ms,ys⟩,D,dn,dc,M,mn,mc,Y,yn,yc,rfl,fun q hq=>⟨H2.out q hq,hl,fun g o e=>Nat.le_of_succ_le (H4.out g o e),fun g o e=>Nat.le_of_succ_le (H5.out g o e),fun g o e=>Nat.le_of_succ_le (H6.out g o e)⟩⟩
end Go.Proofs.YtfecnkhoojnkbaaGreatDoor
namespace Go.Proofs.YtfecnkhoojnkbaaGreatDoor.Rt
open Go.Proofs.YtfecnkhoojnkbaaGreatDoor Rul Tryz
def rot {α:Type} (k:Nat) (l:List α):List α:=l.drop k++l.take k
theorem eX {α:Type} (k:Nat) (l:List α):(rot k l).Perm l:=by
 have:=List.perm_append_comm (l₁:=l.drop k) (l₂:=l.take k);rw [List.take_append_drop] at this;exact this
theorem A0Q {α β:Type} (f:α->β) (k:Nat) (l:List α):(rot k l).map f=rot k (l.map f):=by
 unfold rot;rw [List.map_append,List.map_drop,List.map_take]
theorem xP (U:Un) (r:T) (h:GH r=true) (k:Nat):IM U (AU 59 (rot k ((DF U r).map (ES U))))=some r:=by
 rw [<- A0Q];exact XC U r h _ (eX k _)
theorem qN (U:Un) (r:T) (h:GH r=true) (k:Nat) (x:Tx) (hx:x∈(DF U r).map (ES U)):IM U (AU 59 (rot k ((DF U r).map (ES U)))++59 :: x)=none:=by
 have hp:=eX k ((DF U r).map (ES U));refine iN U _ (fun e=>?_) (fun t ht=>?_) x (hp.mem_iff.2 hx)
 ·rw [e] at hp;have:=List.perm_nil.1 hp.symm;rw [List.map_eq_nil_iff] at this;exact N3 U r h this
 ·obtain ⟨y,_,rfl⟩:=List.mem_map.1 (hp.mem_iff.1 ht);exact QZ U y
end Go.Proofs.YtfecnkhoojnkbaaGreatDoor.Rt
namespace Go.Proofs.YtfecnkhoojnkbaaGreatDoor
open Go.RowKit Rul Rt Tryz
theorem xQ (p:Rt.Part):(nameOf p).length<=10:=by cases p <;> simp only [nameOf] <;> decide
theorem GY (p:Rt.Part) (n:Nat) (h:(FG unU p).length<=n):(ES unU p).length<=n+11:=by
 unfold ES;rw [z0J,List.length_cons];have:=xQ p;omega
theorem qO (r:T) (h:GH r=true):∀ p∈DF unU r,(ES unU p).length<=1000:=by
 have k:=FP h;have k1:=k.f1;have k2:=k.f2;have k3:=k.e1;have k4:=k.e2;have k5:=k.c1;have k6:=k.c2;have hul:∀ a n,EX n->(I3 a n).length<=30:=fun a n h=>by
  unfold I3;split
  ·simp
  ·exact Nat.le_trans (Lib.itoa_length_le n h.1 h.2) (by omega)
 have hll:∀ l:List Int,l.length<=12->(∀ x∈l,EX x)->(AR Lib.itoa l).length<=900:=fun l h1 h2=>by
  have:=FA Lib.itoa 30 l fun x hx=>Nat.le_trans (Lib.itoa_length_le x (h2 x hx).1 (h2 x hx).2) (by omega)
  omega
 obtain ⟨d1,d2,_⟩:=(CX UD (0,0) r.ds).1 k.ds;obtain ⟨m1,m2,_⟩:=(CX ID 0 r.ms).1 k.ms;obtain ⟨y1,y2,_⟩:=(CX ID 0 r.ys).1 k.ys;have hld:(AR CC r.ds).length<=900:=by
  have:=FA CC 40 r.ds fun x hx=>VV x (by
   have:=d2 x hx;rw [EF,Bool.and_eq_true,AY] at this;unfold EX;omega)
  omega
 have hlm:=hll r.ms m1 fun x hx=>by
  have:=m2 x hx;rw [G5,Bool.and_eq_true,AY] at this;unfold EX;omega
 have hly:=hll r.ys y1 fun x hx=>by
  have:=y2 x hx;rw [GS,AY] at this;unfold EX;omega
 have hfl:(IU r.fr).length<=100:=by
  have:∀ n:Nat,n<4->(C8.getD n []).length<=100:=by decide
  exact this (r.fr.toNat-1) (by omega)
 have htl:=IL r.un;have u1:=hul 1 r.ev (by unfold EX;omega);have u2:=hul 0 r.ct (by unfold EX;omega);intro p hp;have hp2:p∈UL r:=(List.mem_filter.1 hp).1;simp only [UL,List.mem_cons,List.not_mem_nil,or_false] at hp2;rcases hp2 with rfl|rfl|rfl|rfl|rfl|rfl|rfl
 ·exact Nat.le_trans (GY _ 100 hfl) (by omega)
 ·exact Nat.le_trans (GY _ 30 u1) (by omega)
 ·exact Nat.le_trans (GY _ 30 u2) (by omega)
 ·exact Nat.le_trans (GY _ 15 htl) (by omega)
 ·exact Nat.le_trans (GY _ 900 hly) (by omega)
 ·exact Nat.le_trans (GY _ 900 hlm) (by omega)
 ·exact Nat.le_trans (GY _ 900 hld) (by omega)
structure Backs (r:T) (ws:List Tx):Prop where
 text:DU unU r=AU 59 ws
 cut:cutAt 59 (DU unU r)=ws
 pos:0<ws.length
 le:ws.length<=7
 len:∀ p∈ws,p.length<=1000
 back:IM unU (DU unU r)=some r
 turn:∀ k,IM unU (AU 59 (Rt.rot k ws))=some r
 twice:∀ k,∀ x∈ws,IM unU (AU 59 (Rt.rot k ws)++59 :: x)=none
theorem xR (r:T) (hi:isB r=true) (hf:r.fr≠0):∃ ws,Backs r ws:=by
 have hs:C9 r once=false:=by
  cases h:C9 r once with
  | false=>rfl
  | true =>
   have e:=(EH _ _).1 h;exact absurd (by rw [e];rfl) hf
 have hr:GH r=true:=by
  unfold isB at hi;rw [Bool.or_eq_true] at hi;rcases hi with h|h
  ·rw [EH] at h;exact absurd (by rw [h];rfl) hf
  ·exact h
 have ht:=YA unU r hi hs;have hne:(DF unU r).map (ES unU)≠[]:=fun e=>N3 unU r hr (List.map_eq_nil_iff.1 e)
 refine ⟨(DF unU r).map (ES unU),ht,?_,?_,?_,?_,?_,xP unU r hr,qN unU r hr⟩
 ·rw [ht];exact ME 59 _ hne fun p hp=>by
   obtain ⟨x,_,rfl⟩:=List.mem_map.1 hp;exact QZ unU x
 ·exact List.length_pos_iff.2 hne
 ·rw [List.length_map];exact Nat.le_trans (List.length_filter_le _ _) (by simp [UL])
 ·intro p hp;obtain ⟨x,hx,rfl⟩:=List.mem_map.1 hp;exact qO r hr x hx
 ·rw [ht];exact XC unU r hr _ (List.Perm.refl _)
end Go.Proofs.YtfecnkhoojnkbaaGreatDoor

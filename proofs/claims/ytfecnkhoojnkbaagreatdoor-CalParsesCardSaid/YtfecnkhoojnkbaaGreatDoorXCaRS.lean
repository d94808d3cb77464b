import Derived.Test.YtfecnkhoojnkbaaGreatDoorXW17
import Derived.Test.YtfecnkhoojnkbaaGreatDoorXC1
set_option maxHeartbeats 8000000
set_option maxRecDepth 1000000
namespace Go.Proofs.YtfecnkhoojnkbaaGreatDoor
open Go.RowKit Rul Rt Go.Sort Tryz
abbrev R13 (W:World) (b o:Nat) (e:Ev.E) (m:Mem):Prop:=W.cell? ⟨b,o,none⟩=some (.string (str e.uid))/\W.cell? ⟨b,o+1,none⟩=some (.string (str e.text))/\W.cell? ⟨b,o+2,none⟩=some (.int .i64 e.st)/\W.cell? ⟨b,o+3,none⟩=some (.int .i64 e.lg)/\W.cell? ⟨b,o+4,none⟩=some (.slice m.O e.rooms.length m.oc)/\W.cell? ⟨b,o+5,none⟩=some (.int .i64 e.r.fr)/\W.cell? ⟨b,o+6,none⟩=some (.int .i64 e.r.ev)/\W.cell? ⟨b,o+7,none⟩=some (.int .i64 e.r.ct)/\W.cell? ⟨b,o+8,none⟩=some (.int .i64 e.r.un)/\W.cell? ⟨b,o+9,none⟩=some (.slice m.D e.r.ds.length m.dc)/\W.cell? ⟨b,o+10,none⟩=some (.slice m.M e.r.ms.length m.mc)/\W.cell? ⟨b,o+11,none⟩=some (.slice m.Y e.r.ys.length m.yc)/\W.cell? ⟨b,o+12,none⟩=some (.slice m.X e.ex.length m.xc)
theorem bZ {W W1:World} {b o:Nat} {e:Ev.E} {m:Mem} (hb:Below W.heap.size W W1) (h:R13 W b o e m):R13 W1 b o e m :=
 ⟨A9 hb h.1,A9 hb h.2.1,A9 hb h.2.2.1,A9 hb h.2.2.2.1,A9 hb h.2.2.2.2.1,A9 hb h.2.2.2.2.2.1,A9 hb h.2.2.2.2.2.2.1,A9 hb h.2.2.2.2.2.2.2.1,A9 hb h.2.2.2.2.2.2.2.2.1,A9 hb h.2.2.2.2.2.2.2.2.2.1,A9 hb h.2.2.2.2.2.2.2.2.2.2.1,A9 hb h.2.2.2.2.2.2.2.2.2.2.2.1,A9 hb h.2.2.2.2.2.2.2.2.2.2.2.2⟩
theorem tI {W W1:World} {b1 p1 b2 p2:Nat} {e f:Ev.E} {m q:Mem} (hb:Below W.heap.size W W1) (h:(R13 W b1 p1 e m)/\(R13 W b2 p2 f q)):(R13 W1 b1 p1 e m)/\(R13 W1 b2 p2 f q):=⟨bZ hb h.1,bZ hb h.2⟩
theorem cA (A A2:Option Addr) (n n2 c c2:Nat) (l k:List EM) (w:World) (hl:GD w A l) (hk:GD w A2 k) (hn:n=l.length) (hn2:n2=k.length) (hsz:l.length<=1000000) (h1:KV w l) (h2:KV w k) (heq:l.map Prod.fst=k.map Prod.fst) :
  Calls prog 13 #[.slice A n c,.slice A2 n2 c2] w (Ans w (.bool true)):=by
 have hlen:k.length=l.length:=by have:=congrArg List.length heq;rw [List.length_map,List.length_map] at this;exact this.symm
 rw [hlen] at hn2;subst hn hn2;have HR:=A5 hl;have HR2:=A5 hk;have HL:=A5 h1;have HL2:=A5 h2;have HQ:Hid (∀ (j:Nat) (h:j<l.length),l[j].1=(k[j]'(by rw [hlen];exact h)).1):=A5 (fun j h=>by
  have g1:(l.map Prod.fst)[j]'(by rw [List.length_map];exact h)=l[j].1:=List.getElem_map _;have g2:(k.map Prod.fst)[j]'(by rw [List.length_map,hlen];exact h)=(k[j]'(by rw [hlen];exact h)).1:=List.getElem_map _;rw [<- g1,<- g2];simp only [heq])
 clear hl hk h1 h2 heq;have hz:(((l.length:Nat):Int) != ((l.length:Nat):Int))=false:=by simp
 go_enter func13,ntmps13;go_wp2_with fail
 go_loopw [5] (fun i wr=>∃ j:Nat,j<=l.length/\i=.int .i64 j/\Hid (Below w.heap.size w wr)) (fun i _=>l.length-(intOf i).toNat)
 case atStart=>exact ⟨0,Nat.zero_le _,rfl,A5 (start w)⟩
 case round =>
  obtain ⟨j,hj,rfl,HB⟩:=hrel
  by_cases hlt:j<l.length
  ·obtain ⟨b1,o1,rfl,hb1,hc1⟩:=HR.out (by intro h0;rw [h0] at hlt;exact absurd hlt (Nat.not_lt_zero _));have hltk:j<k.length:=by rw [hlen];exact hlt
   obtain ⟨b2,o2,rfl,hb2,hc2⟩:=HR2.out (by intro h0;rw [h0] at hltk;exact absurd hltk (Nat.not_lt_zero _));obtain ⟨p,hp⟩:∃ p,l[j]=p:=⟨_,rfl⟩;obtain ⟨p2,hp2⟩:∃ p,k[j]=p:=⟨_,rfl⟩;have heqj:=HQ.out j hlt;have h13:=hc1 j hlt;have h26:=hc2 j hltk;have hem:=HL.out l[j] (List.getElem_mem _);have hem2:=HL2.out k[j] (List.getElem_mem _);rw [hp] at h13 hem;rw [hp2] at h26 hem2;rw [hp,hp2] at heqj;obtain ⟨e,m⟩:=p;obtain ⟨f,q⟩:=p2;simp only at heqj h13 h26 hem hem2;have hsm:∀ w,EvL w e m->EvL w f q->Calls prog 24 #[evV e m,evV f q] w (Ans w (.bool true)):=fun w a b=>by
    subst heqj;have:=qU e e m q w a b
    rwa [Ev.iT] at this
   have HSM:=A5 hsm;have HE1:=A5 (hem.keep HB.out);have HE2:=A5 (hem2.keep HB.out);have hS0:=And.intro (h13.keep HB.out).all (h26.keep HB.out).all;have hi0:(0:Int)<=(j:Int):=by omega
   have hi1:(j:Int)<(l.length:Int):=by omega
   clear hp hp2 heqj h13 h26 hem hem2 hsm hc1 hc2;go_wp2_with fail;refine wp_region_held_drew (S:=fun W'=>(W'.cell? ⟨b1,o1+j*13,none⟩=some (.string (str e.uid))/\W'.cell? ⟨b1,o1+j*13+1,none⟩=some (.string (str e.text))/\W'.cell? ⟨b1,o1+j*13+2,none⟩=some (.int .i64 e.st)/\W'.cell? ⟨b1,o1+j*13+3,none⟩=some (.int .i64 e.lg)/\W'.cell? ⟨b1,o1+j*13+4,none⟩=some (.slice m.O e.rooms.length m.oc)/\W'.cell? ⟨b1,o1+j*13+5,none⟩=some (.int .i64 e.r.fr)/\W'.cell? ⟨b1,o1+j*13+6,none⟩=some (.int .i64 e.r.ev)/\W'.cell? ⟨b1,o1+j*13+7,none⟩=some (.int .i64 e.r.ct)/\W'.cell? ⟨b1,o1+j*13+8,none⟩=some (.int .i64 e.r.un)/\W'.cell? ⟨b1,o1+j*13+9,none⟩=some (.slice m.D e.r.ds.length m.dc)/\W'.cell? ⟨b1,o1+j*13+10,none⟩=some (.slice m.M e.r.ms.length m.mc)/\W'.cell? ⟨b1,o1+j*13+11,none⟩=some (.slice m.Y e.r.ys.length m.yc)/\W'.cell? ⟨b1,o1+j*13+12,none⟩=some (.slice m.X e.ex.length m.xc))/\(W'.cell? ⟨b2,o2+j*13,none⟩=some (.string (str f.uid))/\W'.cell? ⟨b2,o2+j*13+1,none⟩=some (.string (str f.text))/\W'.cell? ⟨b2,o2+j*13+2,none⟩=some (.int .i64 f.st)/\W'.cell? ⟨b2,o2+j*13+3,none⟩=some (.int .i64 f.lg)/\W'.cell? ⟨b2,o2+j*13+4,none⟩=some (.slice q.O f.rooms.length q.oc)/\W'.cell? ⟨b2,o2+j*13+5,none⟩=some (.int .i64 f.r.fr)/\W'.cell? ⟨b2,o2+j*13+6,none⟩=some (.int .i64 f.r.ev)/\W'.cell? ⟨b2,o2+j*13+7,none⟩=some (.int .i64 f.r.ct)/\W'.cell? ⟨b2,o2+j*13+8,none⟩=some (.int .i64 f.r.un)/\W'.cell? ⟨b2,o2+j*13+9,none⟩=some (.slice q.D f.r.ds.length q.dc)/\W'.cell? ⟨b2,o2+j*13+10,none⟩=some (.slice q.M f.r.ms.length q.mc)/\W'.cell? ⟨b2,o2+j*13+11,none⟩=some (.slice q.Y f.r.ys.length q.yc)/\W'.cell? ⟨b2,o2+j*13+12,none⟩=some (.slice q.X f.ex.length q.xc))) (by kernel_rfl) ?_ (fun hH0=>?_)
   ·exact hS0
   refine' z0L (i:=0) (v:=?v0) rfl (by kernel_rfl) (by kernel_rfl) (by kernel_rfl) ?y0 hH0 ?r0
   case y0=>(intro w hSw;(try dsimp only at hSw);go_simp;(try with_reducible rfl))
   try simp only [Act.put,z0A,z0C,z0D,z0E,z0F]
   refine' z0L (i:=1) (v:=?v1) rfl (by kernel_rfl) (by kernel_rfl) (by kernel_rfl) ?y1 hH0 ?r1
   case y1=>(intro w hSw;(try dsimp only at hSw);go_simp;(try with_reducible rfl))
   try simp only [Act.put,z0A,z0B,z0C,z0D,z0E,z0F]
   refine' z0L (i:=2) (v:=?v2) rfl (by kernel_rfl) (by kernel_rfl) (by kernel_rfl) ?y2 hH0 ?r2
   case y2=>(intro w hSw;(try dsimp only at hSw);go_simp;(try with_reducible rfl))
   try simp only [Act.put,z0A,z0B,z0C,z0D,z0E,z0F]
   refine' z0L (i:=3) (v:=?v3) rfl (by kernel_rfl) (by kernel_rfl) (by kernel_rfl) ?y3 hH0 ?r3
   case y3=>(intro w hSw;(try dsimp only at hSw);go_simp;(try with_reducible rfl))
   try simp only [Act.put,z0A,z0B,z0C,z0D,z0E,z0F]
   refine' z0L (i:=4) (v:=?v4) rfl (by kernel_rfl) (by kernel_rfl) (by kernel_rfl) ?y4 hH0 ?r4
   case y4=>(intro w hSw;(try dsimp only at hSw);go_simp;(try with_reducible rfl))
   try simp only [Act.put,z0A,z0B,z0C,z0D,z0E,z0F]
   refine' z0L (i:=5) (v:=?v5) rfl (by kernel_rfl) (by kernel_rfl) (by kernel_rfl) ?y5 hH0 ?r5
   case y5=>(intro w hSw;(try dsimp only at hSw);go_simp;(try with_reducible rfl))
   try simp only [Act.put,z0A,z0B,z0C,z0D,z0E,z0F]
   refine' z0L (i:=6) (v:=?v6) rfl (by kernel_rfl) (by kernel_rfl) (by kernel_rfl) ?y6 hH0 ?r6
   case y6=>(intro w hSw;(try dsimp only at hSw);go_simp;(try with_reducible rfl))
   try simp only [Act.put,z0A,z0B,z0C,z0D,z0E,z0F]
   refine' z0L (i:=7) (v:=?v7) rfl (by kernel_rfl) (by kernel_rfl) (by kernel_rfl) ?y7 hH0 ?r7
   case y7=>(intro w hSw;(try dsimp only at hSw);go_simp;(try with_reducible rfl))
   try simp only [Act.put,z0A,z0B,z0C,z0D,z0E,z0F]
   refine wpAnyH_ready (rs:=[8]) (by as_aux_lemma=>kernel_rfl) (by simp) ?_;refine AllReadyH.cons (o:=_) rfl (fun K hK=>?_) AllReadyH.nil
   go_simp
   refine (HSM.out wr.drew (HE1.out.keep (Below.drew (start wr))) (HE2.out.keep (Below.drew (start wr)))).mono ?_;rintro _ w3 ⟨rfl,hb⟩;have HB3:=A5 (andthen (andthen HB.out (Below.drew (start wr))) hb);refine hK.out _ _ (tI hb hH0) (fun hN=>?_);clear hK K hH0;have hH1:=hN;clear hN
   try simp only [Act.put,z0A,z0B,z0C,z0D,z0E,z0F]
   refine' z0L (i:=9) (v:=?v8) rfl (by kernel_rfl) (by kernel_rfl) (by kernel_rfl) ?y8 hH1 ?r8
   case y8=>(intro w hSw;(try dsimp only at hSw);go_simp;(try with_reducible rfl))
   try simp only [Act.put,z0A,z0B,z0C,z0D,z0E,z0F]
   refine wpAnyH_done (by as_aux_lemma=>kernel_rfl) ?_ _;clear hH1 hb;go_wp2_with fail
   go_roundw
   case rel=>exact ⟨j+1,by omega,by go_num,HB3⟩
   case measure=>simp [intOf];omega
  ·obtain rfl:j=l.length:=by omega
   go_wp2_with fail;go_ret;exact ⟨rfl,HB.out⟩
end Go.Proofs.YtfecnkhoojnkbaaGreatDoor

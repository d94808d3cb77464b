import Derived.Test.YtfecnkhoojnkbaaGreatDoorXW5b
set_option maxHeartbeats 8000000
set_option maxRecDepth 1000000
namespace Go.Proofs.YtfecnkhoojnkbaaGreatDoor
open Go.RowKit Rul Rt Go.Sort Tryz
theorem yK {ops:Array Oper} {rest:List Oper} {o:Oper} {a:Act} {Q:Exit->Act->World->Prop} {w:World} (hgd:o.guard=none) (l c:Operand)
  (ho:o.op=.makeSlice 42 l c) (hl:a.eval l=.int .i64 0) {C:Int} {n:Nat} (hc:a.eval c=.int .i64 C) (hC:C=(n:Int)) (hn:n<=1000000)
  (h:∀ v w',DO w' w.heap.size v []->Below w.heap.size w w'->wpList prog ops Q rest (a.put o.dst v) w') :
  wpList prog ops Q (o :: rest) a w:=by
 obtain ⟨i0,hi,hz0,hz1,hz2⟩:=info_parts VM;refine wpList_make_own w hgd l c 42 ho w.heap.size 114 i0 _ 2 underlying42 hi hz0 hz1 .i64 .i64 C n hl hc hC (by rw [hz2];omega) (by unfold maxLen;omega) (Nat.le_refl _) ?_;intro w' h2 h3;exact h _ w' h2 ((Below.refl w.heap.size w).grown h3 (Nat.le_refl _) fun j hj=>by cases hj)
theorem RL {ops:Array Oper} {rest:List Oper} {o:Oper} {a:Act} {Q:Exit->Act->World->Prop} {w:World} (hgd:o.guard=none) (l c:Operand)
  (ho:o.op=.makeSlice 41 l c) (hl:a.eval l=.int .i64 0) {C:Int} {n:Nat} (hc:a.eval c=.int .i64 C) (hC:C=(n:Int)) (hn:n<=1000000)
  (h:∀ v w',BV w' w.heap.size v []->Below w.heap.size w w'->wpList prog ops Q rest (a.put o.dst v) w') :
  wpList prog ops Q (o :: rest) a w:=by
 obtain ⟨i0,hi,hz0,hz1,hz2⟩:=info_parts VL;refine wpList_make_own w hgd l c 41 ho w.heap.size 3 i0 _ 1 underlying41 hi hz0 hz1 .i64 .i64 C n hl hc hC (by rw [hz2];omega) (by unfold maxLen;omega) (Nat.le_refl _) ?_;intro w' h2 h3;exact h _ w' h2 ((Below.refl w.heap.size w).grown h3 (Nat.le_refl _) fun j hj=>by cases hj)
def kD (w:World) (o:Option (List Int)) (e:Ending) (w':World):Prop:=Below w.heap.size w w'/\((o=none/\e=.returned (.tuple #[.slice none 0 0,.bool false]))∨∃ l v,o=some l/\e=.returned (.tuple #[v,.bool true])/\BV w' w.heap.size v l)
def A32 (w:World) (o:Option (List Wd)) (e:Ending) (w':World):Prop:=Below w.heap.size w w'/\((o=none/\e=.returned (.tuple #[.slice none 0 0,.bool false]))∨∃ l v,o=some l/\e=.returned (.tuple #[v,.bool true])/\DO w' w.heap.size v l)
theorem GB {α:Type} {f:Tx->Option α} {l:List Tx} {j:Nat} {acc:List α} {x:α} (hlt:j<l.length) (h:AK f (l.take j)=some acc) (hx:f l[j]=some x):AK f (l.take (j+1))=some (acc++[x]):=by
 rw [List.take_succ_eq_append_getElem hlt];exact YZ f _ _ h hx
theorem NK {α:Type} {f:Tx->Option α} {l:List Tx} {j:Nat} (hlt:j<l.length) (hx:f l[j]=none):AK f l=none:=Z0 f (List.getElem_mem hlt) hx
theorem mV (t:Tx) (o:Option Int) (w:World) (he:Env w) (ht:t.length<=100000) (h:BJ t=o) :
  Calls prog 275 #[.string (str t)] w (Ans w (NR o)):=by
 have:=fT (str t) w he (by rw [AB];exact ht);rw [AD,h] at this;exact this
theorem mW (t:Tx) (o:Option Wd) (w:World) (he:Env w) (ht:t.length<=100000) (h:BH BJ t=o) :
  Calls prog 278 #[.string (str t)] w (MayW w o):=by
 have:=yJ (str t) w he (by rw [AB];exact ht);rw [AD,h] at this;exact this
theorem SP (A:Option Addr) (n c:Nat) (l:List Tx) (w:World) (hl:BU w A l) (hn:n=l.length) (hsz:l.length<=1000) (hb:∀ p∈l,p.length<=100000) (he:Env w) :
  Calls prog 274 #[.func (.func 275) #[] #[],.func (.func 190) #[] #[],.slice A n c] w (kD w ((AK BJ l).map (srt AI))):=by
 subst hn;have HR:=A5 hl;have HE:=A5 he;have HB:=A5 hb;clear hl he hb;go_enter func274,ntmps274;go_wp2_with (refine RL rfl _ _ rfl rfl (n:=l.length) rfl rfl (by omega) ?_;intro v0 w0 hown0 hb0);have HO0:=A5 hown0;have HB0:=A5 hb0;clear hown0 hb0;go_wp2_with fail
 go_loopw [8,10,11,12,18] (fun v _ _ _ i wr=>∃ (j:Nat) (acc:List Int),j<=l.length/\i=.int .i64 j/\BV wr w.heap.size v acc/\Hid (AK BJ (l.take j)=some acc)/\Below w.heap.size w wr) (fun _ _ _ _ i _=>l.length-(intOf i).toNat)
 case atStart=>exact ⟨0,[],Nat.zero_le _,rfl,HO0.out,A5 rfl,HB0.out⟩
 case round =>
  obtain ⟨j,acc,hj,rfl,hown,HA,hbw⟩:=hrel;have HO:=A5 hown;have HBR:=A5 hbw;clear hown hbw;have hacc:acc.length<=j:=by have:=BF HA.out;rw [List.length_take] at this;omega
  by_cases hlt:j<l.length
  ·obtain ⟨b1,o1,rfl,hb1,hc1⟩:=HR.out (by intro h0;rw [h0] at hlt;exact absurd hlt (Nat.not_lt_zero _));obtain ⟨T,hm⟩:∃ T,l[j]=T:=⟨_,rfl⟩;have hT:=HB.out l[j] (List.getElem_mem _);rw [hm] at hT;have p1:wr.cell? ⟨b1,o1+j,none⟩=some (.string (str T)):=by rw [<- hm];exact (HBR.out.cell (p:=⟨b1,_,none⟩) hb1).trans (hc1 j hlt)
   have hi0:(0:Int)<=(j:Int):=by omega
   have hi1:(j:Int)<(l.length:Int):=by omega
   clear hc1
   cases hx:BJ T with
   | none =>
    have HN:Hid ((AK BJ l).map (srt AI)=none):=A5 (by rw [NK hlt (by rw [hm];exact hx)];rfl);have HX:=A5 hx;clear hx hm;go_wp2_with fail;refine (mV T none _ (HE.out.below HBR.out (Nat.le_refl _)) hT HX.out).mono ?_;rintro e v1 ⟨rfl,hbv⟩;unfold NR;go_wp2_with fail;go_ret2;exact ⟨andthen HBR.out hbv,Or.inl ⟨HN.out,rfl⟩⟩
   | some x =>
    have HN:=A5 (GB hlt HA.out (by rw [hm];exact hx));have HX:=A5 hx;clear hx hm;go_wp2_with fail;refine (mV T (some x) _ (HE.out.below HBR.out (Nat.le_refl _)) hT HX.out).mono ?_;rintro e v1 ⟨rfl,hbv⟩;unfold NR;simp only [Option.getD_some,Option.isSome_some];replace HO:=A5 (HO.out.keep hbv);replace HBR:=A5 (andthen HBR.out hbv);have hz:=HBR.out.size;have hown:=HO.out;have hln:acc.length<=1000000:=by omega
    clear hbv;go_wp2_with (at_builtin;refine FR (l:=acc) (p:=x) rfl _ _ rfl rfl rfl rfl hown hz hln ?_;intro v3 w3 hown3 hb3);have HO3:=A5 hown3;have HB3:=A5 (HBR.out.trans hb3);clear hown hown3 hb3 hz hln;go_wp2_with fail
    go_roundw
    case rel=>exact ⟨j+1,acc++[x],by omega,by go_num,HO3.out,HN,HB3.out⟩
    case measure=>simp [intOf];omega
  ·obtain rfl:j=l.length:=by omega
   rw [List.take_length] at HA;have HF:Hid ((AK BJ l).map (srt AI)=some (srt AI acc)):=A5 (by rw [HA.out];rfl);go_wp2_with fail;refine (rM w.heap.size _ acc _ HO.out (by omega)).mono ?_;rintro e v1 ⟨rfl,hown2,hgr⟩;have HB2:=A5 (HBR.out.grown hgr HBR.out.size fun k hk=>(HO.out.lt k hk).1);have HO2:=A5 hown2;clear hgr hown2;go_wp2_with fail;go_ret2;exact ⟨HB2.out,Or.inr ⟨_,_,HF.out,rfl,HO2.out⟩⟩
theorem fV (A:Option Addr) (n c:Nat) (l:List Tx) (w:World) (hl:BU w A l) (hn:n=l.length) (hsz:l.length<=1000) (hb:∀ p∈l,p.length<=100000) (he:Env w) :
  Calls prog 277 #[.func (.func 278) #[] #[],.func (.func 279) #[] #[],.slice A n c] w (A32 w ((AK (BH BJ) l).map (srt BO))):=by
 subst hn;have HR:=A5 hl;have HE:=A5 he;have HB:=A5 hb;clear hl he hb;go_enter func277,ntmps277;go_wp2_with (refine yK rfl _ _ rfl rfl (n:=l.length) rfl rfl (by omega) ?_;intro v0 w0 hown0 hb0);have HO0:=A5 hown0;have HB0:=A5 hb0;clear hown0 hb0;go_wp2_with fail
 go_loopw [8,10,11,12,18] (fun v _ _ _ i wr=>∃ (j:Nat) (acc:List Wd),j<=l.length/\i=.int .i64 j/\DO wr w.heap.size v acc/\Hid (AK (BH BJ) (l.take j)=some acc)/\Below w.heap.size w wr) (fun _ _ _ _ i _=>l.length-(intOf i).toNat)
 case atStart=>exact ⟨0,[],Nat.zero_le _,rfl,HO0.out,A5 rfl,HB0.out⟩
 case round =>
  obtain ⟨j,acc,hj,rfl,hown,HA,hbw⟩:=hrel;have HO:=A5 hown;have HBR:=A5 hbw;clear hown hbw;have hacc:acc.length<=j:=by have:=BF HA.out;rw [List.length_take] at this;omega
  by_cases hlt:j<l.length
  ·obtain ⟨b1,o1,rfl,hb1,hc1⟩:=HR.out (by intro h0;rw [h0] at hlt;exact absurd hlt (Nat.not_lt_zero _));obtain ⟨T,hm⟩:∃ T,l[j]=T:=⟨_,rfl⟩;have hT:=HB.out l[j] (List.getElem_mem _);rw [hm] at hT;have p1:wr.cell? ⟨b1,o1+j,none⟩=some (.string (str T)):=by rw [<- hm];exact (HBR.out.cell (p:=⟨b1,_,none⟩) hb1).trans (hc1 j hlt)
   have hi0:(0:Int)<=(j:Int):=by omega
   have hi1:(j:Int)<(l.length:Int):=by omega
   clear hc1
   cases hx:BH BJ T with
   | none =>
    have HN:Hid ((AK (BH BJ) l).map (srt BO)=none):=A5 (by rw [NK hlt (by rw [hm];exact hx)];rfl);have HX:=A5 hx;clear hx hm;go_wp2_with fail;refine (mW T none _ (HE.out.below HBR.out (Nat.le_refl _)) hT HX.out).mono ?_;rintro e v1 ⟨n,d,_,rfl,hbv⟩;rw [Option.isSome_none];go_wp2_with fail;go_ret2;exact ⟨more (andthen HBR.out hbv) _,Or.inl ⟨HN.out,rfl⟩⟩
   | some x =>
    have HN:=A5 (GB hlt HA.out (by rw [hm];exact hx));have HX:=A5 hx;clear hx hm;go_wp2_with fail;refine (mW T (some x) _ (HE.out.below HBR.out (Nat.le_refl _)) hT HX.out).mono ?_;rintro e v1 ⟨n,d,hnd,rfl,hbv⟩;rw [Option.isSome_some];obtain rfl:=hnd x rfl;clear hnd;have hbV:=more (start v1) (.cells #[.int .i64 n,.int .i64 d] 114);replace hbv:=andthen hbv hbV;replace HO:=A5 (HO.out.keep hbv);replace HBR:=A5 (andthen HBR.out hbv);have hz:=HBR.out.size;have hown:=HO.out;have hln:acc.length<=1000000:=by omega
    clear hbv;go_wp2_with (at_builtin;refine I4 (l:=acc) (p:=(n,d)) rfl _ _ rfl rfl (World.size_alloc _ _) rfl hown hz hln ?_;intro v3 w3 hown3 hb3);have HO3:=A5 hown3;have HB3:=A5 (HBR.out.trans hb3);clear hown hown3 hb3 hz hln;go_wp2_with fail
    go_roundw
    case rel=>exact ⟨j+1,acc++[(n,d)],by omega,by go_num,HO3.out,HN,HB3.out⟩
    case measure=>simp [intOf];omega
  ·obtain rfl:j=l.length:=by omega
   rw [List.take_length] at HA;have HF:Hid ((AK (BH BJ) l).map (srt BO)=some (srt BO acc)):=A5 (by rw [HA.out];rfl);go_wp2_with fail;refine (rO w.heap.size _ acc _ HO.out (by omega)).mono ?_;rintro e v1 ⟨rfl,hown2,hgr⟩;have HB2:=A5 (HBR.out.grown hgr HBR.out.size fun k hk=>(HO.out.lt k hk).1);have HO2:=A5 hown2;clear hgr hown2;go_wp2_with fail;go_ret2;exact ⟨HB2.out,Or.inr ⟨_,_,HF.out,rfl,HO2.out⟩⟩
def TP (w:World) (l:List Tx) (e:Ending) (w':World):Prop:=∃ A cap,e=.returned (.slice A l.length cap)/\BU w' A l/\Below w.heap.size w w'
theorem kE (t:ByteArray) (w:World) (he:Env w) (ht:t.size<=100000) :
  Calls prog 240 #[.string t] w (TP w (Lib.splitN t.data.toList [59] 8)):=by
 have HE:=A5 he;clear he;go_enter func240,ntmps240;go_wp2_with fail;refine (LU 59 _ rfl 8 _ rfl t _ HE.out ht (by omega) (by omega)).mono ?_;rintro e w1 ⟨A,cap,rfl,hr,hb⟩;go_wp2_with fail;go_ret;exact ⟨A,cap,rfl,hr,hb⟩
theorem K8 (t:ByteArray) (w:World) (he:Env w) (ht:t.size<=100000) :
  Calls prog 276 #[.string t] w (TP w (Lib.splitN t.data.toList [44] 13)):=by
 have HE:=A5 he;clear he;go_enter func276,ntmps276;go_wp2_with fail;refine (LU 44 _ rfl 13 _ rfl t _ HE.out ht (by omega) (by omega)).mono ?_;rintro e w1 ⟨A,cap,rfl,hr,hb⟩;go_wp2_with fail;go_ret;exact ⟨A,cap,rfl,hr,hb⟩
theorem YB (c:UInt8):∀ (k:Nat) (l:Tx),(∀ p∈Lib.splitK [c] 0 k l,p.length<=l.length)/\(Lib.splitK [c] 0 k l).length<=k+1
 | 0,l=>⟨fun p hp=>by simp [Lib.splitK] at hp;subst hp;exact Nat.le_refl _,by simp [Lib.splitK]⟩
 | k+1,l=>by
  by_cases h:c∈l
  ·obtain ⟨p,q,rfl,hp⟩:=IC c l h;have ih:=YB c k q;rw [UB c k p q hp];refine ⟨fun x hx=>?_,by rw [List.length_cons];omega⟩;rw [z0J,List.length_cons];rcases List.mem_cons.1 hx with rfl|hx
   ·omega
   ·have:=ih.1 x hx;omega
  ·rw [RV c _ l h];exact ⟨fun p hp=>by rw [List.mem_singleton.1 hp];exact Nat.le_refl _,by simp⟩
theorem J6 (c:UInt8) (n:Nat) (l:Tx):(∀ p∈Lib.splitN l [c] (n+1),p.length<=l.length)/\(Lib.splitN l [c] (n+1)).length<=n+1:=by
 rw [X8];have:=YB c (min n l.length) l;exact ⟨this.1,by have:=this.2;omega⟩
def EP (w:World) (b:Nat) (v:Value) (A:Option Addr):Prop:=∀ g o,A=some ⟨g,o,none⟩->g≠b/\some g≠v.ownBlock/\g<w.heap.size/\b<g
theorem EP.no (w:World) (b:Nat) (v:Value):EP w b v none:=fun _ _ h=>by cases h
theorem EP.keep {w w1:World} {b:Nat} {v:Value} {A:Option Addr} (h:EP w b v A) (hs:w.heap.size<=w1.heap.size):EP w1 b v A:=fun g o e=>⟨(h g o e).1,(h g o e).2.1,Nat.lt_of_lt_of_le (h g o e).2.2.1 hs,(h g o e).2.2.2⟩
theorem EP.set {w:World} {b i:Nat} {v x:Value} {A:Option Addr} (h:EP w b v A):EP (w.setCell ⟨b,i,none⟩ x) b v A:=h.keep (by simp)
structure AQ (w:World) (b:Nat) (v:Value) (r:T) (D:Option Addr) (dn dc:Nat) (M:Option Addr) (mn mc:Nat) (Y:Option Addr) (yn yc:Nat):Prop where
 c0:w.cell? ⟨b,0,none⟩=some (.int .i64 r.fr)
 c1:w.cell? ⟨b,1,none⟩=some (.int .i64 r.ev)
 c2:w.cell? ⟨b,2,none⟩=some (.int .i64 r.ct)
 c3:w.cell? ⟨b,3,none⟩=some (.int .i64 r.un)
 c4:w.cell? ⟨b,4,none⟩=some (.slice D dn dc)
 c5:w.cell? ⟨b,5,none⟩=some (.slice M mn mc)
 c6:w.cell? ⟨b,6,none⟩=some (.slice Y yn yc)
 f0:w.frozen? ⟨b,0,none⟩=false
 f1:w.frozen? ⟨b,1,none⟩=false
 f2:w.frozen? ⟨b,2,none⟩=false
 f3:w.frozen? ⟨b,3,none⟩=false
 f4:w.frozen? ⟨b,4,none⟩=false
 f5:w.frozen? ⟨b,5,none⟩=false
 f6:w.frozen? ⟨b,6,none⟩=false
 BD:DS w D dn M mn Y yn r.ds r.ms r.ys
 od:EP w b v D
 om:EP w b v M
 oy:EP w b v Y
 own:some b≠v.ownBlock
theorem AQ.lt {w:World} {b:Nat} {v:Value} {r:T} {D M Y:Option Addr} {dn dc mn mc yn yc:Nat} (h:AQ w b v r D dn dc M mn mc Y yn yc):b<w.heap.size:=block_lt_of_cell h.c0
theorem AQ.keep {w w1:World} {b:Nat} {v:Value} {r:T} {D M Y:Option Addr} {dn dc mn mc yn yc:Nat} (h:AQ w b v r D dn dc M mn mc Y yn yc) (hb:Below w.heap.size w w1):AQ w1 b v r D dn dc M mn mc Y yn yc :=
 ⟨A9 hb h.c0,A9 hb h.c1,A9 hb h.c2,A9 hb h.c3,A9 hb h.c4,A9 hb h.c5,A9 hb h.c6,(hb.frozen (p:=⟨b,0,none⟩) h.lt).trans h.f0,(hb.frozen (p:=⟨b,1,none⟩) h.lt).trans h.f1,(hb.frozen (p:=⟨b,2,none⟩) h.lt).trans h.f2,(hb.frozen (p:=⟨b,3,none⟩) h.lt).trans h.f3,(hb.frozen (p:=⟨b,4,none⟩) h.lt).trans h.f4,(hb.frozen (p:=⟨b,5,none⟩) h.lt).trans h.f5,(hb.frozen (p:=⟨b,6,none⟩) h.lt).trans h.f6,h.BD.keep hb,h.od.keep hb.size,h.om.keep hb.size,h.oy.keep hb.size,h.own⟩
theorem BS.set {w:World} {b i:Nat} {x:Value} {A:Option Addr} {l:List Int} (h:BS w A l) (ho:∀ g o,A=some ⟨g,o,none⟩->g≠b):BS (w.setCell ⟨b,i,none⟩ x) A l:=fun hn=>by
 obtain ⟨g,o,rfl,hl,hc⟩:=h hn;refine ⟨g,o,rfl,by simpa using hl,fun j hj=>?_⟩;rw [World.cell?_setCell_other _ _ _ _ (by intro e;injection e with e1;exact ho g o rfl e1.symm)];exact hc j hj
theorem EL.set {w:World} {b i:Nat} {x:Value} {A:Option Addr} {l:List Wd} (h:EL w A l) (ho:∀ g o,A=some ⟨g,o,none⟩->g≠b):EL (w.setCell ⟨b,i,none⟩ x) A l:=fun hn=>by
 obtain ⟨g,o,rfl,hl,hc⟩:=h hn;refine ⟨g,o,rfl,by simpa using hl,fun j hj=>?_⟩;rw [World.cell?_setCell_other _ _ _ _ (by intro e;injection e with e1;exact ho g o rfl e1.symm),World.cell?_setCell_other _ _ _ _ (by intro e;injection e with e1;exact ho g o rfl e1.symm)];exact hc j hj
theorem JP {W:World} {b i:Nat} {x y:Value} (h:W.cell? ⟨b,i,none⟩=some x):(W.setCell ⟨b,i,none⟩ y).cell? ⟨b,i,none⟩=some y:=World.cell?_setCell_same _ _ _ h
theorem BM {W:World} {b i j:Nat} {x y:Value} (hn:i≠j) (h:W.cell? ⟨b,i,none⟩=some x):(W.setCell ⟨b,j,none⟩ y).cell? ⟨b,i,none⟩=some x :=
 (World.cell?_setCell_other _ _ _ _ (by intro hc;injection hc with _ hc1;omega)).trans h
theorem B9 {W:World} {b i j:Nat} {y:Value} (h:W.frozen? ⟨b,i,none⟩=false):(W.setCell ⟨b,j,none⟩ y).frozen? ⟨b,i,none⟩=false:=by rw [World.frozen?_setCell];exact h
theorem AG {w w1:World} {b i:Nat} {y:Value} (h:Below w.heap.size w w1):w.grownBy (w1.setCell ⟨b,i,none⟩ y) (some b):=by
 refine ⟨h.os,h.tape,h.output,by simpa using h.size,fun k hk hne=>?_⟩;have:b≠k:=fun e=>hne (by rw [e])
 rw [<- h.block k hk];simp [World.setCell,Array.getElem?_modify,this]
theorem BC {w w1:World} {b:Nat} (h:Below w.heap.size w w1):w.grownBy w1 (some b):=⟨h.os,h.tape,h.output,h.size,fun k hk _=>h.block k hk⟩
theorem AQ.aH {w:World} {b:Nat} {v:Value} {r:T} {D M Y:Option Addr} {dn dc mn mc yn yc:Nat} (h:AQ w b v r D dn dc M mn mc Y yn yc) (n:Int):AQ (w.setCell ⟨b,0,none⟩ (.int .i64 n)) b v { r with fr:=n } D dn dc M mn mc Y yn yc :=
 ⟨JP (i:=0) h.c0,BM (i:=1) (j:=0) (by decide) h.c1,BM (i:=2) (j:=0) (by decide) h.c2,BM (i:=3) (j:=0) (by decide) h.c3,BM (i:=4) (j:=0) (by decide) h.c4,BM (i:=5) (j:=0) (by decide) h.c5,BM (i:=6) (j:=0) (by decide) h.c6,B9 (i:=0) (j:=0) h.f0,B9 (i:=1) (j:=0) h.f1,B9 (i:=2) (j:=0) h.f2,B9 (i:=3) (j:=0) h.f3,B9 (i:=4) (j:=0) h.f4,B9 (i:=5) (j:=0) h.f5,B9 (i:=6) (j:=0) h.f6,⟨h.BD.d.set fun g o e=>(h.od g o e).1,h.BD.dn,h.BD.dl,h.BD.m.set fun g o e=>(h.om g o e).1,h.BD.mn,h.BD.ml,h.BD.y.set fun g o e=>(h.oy g o e).1,h.BD.yn,h.BD.yl⟩,h.od.set,h.om.set,h.oy.set,h.own⟩
theorem AQ.aI {w:World} {b:Nat} {v:Value} {r:T} {D M Y:Option Addr} {dn dc mn mc yn yc:Nat} (h:AQ w b v r D dn dc M mn mc Y yn yc) (n:Int):AQ (w.setCell ⟨b,1,none⟩ (.int .i64 n)) b v { r with ev:=n } D dn dc M mn mc Y yn yc :=
 ⟨BM (i:=0) (j:=1) (by decide) h.c0,JP (i:=1) h.c1,BM (i:=2) (j:=1) (by decide) h.c2,BM (i:=3) (j:=1) (by decide) h.c3,BM (i:=4) (j:=1) (by decide) h.c4,BM (i:=5) (j:=1) (by decide) h.c5,BM (i:=6) (j:=1) (by decide) h.c6,B9 (i:=0) (j:=1) h.f0,B9 (i:=1) (j:=1) h.f1,B9 (i:=2) (j:=1) h.f2,B9 (i:=3) (j:=1) h.f3,B9 (i:=4) (j:=1) h.f4,B9 (i:=5) (j:=1) h.f5,B9 (i:=6) (j:=1) h.f6,⟨h.BD.d.set fun g o e=>(h.od g o e).1,h.BD.dn,h.BD.dl,h.BD.m.set fun g o e=>(h.om g o e).1,h.BD.mn,h.BD.ml,h.BD.y.set fun g o e=>(h.oy g o e).1,h.BD.yn,h.BD.yl⟩,h.od.set,h.om.set,h.oy.set,h.own⟩
theorem AQ.aJ {w:World} {b:Nat} {v:Value} {r:T} {D M Y:Option Addr} {dn dc mn mc yn yc:Nat} (h:AQ w b v r D dn dc M mn mc Y yn yc) (n:Int):AQ (w.setCell ⟨b,2,none⟩ (.int .i64 n)) b v { r with ct:=n } D dn dc M mn mc Y yn yc :=
 ⟨BM (i:=0) (j:=2) (by decide) h.c0,BM (i:=1) (j:=2) (by decide) h.c1,JP (i:=2) h.c2,BM (i:=3) (j:=2) (by decide) h.c3,BM (i:=4) (j:=2) (by decide) h.c4,BM (i:=5) (j:=2) (by decide) h.c5,BM (i:=6) (j:=2) (by decide) h.c6,B9 (i:=0) (j:=2) h.f0,B9 (i:=1) (j:=2) h.f1,B9 (i:=2) (j:=2) h.f2,B9 (i:=3) (j:=2) h.f3,B9 (i:=4) (j:=2) h.f4,B9 (i:=5) (j:=2) h.f5,B9 (i:=6) (j:=2) h.f6,⟨h.BD.d.set fun g o e=>(h.od g o e).1,h.BD.dn,h.BD.dl,h.BD.m.set fun g o e=>(h.om g o e).1,h.BD.mn,h.BD.ml,h.BD.y.set fun g o e=>(h.oy g o e).1,h.BD.yn,h.BD.yl⟩,h.od.set,h.om.set,h.oy.set,h.own⟩
theorem AQ.aK {w:World} {b:Nat} {v:Value} {r:T} {D M Y:Option Addr} {dn dc mn mc yn yc:Nat} (h:AQ w b v r D dn dc M mn mc Y yn yc) (n:Int):AQ (w.setCell ⟨b,3,none⟩ (.int .i64 n)) b v { r with un:=n } D dn dc M mn mc Y yn yc :=
 ⟨BM (i:=0) (j:=3) (by decide) h.c0,BM (i:=1) (j:=3) (by decide) h.c1,BM (i:=2) (j:=3) (by decide) h.c2,JP (i:=3) h.c3,BM (i:=4) (j:=3) (by decide) h.c4,BM (i:=5) (j:=3) (by decide) h.c5,BM (i:=6) (j:=3) (by decide) h.c6,B9 (i:=0) (j:=3) h.f0,B9 (i:=1) (j:=3) h.f1,B9 (i:=2) (j:=3) h.f2,B9 (i:=3) (j:=3) h.f3,B9 (i:=4) (j:=3) h.f4,B9 (i:=5) (j:=3) h.f5,B9 (i:=6) (j:=3) h.f6,⟨h.BD.d.set fun g o e=>(h.od g o e).1,h.BD.dn,h.BD.dl,h.BD.m.set fun g o e=>(h.om g o e).1,h.BD.mn,h.BD.ml,h.BD.y.set fun g o e=>(h.oy g o e).1,h.BD.yn,h.BD.yl⟩,h.od.set,h.om.set,h.oy.set,h.own⟩
theorem AQ.aL {w:World} {b:Nat} {v:Value} {r:T} {D M Y:Option Addr} {dn dc mn mc yn yc:Nat} (h:AQ w b v r D dn dc M mn mc Y yn yc) (A:Option Addr) (n c:Nat) (l:List Wd) (hr:EL w A l) (hn:n=l.length) (hl:l.length<=10000) (ho:EP w b v A):AQ (w.setCell ⟨b,4,none⟩ (.slice A n c)) b v { r with ds:=l } A n c M mn mc Y yn yc :=
 ⟨BM (i:=0) (j:=4) (by decide) h.c0,BM (i:=1) (j:=4) (by decide) h.c1,BM (i:=2) (j:=4) (by decide) h.c2,BM (i:=3) (j:=4) (by decide) h.c3,JP (i:=4) h.c4,BM (i:=5) (j:=4) (by decide) h.c5,BM (i:=6) (j:=4) (by decide) h.c6,B9 (i:=0) (j:=4) h.f0,B9 (i:=1) (j:=4) h.f1,B9 (i:=2) (j:=4) h.f2,B9 (i:=3) (j:=4) h.f3,B9 (i:=4) (j:=4) h.f4,B9 (i:=5) (j:=4) h.f5,B9 (i:=6) (j:=4) h.f6,⟨hr.set (fun g o e=>(ho g o e).1),hn,hl,h.BD.m.set (fun g o e=>(h.om g o e).1),h.BD.mn,h.BD.ml,h.BD.y.set (fun g o e=>(h.oy g o e).1),h.BD.yn,h.BD.yl⟩,ho.set,h.om.set,h.oy.set,h.own⟩
theorem AQ.aM {w:World} {b:Nat} {v:Value} {r:T} {D M Y:Option Addr} {dn dc mn mc yn yc:Nat} (h:AQ w b v r D dn dc M mn mc Y yn yc) (A:Option Addr) (n c:Nat) (l:List Int) (hr:BS w A l) (hn:n=l.length) (hl:l.length<=10000) (ho:EP w b v A):AQ (w.setCell ⟨b,5,none⟩ (.slice A n c)) b v { r with ms:=l } D dn dc A n c Y yn yc :=
 ⟨BM (i:=0) (j:=5) (by decide) h.c0,BM (i:=1) (j:=5) (by decide) h.c1,BM (i:=2) (j:=5) (by decide) h.c2,BM (i:=3) (j:=5) (by decide) h.c3,BM (i:=4) (j:=5) (by decide) h.c4,JP (i:=5) h.c5,BM (i:=6) (j:=5) (by decide) h.c6,B9 (i:=0) (j:=5) h.f0,B9 (i:=1) (j:=5) h.f1,B9 (i:=2) (j:=5) h.f2,B9 (i:=3) (j:=5) h.f3,B9 (i:=4) (j:=5) h.f4,B9 (i:=5) (j:=5) h.f5,B9 (i:=6) (j:=5) h.f6,⟨h.BD.d.set (fun g o e=>(h.od g o e).1),h.BD.dn,h.BD.dl,hr.set (fun g o e=>(ho g o e).1),hn,hl,h.BD.y.set (fun g o e=>(h.oy g o e).1),h.BD.yn,h.BD.yl⟩,h.od.set,ho.set,h.oy.set,h.own⟩
theorem AQ.aN {w:World} {b:Nat} {v:Value} {r:T} {D M Y:Option Addr} {dn dc mn mc yn yc:Nat} (h:AQ w b v r D dn dc M mn mc Y yn yc) (A:Option Addr) (n c:Nat) (l:List Int) (hr:BS w A l) (hn:n=l.length) (hl:l.length<=10000) (ho:EP w b v A):AQ (w.setCell ⟨b,6,none⟩ (.slice A n c)) b v { r with ys:=l } D dn dc M mn mc A n c :=
 ⟨BM (i:=0) (j:=6) (by decide) h.c0,BM (i:=1) (j:=6) (by decide) h.c1,BM (i:=2) (j:=6) (by decide) h.c2,BM (i:=3) (j:=6) (by decide) h.c3,BM (i:=4) (j:=6) (by decide) h.c4,BM (i:=5) (j:=6) (by decide) h.c5,JP (i:=6) h.c6,B9 (i:=0) (j:=6) h.f0,B9 (i:=1) (j:=6) h.f1,B9 (i:=2) (j:=6) h.f2,B9 (i:=3) (j:=6) h.f3,B9 (i:=4) (j:=6) h.f4,B9 (i:=5) (j:=6) h.f5,B9 (i:=6) (j:=6) h.f6,⟨h.BD.d.set (fun g o e=>(h.od g o e).1),h.BD.dn,h.BD.dl,h.BD.m.set (fun g o e=>(h.om g o e).1),h.BD.mn,h.BD.ml,hr.set (fun g o e=>(ho g o e).1),hn,hl⟩,h.od.set,h.om.set,ho.set,h.own⟩
theorem BV.down {w:World} {B B2:Nat} {v:Value} {l:List Int} (h:BV w B v l) (hb:B2<=B):BV w B2 v l:=by
 refine ⟨h.1,?_⟩;rcases h.2 with g|⟨g,cap,cur,e,hg,r⟩
 ·exact Or.inl g
 ·exact Or.inr ⟨g,cap,cur,e,Nat.le_trans hb hg,r⟩
theorem DO.down {w:World} {B B2:Nat} {v:Value} {l:List Wd} (h:DO w B v l) (hb:B2<=B):DO w B2 v l:=by
 refine ⟨h.1,?_⟩;rcases h.2 with g|⟨g,cap,cur,e,hg,r⟩
 ·exact Or.inl g
 ·exact Or.inr ⟨g,cap,cur,e,Nat.le_trans hb hg,r⟩
def GR (w:World) (b:Nat) (v:Value) (r:T) (o:Option Rt.Part) (e:Ending) (w':World):Prop :=
 w.grownBy w' (some b)/\match o with
  | none=>e=.returned (.bool false)
  | some p=>e=.returned (.bool true)/\∃ D dn dc M mn mc Y yn yc,AQ w' b v (Rt.Part.set r p) D dn dc M mn mc Y yn yc
theorem EP.new {w:World} {b n c:Nat} {v:Value} {A:Option Addr} {l:List Int} {w':World} (h:BV w' w.heap.size (.slice A n c) l) (hb:b<w.heap.size) (hv:∀ g,v.ownBlock=some g->g<w.heap.size):EP w' b v A:=fun g o e=>by
 subst e;have hg:=(h.lt g rfl).1;refine ⟨by omega,fun e2=>?_,(h.lt g rfl).2,by omega⟩;have:=hv g e2.symm;omega
theorem EP.newD {w:World} {b n c:Nat} {v:Value} {A:Option Addr} {l:List Wd} {w':World} (h:DO w' w.heap.size (.slice A n c) l) (hb:b<w.heap.size) (hv:∀ g,v.ownBlock=some g->g<w.heap.size):EP w' b v A:=fun g o e=>by
 subst e;have hg:=(h.lt g rfl).1;refine ⟨by omega,fun e2=>?_,(h.lt g rfl).2,by omega⟩;have:=hv g e2.symm;omega
theorem yL (U:Un) (R:Rd) (v:Tx):Rt.valOf U R IE v=(F2 C8 v).map fun k=>Rt.Part.fr (k+1:Nat):=by unfold Rt.valOf;rw [if_pos rfl]
theorem yM (U:Un) (R:Rd) (v:Tx):Rt.valOf U R BW v=(R.pos v).map Rt.Part.ev:=by unfold Rt.valOf;rw [if_neg (by decide),if_pos rfl]
theorem yN (U:Un) (R:Rd) (v:Tx):Rt.valOf U R EA v=(R.pos v).map Rt.Part.ct:=by unfold Rt.valOf;rw [if_neg (by decide),if_neg (by decide),if_pos rfl]
theorem yO (U:Un) (R:Rd) (v:Tx):Rt.valOf U R EC v=(U.f v).map Rt.Part.un:=by unfold Rt.valOf;rw [if_neg (by decide),if_neg (by decide),if_neg (by decide),if_pos rfl]
theorem yP (U:Un) (R:Rd) (v:Tx):Rt.valOf U R CI v=(R.nums false v).map Rt.Part.ys:=by unfold Rt.valOf;rw [if_neg (by decide),if_neg (by decide),if_neg (by decide),if_neg (by decide),if_pos rfl]
theorem yQ (U:Un) (R:Rd) (v:Tx):Rt.valOf U R BA v=(R.nums true v).map Rt.Part.ms:=by unfold Rt.valOf;rw [if_neg (by decide),if_neg (by decide),if_neg (by decide),if_neg (by decide),if_neg (by decide),if_pos rfl]
theorem yR (U:Un) (R:Rd) (v:Tx):Rt.valOf U R ED v=(R.wds v).map Rt.Part.ds:=by unfold Rt.valOf;rw [if_neg (by decide),if_neg (by decide),if_neg (by decide),if_neg (by decide),if_neg (by decide),if_neg (by decide),if_pos rfl]
theorem A33 (t:Tx) (b:Nat) (v:Value) (r:T) (D M Y:Option Addr) (dn dc mn mc yn yc:Nat) (w:World) (h:AQ w b v r D dn dc M mn mc Y yn yc) (hv:∀ g,v.ownBlock=some g->g<w.heap.size) (he:Env w) (ht:t.length<=100000) :
  Calls prog 252 #[.pointer (some ⟨b,0,none⟩),.string (str IE),.string (str t)] w (GR w b v r (Rt.valOf unU rdC IE t)):=by
 rw [yL];obtain ⟨X,hX⟩:∃ X,IE=X:=⟨_,rfl⟩;have e0:(X==[70,82,69,81])=true:=by rw [<- hX];decide
 have q1:=AH X;have hts:(str t).size<=100000:=by rw [AB];exact ht
 have htl:(str t).data.toList=t:=AD t;have H:=A5 h;have HE:=A5 he;have HV:=A5 hv;rw [hX];clear h he hv hX ht;go_enter func252,ntmps252;go_wp2_with fail;refine (kA (str t) _).mono ?_;rintro e w1 ⟨n,hn,rfl,hb⟩;rw [htl] at hn ⊢;have HN:=A5 hn;clear hn;obtain ⟨O,hO⟩:∃ O,((F2 C8 t).map fun k=>((k+1:Nat):Int))=O:=⟨_,rfl⟩;have HO:Hid (((F2 C8 t).map fun k=>Rt.Part.fr (k+1:Nat))=O.map Rt.Part.fr):=A5 (by rw [<- hO];rw [Option.map_map];rfl);rw [hO] at HN ⊢;clear hO;have ck:=(H.out.keep hb).c0;have fk:=(H.out.keep hb).f0;have HK:=A5 (H.out.keep hb);have HB:=A5 hb;clear hb;go_wp2_with fail;go_ret;rw [HO.out]
 cases O with
 | none=>exact ⟨AG HB.out,rfl⟩
 | some m =>
  obtain rfl:=HN.out m rfl;exact ⟨AG HB.out,rfl,_,_,_,_,_,_,_,_,_,HK.out.aH n⟩
theorem A34 (t:Tx) (b:Nat) (v:Value) (r:T) (D M Y:Option Addr) (dn dc mn mc yn yc:Nat) (w:World) (h:AQ w b v r D dn dc M mn mc Y yn yc) (hv:∀ g,v.ownBlock=some g->g<w.heap.size) (he:Env w) (ht:t.length<=100000) :
  Calls prog 252 #[.pointer (some ⟨b,0,none⟩),.string (str BW),.string (str t)] w (GR w b v r (Rt.valOf unU rdC BW t)):=by
 rw [yM];obtain ⟨X,hX⟩:∃ X,BW=X:=⟨_,rfl⟩;have e0:(X==[70,82,69,81])=false:=by rw [<- hX];decide
 have e1:(X==[73,78,84,69,82,86,65,76])=true:=by rw [<- hX];decide
 have q1:=AH X;have hts:(str t).size<=100000:=by rw [AB];exact ht
 have htl:(str t).data.toList=t:=AD t;have H:=A5 h;have HE:=A5 he;have HV:=A5 hv;rw [hX];clear h he hv hX ht;go_enter func252,ntmps252;go_wp2_with fail;refine (Q9 (str t) _ HE.out hts).mono ?_;rintro e w1 ⟨n,hn,rfl,hb⟩;rw [htl] at hn ⊢;have HN:=A5 hn;clear hn;obtain ⟨O,hO⟩:∃ O,(posOf BJ t)=O:=⟨_,rfl⟩;have HO:Hid (((rdC.pos t).map Rt.Part.ev)=O.map Rt.Part.ev):=A5 (by rw [<- hO];rfl);rw [hO] at HN ⊢;clear hO;have ck:=(H.out.keep hb).c1;have fk:=(H.out.keep hb).f1;have HK:=A5 (H.out.keep hb);have HB:=A5 hb;clear hb;go_wp2_with fail;go_ret;rw [HO.out]
 cases O with
 | none=>exact ⟨AG HB.out,rfl⟩
 | some m =>
  obtain rfl:=HN.out m rfl;exact ⟨AG HB.out,rfl,_,_,_,_,_,_,_,_,_,HK.out.aI n⟩
theorem A35 (t:Tx) (b:Nat) (v:Value) (r:T) (D M Y:Option Addr) (dn dc mn mc yn yc:Nat) (w:World) (h:AQ w b v r D dn dc M mn mc Y yn yc) (hv:∀ g,v.ownBlock=some g->g<w.heap.size) (he:Env w) (ht:t.length<=100000) :
  Calls prog 252 #[.pointer (some ⟨b,0,none⟩),.string (str EA),.string (str t)] w (GR w b v r (Rt.valOf unU rdC EA t)):=by
 rw [yN];obtain ⟨X,hX⟩:∃ X,EA=X:=⟨_,rfl⟩;have e0:(X==[70,82,69,81])=false:=by rw [<- hX];decide
 have e1:(X==[73,78,84,69,82,86,65,76])=false:=by rw [<- hX];decide
 have e2:(X==[67,79,85,78,84])=true:=by rw [<- hX];decide
 have q1:=AH X;have hts:(str t).size<=100000:=by rw [AB];exact ht
 have htl:(str t).data.toList=t:=AD t;have H:=A5 h;have HE:=A5 he;have HV:=A5 hv;rw [hX];clear h he hv hX ht;go_enter func252,ntmps252;go_wp2_with fail;refine (Q9 (str t) _ HE.out hts).mono ?_;rintro e w1 ⟨n,hn,rfl,hb⟩;rw [htl] at hn ⊢;have HN:=A5 hn;clear hn;obtain ⟨O,hO⟩:∃ O,(posOf BJ t)=O:=⟨_,rfl⟩;have HO:Hid (((rdC.pos t).map Rt.Part.ct)=O.map Rt.Part.ct):=A5 (by rw [<- hO];rfl);rw [hO] at HN ⊢;clear hO;have ck:=(H.out.keep hb).c2;have fk:=(H.out.keep hb).f2;have HK:=A5 (H.out.keep hb);have HB:=A5 hb;clear hb;go_wp2_with fail;go_ret;rw [HO.out]
 cases O with
 | none=>exact ⟨AG HB.out,rfl⟩
 | some m =>
  obtain rfl:=HN.out m rfl;exact ⟨AG HB.out,rfl,_,_,_,_,_,_,_,_,_,HK.out.aJ n⟩
theorem A36 (t:Tx) (b:Nat) (v:Value) (r:T) (D M Y:Option Addr) (dn dc mn mc yn yc:Nat) (w:World) (h:AQ w b v r D dn dc M mn mc Y yn yc) (hv:∀ g,v.ownBlock=some g->g<w.heap.size) (he:Env w) (ht:t.length<=100000) :
  Calls prog 252 #[.pointer (some ⟨b,0,none⟩),.string (str EC),.string (str t)] w (GR w b v r (Rt.valOf unU rdC EC t)):=by
 rw [yO];obtain ⟨X,hX⟩:∃ X,EC=X:=⟨_,rfl⟩;have e0:(X==[70,82,69,81])=false:=by rw [<- hX];decide
 have e1:(X==[73,78,84,69,82,86,65,76])=false:=by rw [<- hX];decide
 have e2:(X==[67,79,85,78,84])=false:=by rw [<- hX];decide
 have e3:(X==[85,78,84,73,76])=true:=by rw [<- hX];decide
 have q1:=AH X;have hts:(str t).size<=100000:=by rw [AB];exact ht
 have htl:(str t).data.toList=t:=AD t;have H:=A5 h;have HE:=A5 he;have HV:=A5 hv;rw [hX];clear h he hv hX ht;go_enter func252,ntmps252;go_wp2_with fail;refine (jZ (str t) _).mono ?_;rintro e w1 ⟨n,hn,rfl,hb⟩;rw [htl] at hn ⊢;have HN:=A5 hn;clear hn;obtain ⟨O,hO⟩:∃ O,(unE t)=O:=⟨_,rfl⟩;have HO:Hid (((unU.f t).map Rt.Part.un)=O.map Rt.Part.un):=A5 (by rw [<- hO];rfl);rw [hO] at HN ⊢;clear hO;have ck:=(H.out.keep hb).c3;have fk:=(H.out.keep hb).f3;have HK:=A5 (H.out.keep hb);have HB:=A5 hb;clear hb;go_wp2_with fail;go_ret;rw [HO.out]
 cases O with
 | none=>exact ⟨AG HB.out,rfl⟩
 | some m =>
  obtain rfl:=HN.out m rfl;exact ⟨AG HB.out,rfl,_,_,_,_,_,_,_,_,_,HK.out.aK n⟩
theorem A37 (t:Tx) (b:Nat) (v:Value) (r:T) (D M Y:Option Addr) (dn dc mn mc yn yc:Nat) (w:World) (h:AQ w b v r D dn dc M mn mc Y yn yc) (hv:∀ g,v.ownBlock=some g->g<w.heap.size) (he:Env w) (ht:t.length<=100000) :
  Calls prog 252 #[.pointer (some ⟨b,0,none⟩),.string (str CI),.string (str t)] w (GR w b v r (Rt.valOf unU rdC CI t)):=by
 rw [yP];obtain ⟨X,hX⟩:∃ X,CI=X:=⟨_,rfl⟩;have e0:(X==[70,82,69,81])=false:=by rw [<- hX];decide
 have e1:(X==[73,78,84,69,82,86,65,76])=false:=by rw [<- hX];decide
 have e2:(X==[67,79,85,78,84])=false:=by rw [<- hX];decide
 have e3:(X==[85,78,84,73,76])=false:=by rw [<- hX];decide
 have e4:(X==[66,89,77,79,78,84,72])=true:=by rw [<- hX];decide
 have q1:=AH X;have hts:(str t).size<=100000:=by rw [AB];exact ht
 have htl:(str t).data.toList=t:=AD t;have H:=A5 h;have HE:=A5 he;have HV:=A5 hv;rw [hX];clear h he hv hX ht;go_enter func252,ntmps252;go_wp2_with fail;refine (K8 (str t) _ HE.out hts).mono ?_;rintro e w1 ⟨A,cap,rfl,hr,hb1⟩;rw [htl] at hr ⊢;have hle:=J6 44 12 t;obtain ⟨O,hO⟩:∃ O,(AK BJ (Lib.splitN t [44] 13)).map (srt AI)=O:=⟨_,rfl⟩;have HO:Hid ((rdC.nums false t).map Rt.Part.ys=O.map Rt.Part.ys):=A5 (by rw [<- hO];rfl);have hcon:=fun w he hr=>SP A _ cap (Lib.splitN t [44] 13) w hr rfl (Nat.le_trans hle.2 (by omega)) (fun p hp=>Nat.le_trans (hle.1 p hp) (by rw [AB] at hts;exact hts)) he
 have hlen:∀ l,O=some l->l.length<=10000:=fun l hl=>by
  rw [<- hO,Option.map_eq_some_iff] at hl;obtain ⟨xs,hx,rfl⟩:=hl;rw [(GI AI xs).length_eq,<- BF hx];exact Nat.le_trans hle.2 (by omega)
 rw [hO] at hcon;have HC:=A5 hcon;have HLE:=A5 hlen;have HRR:=A5 hr;have HB1:=A5 hb1;generalize (Lib.splitN t [44] 13)=LL at *;clear hO hcon hle hlen hr hb1;go_wp2_with fail;refine (HC.out _ (HE.out.keep HB1.out) HRR.out).mono ?_;rintro e w2 ⟨hb2,⟨rfl,rfl⟩|⟨l,v2,rfl,rfl,hown⟩⟩
 ·have hb:=andthen HB1.out hb2;clear hb2;have ck:=(H.out.keep hb).c6;have fk:=(H.out.keep hb).f6;have HK:=A5 (H.out.keep hb);have HB:=A5 hb;clear hb;go_wp2_with fail;go_ret;rw [HO.out];exact ⟨AG HB.out,rfl⟩
 ·have hb:=andthen HB1.out hb2;have HOW:=A5 (BV.down hown HB1.out.size);obtain ⟨A2,cap2,rfl,hrow⟩:=BV.row hown;have HRW:=A5 hrow;clear hb2 hown hrow;have ck:=(H.out.keep hb).c6;have fk:=(H.out.keep hb).f6;have HK:=A5 (H.out.keep hb);have HB:=A5 hb;clear hb;go_wp2_with fail;go_ret;rw [HO.out];exact ⟨AG HB.out,rfl,_,_,_,_,_,_,_,_,_,HK.out.aN A2 _ cap2 l HRW.out rfl (HLE.out l rfl) (EP.new HOW.out H.out.lt HV.out)⟩
theorem A38 (t:Tx) (b:Nat) (v:Value) (r:T) (D M Y:Option Addr) (dn dc mn mc yn yc:Nat) (w:World) (h:AQ w b v r D dn dc M mn mc Y yn yc) (hv:∀ g,v.ownBlock=some g->g<w.heap.size) (he:Env w) (ht:t.length<=100000) :
  Calls prog 252 #[.pointer (some ⟨b,0,none⟩),.string (str BA),.string (str t)] w (GR w b v r (Rt.valOf unU rdC BA t)):=by
 rw [yQ];obtain ⟨X,hX⟩:∃ X,BA=X:=⟨_,rfl⟩;have e0:(X==[70,82,69,81])=false:=by rw [<- hX];decide
 have e1:(X==[73,78,84,69,82,86,65,76])=false:=by rw [<- hX];decide
 have e2:(X==[67,79,85,78,84])=false:=by rw [<- hX];decide
 have e3:(X==[85,78,84,73,76])=false:=by rw [<- hX];decide
 have e4:(X==[66,89,77,79,78,84,72])=false:=by rw [<- hX];decide
 have e5:(X==[66,89,77,79,78,84,72,68,65,89])=true:=by rw [<- hX];decide
 have q1:=AH X;have hts:(str t).size<=100000:=by rw [AB];exact ht
 have htl:(str t).data.toList=t:=AD t;have H:=A5 h;have HE:=A5 he;have HV:=A5 hv;rw [hX];clear h he hv hX ht;go_enter func252,ntmps252;go_wp2_with fail;refine (K8 (str t) _ HE.out hts).mono ?_;rintro e w1 ⟨A,cap,rfl,hr,hb1⟩;rw [htl] at hr ⊢;have hle:=J6 44 12 t;obtain ⟨O,hO⟩:∃ O,(AK BJ (Lib.splitN t [44] 13)).map (srt AI)=O:=⟨_,rfl⟩;have HO:Hid ((rdC.nums true t).map Rt.Part.ms=O.map Rt.Part.ms):=A5 (by rw [<- hO];rfl);have hcon:=fun w he hr=>SP A _ cap (Lib.splitN t [44] 13) w hr rfl (Nat.le_trans hle.2 (by omega)) (fun p hp=>Nat.le_trans (hle.1 p hp) (by rw [AB] at hts;exact hts)) he
 have hlen:∀ l,O=some l->l.length<=10000:=fun l hl=>by
  rw [<- hO,Option.map_eq_some_iff] at hl;obtain ⟨xs,hx,rfl⟩:=hl;rw [(GI AI xs).length_eq,<- BF hx];exact Nat.le_trans hle.2 (by omega)
 rw [hO] at hcon;have HC:=A5 hcon;have HLE:=A5 hlen;have HRR:=A5 hr;have HB1:=A5 hb1;generalize (Lib.splitN t [44] 13)=LL at *;clear hO hcon hle hlen hr hb1;go_wp2_with fail;refine (HC.out _ (HE.out.keep HB1.out) HRR.out).mono ?_;rintro e w2 ⟨hb2,⟨rfl,rfl⟩|⟨l,v2,rfl,rfl,hown⟩⟩
 ·have hb:=andthen HB1.out hb2;clear hb2;have ck:=(H.out.keep hb).c5;have fk:=(H.out.keep hb).f5;have HK:=A5 (H.out.keep hb);have HB:=A5 hb;clear hb;go_wp2_with fail;go_ret;rw [HO.out];exact ⟨AG HB.out,rfl⟩
 ·have hb:=andthen HB1.out hb2;have HOW:=A5 (BV.down hown HB1.out.size);obtain ⟨A2,cap2,rfl,hrow⟩:=BV.row hown;have HRW:=A5 hrow;clear hb2 hown hrow;have ck:=(H.out.keep hb).c5;have fk:=(H.out.keep hb).f5;have HK:=A5 (H.out.keep hb);have HB:=A5 hb;clear hb;go_wp2_with fail;go_ret;rw [HO.out];exact ⟨AG HB.out,rfl,_,_,_,_,_,_,_,_,_,HK.out.aM A2 _ cap2 l HRW.out rfl (HLE.out l rfl) (EP.new HOW.out H.out.lt HV.out)⟩
theorem A39 (t:Tx) (b:Nat) (v:Value) (r:T) (D M Y:Option Addr) (dn dc mn mc yn yc:Nat) (w:World) (h:AQ w b v r D dn dc M mn mc Y yn yc) (hv:∀ g,v.ownBlock=some g->g<w.heap.size) (he:Env w) (ht:t.length<=100000) :
  Calls prog 252 #[.pointer (some ⟨b,0,none⟩),.string (str ED),.string (str t)] w (GR w b v r (Rt.valOf unU rdC ED t)):=by
 rw [yR];obtain ⟨X,hX⟩:∃ X,ED=X:=⟨_,rfl⟩;have e0:(X==[70,82,69,81])=false:=by rw [<- hX];decide
 have e1:(X==[73,78,84,69,82,86,65,76])=false:=by rw [<- hX];decide
 have e2:(X==[67,79,85,78,84])=false:=by rw [<- hX];decide
 have e3:(X==[85,78,84,73,76])=false:=by rw [<- hX];decide
 have e4:(X==[66,89,77,79,78,84,72])=false:=by rw [<- hX];decide
 have e5:(X==[66,89,77,79,78,84,72,68,65,89])=false:=by rw [<- hX];decide
 have e6:(X==[66,89,68,65,89])=true:=by rw [<- hX];decide
 have q1:=AH X;have hts:(str t).size<=100000:=by rw [AB];exact ht
 have htl:(str t).data.toList=t:=AD t;have H:=A5 h;have HE:=A5 he;have HV:=A5 hv;rw [hX];clear h he hv hX ht;go_enter func252,ntmps252;go_wp2_with fail;refine (K8 (str t) _ HE.out hts).mono ?_;rintro e w1 ⟨A,cap,rfl,hr,hb1⟩;rw [htl] at hr ⊢;have hle:=J6 44 12 t;obtain ⟨O,hO⟩:∃ O,(AK (BH BJ) (Lib.splitN t [44] 13)).map (srt BO)=O:=⟨_,rfl⟩;have HO:Hid ((rdC.wds t).map Rt.Part.ds=O.map Rt.Part.ds):=A5 (by rw [<- hO];rfl);have hcon:=fun w he hr=>fV A _ cap (Lib.splitN t [44] 13) w hr rfl (Nat.le_trans hle.2 (by omega)) (fun p hp=>Nat.le_trans (hle.1 p hp) (by rw [AB] at hts;exact hts)) he
 have hlen:∀ l,O=some l->l.length<=10000:=fun l hl=>by
  rw [<- hO,Option.map_eq_some_iff] at hl;obtain ⟨xs,hx,rfl⟩:=hl;rw [(GI BO xs).length_eq,<- BF hx];exact Nat.le_trans hle.2 (by omega)
 rw [hO] at hcon;have HC:=A5 hcon;have HLE:=A5 hlen;have HRR:=A5 hr;have HB1:=A5 hb1;generalize (Lib.splitN t [44] 13)=LL at *;clear hO hcon hle hlen hr hb1;go_wp2_with fail;refine (HC.out _ (HE.out.keep HB1.out) HRR.out).mono ?_;rintro e w2 ⟨hb2,⟨rfl,rfl⟩|⟨l,v2,rfl,rfl,hown⟩⟩
 ·have hb:=andthen HB1.out hb2;clear hb2;have ck:=(H.out.keep hb).c4;have fk:=(H.out.keep hb).f4;have HK:=A5 (H.out.keep hb);have HB:=A5 hb;clear hb;go_wp2_with fail;go_ret;rw [HO.out];exact ⟨AG HB.out,rfl⟩
 ·have hb:=andthen HB1.out hb2;have HOW:=A5 (DO.down hown HB1.out.size);obtain ⟨A2,cap2,rfl,hrow⟩:=DO.row hown;have HRW:=A5 hrow;clear hb2 hown hrow;have ck:=(H.out.keep hb).c4;have fk:=(H.out.keep hb).f4;have HK:=A5 (H.out.keep hb);have HB:=A5 hb;clear hb;go_wp2_with fail;go_ret;rw [HO.out];exact ⟨AG HB.out,rfl,_,_,_,_,_,_,_,_,_,HK.out.aL A2 _ cap2 l HRW.out rfl (HLE.out l rfl) (EP.newD HOW.out H.out.lt HV.out)⟩
theorem A1u (X t:Tx) (b:Nat) (v:Value) (r:T) (w:World) (hx0:X≠IE) (hx1:X≠BW) (hx2:X≠EA) (hx3:X≠EC) (hx4:X≠CI) (hx5:X≠BA) (hx6:X≠ED) :
  Calls prog 252 #[.pointer (some ⟨b,0,none⟩),.string (str X),.string (str t)] w (GR w b v r (Rt.valOf unU rdC X t)):=by
 have HN:Hid (Rt.valOf unU rdC X t=none):=A5 (by unfold Rt.valOf;rw [if_neg hx0,if_neg hx1,if_neg hx2,if_neg hx3,if_neg hx4,if_neg hx5,if_neg hx6]);have e0:(X==[70,82,69,81])=false:=by rw [AO];exact z0G hx0
 have e1:(X==[73,78,84,69,82,86,65,76])=false:=by rw [AO];exact z0G hx1
 have e2:(X==[67,79,85,78,84])=false:=by rw [AO];exact z0G hx2
 have e3:(X==[85,78,84,73,76])=false:=by rw [AO];exact z0G hx3
 have e4:(X==[66,89,77,79,78,84,72])=false:=by rw [AO];exact z0G hx4
 have e5:(X==[66,89,77,79,78,84,72,68,65,89])=false:=by rw [AO];exact z0G hx5
 have e6:(X==[66,89,68,65,89])=false:=by rw [AO];exact z0G hx6
 have q1:=AH X;rw [HN.out];clear hx0 hx1 hx2 hx3 hx4 hx5 hx6;go_enter func252,ntmps252;go_wp2_with fail;go_ret;exact ⟨BC (start _),rfl⟩
theorem yS (X t:Tx) (b:Nat) (v:Value) (r:T) (D M Y:Option Addr) (dn dc mn mc yn yc:Nat) (w:World) (h:AQ w b v r D dn dc M mn mc Y yn yc) (hv:∀ g,v.ownBlock=some g->g<w.heap.size) (he:Env w) (ht:t.length<=100000) :
  Calls prog 252 #[.pointer (some ⟨b,0,none⟩),.string (str X),.string (str t)] w (GR w b v r (Rt.valOf unU rdC X t)):=by
 by_cases h0:X=IE
 ·subst h0;exact A33 t b v r D M Y dn dc mn mc yn yc w h hv he ht
 by_cases h1:X=BW
 ·subst h1;exact A34 t b v r D M Y dn dc mn mc yn yc w h hv he ht
 by_cases h2:X=EA
 ·subst h2;exact A35 t b v r D M Y dn dc mn mc yn yc w h hv he ht
 by_cases h3:X=EC
 ·subst h3;exact A36 t b v r D M Y dn dc mn mc yn yc w h hv he ht
 by_cases h4:X=CI
 ·subst h4;exact A37 t b v r D M Y dn dc mn mc yn yc w h hv he ht
 by_cases h5:X=BA
 ·subst h5;exact A38 t b v r D M Y dn dc mn mc yn yc w h hv he ht
 by_cases h6:X=ED
 ·subst h6;exact A39 t b v r D M Y dn dc mn mc yn yc w h hv he ht
 exact A1u X t b v r w h0 h1 h2 h3 h4 h5 h6
structure M1 (v:Value) (w:World) (v':Value) (w':World):Prop where
 grown:w.grownBy w' v.ownBlock
 own:v'.ownBlock=v.ownBlock∨∃ k,v'.ownBlock=some k/\w.heap.size<=k
theorem BS.grow {w w':World} {row:Option Nat} {A:Option Addr} {l:List Int} (h:BS w A l) (g:w.grownBy w' row) (ho:∀ b o,A=some ⟨b,o,none⟩->some b≠row):BS w' A l:=fun hn=>by
 obtain ⟨b,o,rfl,hl,hc⟩:=h hn;exact ⟨b,o,rfl,Nat.lt_of_lt_of_le hl g.size,fun j hj=>g.cell (hc j hj) (ho b o rfl)⟩
theorem EL.grow {w w':World} {row:Option Nat} {A:Option Addr} {l:List Wd} (h:EL w A l) (g:w.grownBy w' row) (ho:∀ b o,A=some ⟨b,o,none⟩->some b≠row):EL w' A l:=fun hn=>by
 obtain ⟨b,o,rfl,hl,hc⟩:=h hn;exact ⟨b,o,rfl,Nat.lt_of_lt_of_le hl g.size,fun j hj=>⟨g.cell (hc j hj).1 (ho b o rfl),g.cell (hc j hj).2 (ho b o rfl)⟩⟩
theorem JQ {w w':World} {row:Option Nat} (g:w.grownBy w' row) {a:Addr} {x:Bool} (hlt:a.block<w.heap.size) (hne:some a.block≠row) (h:w.frozen? a=x):w'.frozen? a=x:=(World.frozen?_of_block (g.block a.block hlt hne)).trans h
theorem AQ.grow {w w':World} {b:Nat} {v v':Value} {row:Option Nat} {r:T} {D M Y:Option Addr} {dn dc mn mc yn yc:Nat} (h:AQ w b v r D dn dc M mn mc Y yn yc) (g:w.grownBy w' row) (hne:some b≠row)
  (hd:∀ b o,D=some ⟨b,o,none⟩->some b≠row) (hm:∀ b o,M=some ⟨b,o,none⟩->some b≠row) (hy:∀ b o,Y=some ⟨b,o,none⟩->some b≠row)
  (hv:v'.ownBlock=v.ownBlock∨∃ k,v'.ownBlock=some k/\w.heap.size<=k):AQ w' b v' r D dn dc M mn mc Y yn yc:=by
 have hlt:=h.lt;have off:∀ {A:Option Addr},EP w b v A->EP w' b v' A:=fun k p q e=>by
  obtain ⟨k1,k2,k3,k4⟩:=k p q e;refine ⟨k1,?_,Nat.lt_of_lt_of_le k3 g.size,k4⟩;rcases hv with hv|⟨z,hv,hz⟩
  ·rw [hv];exact k2
  ·rw [hv];intro e;injection e with e;omega
 refine ⟨g.cell h.c0 hne,g.cell h.c1 hne,g.cell h.c2 hne,g.cell h.c3 hne,g.cell h.c4 hne,g.cell h.c5 hne,g.cell h.c6 hne,JQ g hlt hne h.f0,JQ g hlt hne h.f1,JQ g hlt hne h.f2,JQ g hlt hne h.f3,JQ g hlt hne h.f4,JQ g hlt hne h.f5,JQ g hlt hne h.f6,
  ⟨h.BD.d.grow g hd,h.BD.dn,h.BD.dl,h.BD.m.grow g hm,h.BD.mn,h.BD.ml,h.BD.y.grow g hy,h.BD.yn,h.BD.yl⟩,off h.od,off h.om,off h.oy,?_⟩
 rcases hv with hv|⟨z,hv,hz⟩
 ·rw [hv];exact h.own
 ·rw [hv];intro e;injection e with e;omega
theorem AQ.goes {w w':World} {b:Nat} {v v':Value} {r:T} {D M Y:Option Addr} {dn dc mn mc yn yc:Nat} (h:AQ w b v r D dn dc M mn mc Y yn yc) (g:M1 v w v' w'):AQ w' b v' r D dn dc M mn mc Y yn yc :=
 h.grow g.grown h.own (fun b o e=>(h.od b o e).2.1) (fun b o e=>(h.om b o e).2.1) (fun b o e=>(h.oy b o e).2.1) g.own
theorem AQ.aside {w w':World} {b X:Nat} {v:Value} {r:T} {dn dc mn mc yn yc:Nat} (h:AQ w b v r none dn dc none mn mc none yn yc) (g:w.grownBy w' (some X)) (hne:b≠X):AQ w' b v r none dn dc none mn mc none yn yc :=
 h.grow g (fun e=>hne (by injection e)) (fun _ _ e=>by cases e) (fun _ _ e=>by cases e) (fun _ _ e=>by cases e) (Or.inl rfl)
theorem AQ.row {w:World} {b:Nat} {v v':Value} {r:T} {dn dc mn mc yn yc:Nat} (h:AQ w b v r none dn dc none mn mc none yn yc) (ho:some b≠v'.ownBlock):AQ w b v' r none dn dc none mn mc none yn yc :=
 ⟨h.c0,h.c1,h.c2,h.c3,h.c4,h.c5,h.c6,h.f0,h.f1,h.f2,h.f3,h.f4,h.f5,h.f6,h.BD,EP.no _ _ _,EP.no _ _ _,EP.no _ _ _,ho⟩
theorem AQ.bare {w:World} {b:Nat} {v:Value} {r:T} {D M Y:Option Addr} {dn dc mn mc yn yc:Nat} (h:AQ w b v r D dn dc M mn mc Y yn yc):AQ w b (.slice none 0 0) r D dn dc M mn mc Y yn yc :=
 ⟨h.c0,h.c1,h.c2,h.c3,h.c4,h.c5,h.c6,h.f0,h.f1,h.f2,h.f3,h.f4,h.f5,h.f6,h.BD,fun g o e=>⟨(h.od g o e).1,by simp [Value.ownBlock],(h.od g o e).2.2.1,(h.od g o e).2.2.2⟩,fun g o e=>⟨(h.om g o e).1,by simp [Value.ownBlock],(h.om g o e).2.2.1,(h.om g o e).2.2.2⟩,fun g o e=>⟨(h.oy g o e).1,by simp [Value.ownBlock],(h.oy g o e).2.2.1,(h.oy g o e).2.2.2⟩,by simp [Value.ownBlock]⟩
theorem YC (w:World) (t:TypeId) (x0 x1 x2 x3 x4 x5 x6:Value) {X:Nat} (hX:w.heap.size=X) :
  let W:=w.alloc (.cells #[x0,x1,x2,x3,x4,x5,x6] t)
  W.cell? ⟨X,0,none⟩=some x0/\W.cell? ⟨X,1,none⟩=some x1/\W.cell? ⟨X,2,none⟩=some x2/\W.cell? ⟨X,3,none⟩=some x3/\W.cell? ⟨X,4,none⟩=some x4/\W.cell? ⟨X,5,none⟩=some x5/\W.cell? ⟨X,6,none⟩=some x6:=by
 subst hX;refine ⟨?_,?_,?_,?_,?_,?_,?_⟩
 all_goals (rw [World.cell?_alloc_at _ _ _ _ rfl];rfl)
theorem VW (w:World) (t:TypeId):AQ (w.alloc (.cells #[.int .i64 0,.int .i64 0,.int .i64 0,.int .i64 0,.slice none 0 0,.slice none 0 0,.slice none 0 0] t)) w.heap.size (.slice none 0 0) ⟨0,0,0,0,[],[],[]⟩ none 0 0 none 0 0 none 0 0:=by
 refine ⟨?_,?_,?_,?_,?_,?_,?_,?_,?_,?_,?_,?_,?_,?_,C7 _,EP.no _ _ _,EP.no _ _ _,EP.no _ _ _,by simp [Value.ownBlock]⟩
 iterate 7 (rw [World.cell?_alloc_at _ _ _ _ rfl];rfl)
 all_goals simp
theorem mX (w:World) (t:TypeId):AQ (w.alloc (.cells #[.int .i64 0,.int .i64 1,.int .i64 0,.int .i64 (-1),.slice none 0 0,.slice none 0 0,.slice none 0 0] t)) w.heap.size (.slice none 0 0) r0 none 0 0 none 0 0 none 0 0:=by
 refine ⟨?_,?_,?_,?_,?_,?_,?_,?_,?_,?_,?_,?_,?_,?_,C7 _,EP.no _ _ _,EP.no _ _ _,EP.no _ _ _,by simp [Value.ownBlock]⟩
 iterate 7 (rw [World.cell?_alloc_at _ _ _ _ rfl];rfl)
 all_goals simp
theorem AQ.copy {w:World} {b X:Nat} {v:Value} {r0 r:T} {D0 M0 Y0 D M Y:Option Addr} {dn0 dc0 mn0 mc0 yn0 yc0 dn dc mn mc yn yc:Nat} (h:AQ w b v r0 D0 dn0 dc0 M0 mn0 mc0 Y0 yn0 yc0) (k:AQ w X v r D dn dc M mn mc Y yn yc) (hlt:b<X) :
  AQ (((((((w.setCell ⟨b,0,none⟩ (.int .i64 r.fr)).setCell ⟨b,1,none⟩ (.int .i64 r.ev)).setCell ⟨b,2,none⟩ (.int .i64 r.ct)).setCell ⟨b,3,none⟩ (.int .i64 r.un)).setCell ⟨b,4,none⟩ (.slice D dn dc)).setCell ⟨b,5,none⟩ (.slice M mn mc)).setCell ⟨b,6,none⟩ (.slice Y yn yc)) b v r D dn dc M mn mc Y yn yc:=by
 have off:∀ {A:Option Addr},EP w X v A->EP w b v A:=fun z p q e=>⟨by have:=(z p q e).2.2.2;omega,(z p q e).2.1,(z p q e).2.2.1,by have:=(z p q e).2.2.2;omega⟩
 have ne:∀ {A:Option Addr},EP w X v A->∀ g o,A=some ⟨g,o,none⟩->g≠b:=fun z p q e=>by have:=(z p q e).2.2.2;omega
 have d4:EL ((((w.setCell ⟨b,0,none⟩ (.int .i64 r.fr)).setCell ⟨b,1,none⟩ (.int .i64 r.ev)).setCell ⟨b,2,none⟩ (.int .i64 r.ct)).setCell ⟨b,3,none⟩ (.int .i64 r.un)) D r.ds:=EL.set (EL.set (EL.set (EL.set k.BD.d (ne k.od)) (ne k.od)) (ne k.od)) (ne k.od);have m4:BS ((((w.setCell ⟨b,0,none⟩ (.int .i64 r.fr)).setCell ⟨b,1,none⟩ (.int .i64 r.ev)).setCell ⟨b,2,none⟩ (.int .i64 r.ct)).setCell ⟨b,3,none⟩ (.int .i64 r.un)) M r.ms:=BS.set (BS.set (BS.set (BS.set k.BD.m (ne k.om)) (ne k.om)) (ne k.om)) (ne k.om);have y4:BS ((((w.setCell ⟨b,0,none⟩ (.int .i64 r.fr)).setCell ⟨b,1,none⟩ (.int .i64 r.ev)).setCell ⟨b,2,none⟩ (.int .i64 r.ct)).setCell ⟨b,3,none⟩ (.int .i64 r.un)) Y r.ys:=BS.set (BS.set (BS.set (BS.set k.BD.y (ne k.oy)) (ne k.oy)) (ne k.oy)) (ne k.oy);exact ((((((h.aH r.fr).aI r.ev).aJ r.ct).aK r.un).aL D dn dc r.ds d4 k.BD.dn k.BD.dl (off k.od).set.set.set.set).aM M mn mc r.ms (m4.set (ne k.om)) k.BD.mn k.BD.ml (off k.om).set.set.set.set.set).aN Y yn yc r.ys ((y4.set (ne k.oy)).set (ne k.oy)) k.BD.yn k.BD.yl (off k.oy).set.set.set.set.set.set
theorem below_7 {w W:World} {B:Nat} {b:Nat} {x0 x1 x2 x3 x4 x5 x6:Value} (h:Below B w W) (hb:B<=b) :
  Below B w (((((((W.setCell ⟨b,0,none⟩ x0).setCell ⟨b,1,none⟩ x1).setCell ⟨b,2,none⟩ x2).setCell ⟨b,3,none⟩ x3).setCell ⟨b,4,none⟩ x4).setCell ⟨b,5,none⟩ x5).setCell ⟨b,6,none⟩ x6) :=
 ((((((h.setCell hb _).setCell hb _).setCell hb _).setCell hb _).setCell hb _).setCell hb _).setCell hb _
theorem aO {ops:Array Oper} {rest:List Oper} {o:Oper} {a:Act} {Q:Exit->Act->World->Prop} {w:World} {B:Nat} {v:Value} {l:List Tx} {p:Tx} (hgd:o.guard=none) (s x:Operand)
  (ho:o.op=.call { callee:=.builtin .append,args:=#[s,x],argTypes:=#[52,52] }) (hs:a.eval s=v) {N:Nat} (hN:w.heap.size=N) (hx:a.eval x=.slice (some ⟨N,0,none⟩) 1 1)
  (hown:BY w B v l) (hB:B<=w.heap.size) (hn:l.length<=1000000)
  (h:∀ v' w',BY w' B v' (l++[p])->M1 v w v' w'->wpList prog ops Q rest (a.put o.dst v') w') :
  wpList prog ops Q (o :: rest) a (w.alloc (.cells #[.string (str p)] 9)):=by
 subst hN;obtain ⟨i0,hi,hz0,hz1,hz2⟩:=info_parts K3;refine wpList_append_own_at _ hgd s x 52 ho B 9 i0 _ 1 16 underlying52 hi hz0 hz1 hz2 rfl (by decide) v l.length (FV l) hs (hown.alloc _) ⟨w.heap.size,0,none⟩ 1 1 [.string (str p)] hx rfl ?_ ?_ ?_ ?_ ?_ ?_
 ·intro j u hu;rw [plus,World.cell?_alloc_at _ _ _ _ rfl];exact (by simpa using hu)
 ·intro u hu;simp only [List.mem_cons,List.not_mem_nil,or_false] at hu;subst hu;rfl
 ·unfold maxLen;omega
 ·omega
 ·simp only [World.size_alloc];omega
 ·intro v' w' h2 h3 _ h5;have h4:=(World.grownBy_alloc w (.cells #[.string (str p)] 9) v.ownBlock);refine h v' w' (by rw [BY,K5,z0J];exact h2) ⟨h4.trans h3,?_⟩;rcases h5 with h5|h5
  ·exact Or.inl h5
  ·exact Or.inr ⟨_,h5,by simp⟩
def O4 (U:Un) (l:List Tx):Option T:=match AK (GJ U) l with
 | none=>none
 | some ps=>if (ps.map tag).Nodup then some (fold ps) else none
theorem OY {U:Un} {l:List Tx} {j:Nat} (hlt:j<l.length) (h:GJ U l[j]=none):O4 U l=none:=by
 unfold O4;rw [NK hlt h]
theorem kF {U:Un} {l:List Tx} {ps:List Rt.Part} (h:AK (GJ U) l=some ps) (hn:(ps.map tag).Nodup):O4 U l=some (fold ps):=by
 unfold O4;rw [h];simp only;rw [if_pos hn]
theorem NL {U:Un} {t a v:Tx} (h:Lib.cut t [61]=(a,v,true)):GJ U t=Rt.valOf U rdC a v:=by unfold GJ;rw [h];rfl
theorem fW {U:Un} {t a v:Tx} (h:Lib.cut t [61]=(a,v,false)):GJ U t=none:=by unfold GJ;rw [h];rfl
theorem VX {ps:List Rt.Part} {p:Rt.Part} (h:(ps.map tag).Nodup) (hp:nameOf p∉ps.map nameOf):((ps++[p]).map tag).Nodup:=by
 rw [List.map_append,List.nodup_append];refine ⟨h,by simp,fun x hx y hy=>?_⟩;obtain ⟨q,hq,rfl⟩:=List.mem_map.1 hx;simp only [List.map_cons,List.map_nil,List.mem_singleton] at hy;subst hy;exact fun e=>hp (List.mem_map.2 ⟨q,hq,(UE q p).2 e⟩)
theorem QB {f:Tx->Option Rt.Part}:∀ (l:List Tx) (ps:List Rt.Part) (j:Nat),AK f l=some ps->AK f (l.take j)=some (ps.take j):=fun l ps j h=>by
 rw [CW] at h ⊢;rw [List.map_take,h,List.map_take]
theorem rR {U:Un} {l:List Tx} {j:Nat} {ps:List Rt.Part} {a v:Tx} (hlt:j<l.length) (hA:AK (GJ U) (l.take j)=some ps) (hc:Lib.cut l[j] [61]=(a,v,true)) (hm:a∈ps.map nameOf):O4 U l=none:=by
 cases hx:Rt.valOf U rdC a v with
 | none=>exact OY hlt (by rw [NL hc];exact hx)
 | some p =>
  have hn:=PD hx;subst hn;have h1:=GB hlt hA (by rw [NL hc];exact hx);unfold O4
  cases hq:AK (GJ U) l with
  | none=>rfl
  | some qs =>
   simp only;rw [if_neg];intro hd;have h2:=QB l qs (j+1) hq;rw [h1] at h2;injection h2 with h2;have h3:((ps++[p]).map tag).Nodup:=by rw [h2,List.map_take];exact List.Nodup.sublist (List.take_sublist _ _) hd
   rw [List.map_append,List.nodup_append] at h3;obtain ⟨q,hq1,hq2⟩:=List.mem_map.1 hm;exact h3.2.2 (tag q) (List.mem_map.2 ⟨q,hq1,rfl⟩) (tag p) (by simp) ((UE q p).1 hq2)
theorem A1v (c:UInt8) (t:Tx):(Lib.cut t [c]).1.length<=t.length/\(Lib.cut t [c]).2.1.length<=t.length:=by
 by_cases h:c∈t
 ·obtain ⟨p,q,rfl,hp⟩:=IC c t h;rw [YY c p q hp];simp only [z0J,List.length_cons];omega
 ·rw [cN c t h];simp
def M3 (r:T) (D:Option Addr) (dn dc:Nat) (M:Option Addr) (mn mc:Nat) (Y:Option Addr) (yn yc:Nat):Value:=.agg #[.int .i64 r.fr,.int .i64 r.ev,.int .i64 r.ct,.int .i64 r.un,.slice D dn dc,.slice M mn mc,.slice Y yn yc]
def DM:Value:=.agg #[.int .i64 0,.int .i64 0,.int .i64 0,.int .i64 0,.slice none 0 0,.slice none 0 0,.slice none 0 0]
def A1S (w:World) (o:Option T) (e:Ending) (w':World):Prop:=Below w.heap.size w w' ∧
 ((o=none/\e=.returned (.tuple #[DM,.bool false]))∨∃ r D dn dc M mn mc Y yn yc,o=some r/\e=.returned (.tuple #[M3 r D dn dc M mn mc Y yn yc,.bool true])/\AQ w' w.heap.size (.slice none 0 0) r D dn dc M mn mc Y yn yc)
def kG (w:World) (r:T) (D:Option Addr) (dn dc:Nat) (M:Option Addr) (mn mc:Nat) (Y:Option Addr) (yn yc:Nat) (W:World):Prop:=∃ v,AQ W w.heap.size v r D dn dc M mn mc Y yn yc/\Below w.heap.size w W
def JR (w:World) (W:World):Prop:=(W.cell? ⟨w.heap.size,0,none⟩=some (.int .i64 0)/\W.cell? ⟨w.heap.size,1,none⟩=some (.int .i64 0)/\W.cell? ⟨w.heap.size,2,none⟩=some (.int .i64 0)/\W.cell? ⟨w.heap.size,3,none⟩=some (.int .i64 0)/\W.cell? ⟨w.heap.size,4,none⟩=some (.slice none 0 0)/\W.cell? ⟨w.heap.size,5,none⟩=some (.slice none 0 0)/\W.cell? ⟨w.heap.size,6,none⟩=some (.slice none 0 0))/\Below w.heap.size w W
theorem K9 {w W:World} {v:Value} {r:T} {D M Y:Option Addr} {dn dc mn mc yn yc:Nat} (h:AQ W w.heap.size v r D dn dc M mn mc Y yn yc) (hb:Below w.heap.size w W) :
  JR w (((((((W.setCell ⟨w.heap.size,0,none⟩ (.int .i64 0)).setCell ⟨w.heap.size,1,none⟩ (.int .i64 0)).setCell ⟨w.heap.size,2,none⟩ (.int .i64 0)).setCell ⟨w.heap.size,3,none⟩ (.int .i64 0)).setCell ⟨w.heap.size,4,none⟩ (.slice none 0 0)).setCell ⟨w.heap.size,5,none⟩ (.slice none 0 0)).setCell ⟨w.heap.size,6,none⟩ (.slice none 0 0)):=by
 have k:=((((((h.aH 0).aI 0).aJ 0).aK 0).aL none 0 0 [] (C7 _).d rfl (by decide) (EP.no _ _ _)).aM none 0 0 [] (C7 _).m rfl (by decide) (EP.no _ _ _)).aN none 0 0 [] (C7 _).y rfl (by decide) (EP.no _ _ _);exact ⟨⟨k.c0,k.c1,k.c2,k.c3,k.c4,k.c5,k.c6⟩,below_7 hb (Nat.le_refl _)⟩
theorem yT (A:Option Addr) (n c:Nat) (l:List Tx) (w:World) (hl:BU w A l) (hn:n=l.length) (hsz:l.length<=1000) (hb:∀ p∈l,p.length<=100000) (he:Env w) :
  Calls prog 239 #[.slice A n c] w (A1S w (O4 unU l)):=by
 subst hn;have HR:=A5 hl;have HE:=A5 he;have HB:=A5 hb;have HZ:=A5 (VW w 44);have HZB:Hid (Below w.heap.size w (w.alloc (.cells #[.int .i64 0,.int .i64 0,.int .i64 0,.int .i64 0,.slice none 0 0,.slice none 0 0,.slice none 0 0] 44))):=A5 (more (start w) _);clear hl he hb;go_enter func239,ntmps239;go_wp2_with fail;refine (DE _).mono ?_;rintro e w1 ⟨rfl,hb1⟩;replace HZ:=A5 (HZ.out.keep hb1);replace HZB:=A5 (andthen HZB.out hb1);have HX:=A5 (mX w1 44);have hX0:w.heap.size<w1.heap.size:=HZ.out.lt;replace HZ:=A5 (HZ.out.keep (more (start w1) (.cells #[.int .i64 0,.int .i64 1,.int .i64 0,.int .i64 (-1),.slice none 0 0,.slice none 0 0,.slice none 0 0] 44)));replace HZB:=A5 (more HZB.out (.cells #[.int .i64 0,.int .i64 1,.int .i64 0,.int .i64 (-1),.slice none 0 0,.slice none 0 0,.slice none 0 0] 44));clear hb1;go_wp2_with (refine VO rfl _ _ rfl rfl (n:=l.length) rfl rfl (by omega) ?_;intro v0 w0 hown0 hb0);replace HZ:=A5 (HZ.out.keep hb0);replace HX:=A5 (HX.out.keep hb0);replace HZB:=A5 (andthen HZB.out hb0);have HO0:=A5 hown0;rw [World.size_alloc] at HO0;clear hown0 hb0;generalize w1.heap.size=X at *;have hv0:∀ b,b<=X->some b≠v0.ownBlock:=fun b hb e=>by have:=(HO0.out.lt b e.symm).1;omega
 replace HX:=A5 (HX.out.row (v':=v0) (hv0 X (Nat.le_refl _)));replace HZ:=A5 (HZ.out.row (v':=v0) (hv0 _ (Nat.le_of_lt hX0)));clear hv0
 go_loopw [5,7,8,9,10,18] (fun v _ _ _ _ i wr=>∃ (j:Nat) (ps:List Rt.Part) (D:Option Addr) (dn dc:Nat) (M:Option Addr) (mn mc:Nat) (Y:Option Addr) (yn yc:Nat),j<=l.length/\i=.int .i64 j/\BY wr (X+1) v (ps.map nameOf)/\AQ wr X v (fold ps) D dn dc M mn mc Y yn yc/\AQ wr w.heap.size v ⟨0,0,0,0,[],[],[]⟩ none 0 0 none 0 0 none 0 0/\Hid (AK (GJ unU) (l.take j)=some ps)/\Hid ((ps.map tag).Nodup)/\Below w.heap.size w wr) (fun _ _ _ _ _ i _=>l.length-(intOf i).toNat)
 case atStart=>exact ⟨0,[],_,_,_,_,_,_,_,_,_,Nat.zero_le _,rfl,HO0.out,HX.out,HZ.out,A5 rfl,A5 List.nodup_nil,HZB.out⟩
 case round =>
  obtain ⟨j,ps,D,dn,dc,M,mn,mc,Y,yn,yc,hj,rfl,hown,hx,hz,HA,HN,hbw⟩:=hrel;have HO:=A5 hown;have HXr:=A5 hx;have HZr:=A5 hz;have HBR:=A5 hbw;clear hown hx hz hbw HO0 HX HZ HZB
  by_cases hlt:j<l.length
  ·obtain ⟨b1,o1,rfl,hb1,hc1⟩:=HR.out (by intro h0;rw [h0] at hlt;exact absurd hlt (Nat.not_lt_zero _));obtain ⟨T,hm⟩:∃ T,l[j]=T:=⟨_,rfl⟩;have hT:=HB.out l[j] (List.getElem_mem _);rw [hm] at hT;have p1:wr.cell? ⟨b1,o1+j,none⟩=some (.string (str T)):=by rw [<- hm];exact (HBR.out.cell (p:=⟨b1,_,none⟩) hb1).trans (hc1 j hlt)
   have hi0:(0:Int)<=(j:Int):=by omega
   have hi1:(j:Int)<(l.length:Int):=by omega
   clear hc1;have HC:=A5 (fun w he=>yH 61 (str [61]) rfl (str T) w he (by rw [AB];exact hT));rw [AD] at HC;have hle:=A1v 61 T;obtain ⟨a,v,f,hcut⟩:∃ a v f,Lib.cut T [61]=(a,v,f):=⟨_,_,_,rfl⟩;rw [hcut] at HC hle;simp only at HC hle
   cases f with
   | false =>
    have HF:=A5 (OY (U:=unU) hlt (by rw [hm];exact fW hcut));clear hcut hle hm;go_wp2_with fail;refine (HC.out _ (HE.out.below HBR.out (Nat.le_refl _))).mono ?_;rintro e v1 ⟨rfl,hbv⟩;replace HZr:=A5 (HZr.out.keep hbv);replace HBR:=A5 (andthen HBR.out hbv);clear hbv p1;have z0:=HZr.out.c0;have z1:=HZr.out.c1;have z2:=HZr.out.c2;have z3:=HZr.out.c3;have z4:=HZr.out.c4;have z5:=HZr.out.c5;have z6:=HZr.out.c6;have f0:=HZr.out.f0;have f1:=HZr.out.f1;have f2:=HZr.out.f2;have f3:=HZr.out.f3;have f4:=HZr.out.f4;have f5:=HZr.out.f5;have f6:=HZr.out.f6;have hlz:=HZr.out.lt;go_wp2_with fail;refine B6 (JR w) (K9 HZr.out HBR.out) ?_;rintro WF ⟨⟨c0,c1,c2,c3,c4,c5,c6⟩,hb⟩;exact bodyPost_ret (v:=.tuple #[DM,.bool false]) (by simp [results,Tryz.results239,go_sem,c0,c1,c2,c3,c4,c5,c6,DM]) rfl ⟨hb,Or.inl ⟨HF.out,rfl⟩⟩
   | true =>
    have hva:v.length<=100000:=Nat.le_trans hle.2 hT;have hpl:(ps.map nameOf).length<=1000:=by have:=BF HA.out;rw [List.length_take] at this;rw [List.length_map];omega
    have HCUT:=A5 hcut;have HM:=A5 hm;clear hcut hle hm;go_wp2_with fail;refine (HC.out _ (HE.out.below HBR.out (Nat.le_refl _))).mono ?_;rintro e v1 ⟨rfl,hbv⟩;replace HZr:=A5 (HZr.out.keep hbv);replace HXr:=A5 (HXr.out.keep hbv);replace HO:=A5 (HO.out.keep hbv);replace HBR:=A5 (andthen HBR.out hbv);clear hbv p1;obtain ⟨A2,cap2,rfl,hrow,hcap⟩:=BY.row HO.out;have HRW:=A5 hrow;clear hrow hcap;rw [List.length_map] at HO HXr HZr
    by_cases hmem:a∈ps.map nameOf
    ·have HF:=A5 (rR (U:=unU) hlt HA.out (by rw [HM.out];exact HCUT.out) hmem);have hdec:decide (a∈ps.map nameOf)=true:=z0H hmem;have HCO:=A5 (fun w hr=>I5 a A2 ps.length cap2 (ps.map nameOf) w hr (by simp) hpl);rw [hdec] at HCO;clear hdec hmem;go_wp2_with fail;refine (HCO.out _ HRW.out).mono ?_;rintro e v2 ⟨rfl,hbv⟩;replace HZr:=A5 (HZr.out.keep hbv);replace HBR:=A5 (andthen HBR.out hbv);clear hbv;have z0:=HZr.out.c0;have z1:=HZr.out.c1;have z2:=HZr.out.c2;have z3:=HZr.out.c3;have z4:=HZr.out.c4;have z5:=HZr.out.c5;have z6:=HZr.out.c6;have f0:=HZr.out.f0;have f1:=HZr.out.f1;have f2:=HZr.out.f2;have f3:=HZr.out.f3;have f4:=HZr.out.f4;have f5:=HZr.out.f5;have f6:=HZr.out.f6;have hlz:=HZr.out.lt;go_wp2_with fail;refine B6 (JR w) (K9 HZr.out HBR.out) ?_;rintro WF ⟨⟨c0,c1,c2,c3,c4,c5,c6⟩,hb⟩;exact bodyPost_ret (v:=.tuple #[DM,.bool false]) (by simp [results,Tryz.results239,go_sem,c0,c1,c2,c3,c4,c5,c6,DM]) rfl ⟨hb,Or.inl ⟨HF.out,rfl⟩⟩
    ·have hdec:decide (a∈ps.map nameOf)=false:=z0G hmem;have HCO:=A5 (fun w hr=>I5 a A2 ps.length cap2 (ps.map nameOf) w hr (by simp) hpl);rw [hdec] at HCO;clear hdec;go_wp2_with fail;refine (HCO.out _ HRW.out).mono ?_;rintro e v2 ⟨rfl,hbv⟩;replace HZr:=A5 (HZr.out.keep hbv);replace HXr:=A5 (HXr.out.keep hbv);replace HO:=A5 (HO.out.keep hbv);replace HBR:=A5 (andthen HBR.out hbv);clear hbv HRW;obtain ⟨O,hO⟩:∃ O,Rt.valOf unU rdC a v=O:=⟨_,rfl⟩;have HTK:=A5 (fun w h hv he=>yS a v X (.slice A2 ps.length cap2) (fold ps) D M Y dn dc mn mc yn yc w h hv he hva);rw [hO] at HTK;go_wp2_with fail;refine (HTK.out _ HXr.out (fun g e=>(HO.out.lt g e).2) (HE.out.keep HBR.out)).mono ?_;rintro e v3 ⟨hg,ht⟩;have hXs:w.heap.size<=X:=Nat.le_of_lt hX0;replace HZr:=A5 (HZr.out.aside hg (Nat.ne_of_lt hX0));have HBT:=A5 (HBR.out.grown hg HBR.out.size fun k hk=>(by injection hk with hk;omega))
     cases O with
     | none =>
      subst ht;have HF:=A5 (OY (U:=unU) hlt (by rw [HM.out,NL HCUT.out];exact hO));clear hg hO HTK;replace HBR:=HBT;clear HBT;have z0:=HZr.out.c0;have z1:=HZr.out.c1;have z2:=HZr.out.c2;have z3:=HZr.out.c3;have z4:=HZr.out.c4;have z5:=HZr.out.c5;have z6:=HZr.out.c6;have f0:=HZr.out.f0;have f1:=HZr.out.f1;have f2:=HZr.out.f2;have f3:=HZr.out.f3;have f4:=HZr.out.f4;have f5:=HZr.out.f5;have f6:=HZr.out.f6;have hlz:=HZr.out.lt;go_wp2_with fail;refine B6 (JR w) (K9 HZr.out HBR.out) ?_;rintro WF ⟨⟨c0,c1,c2,c3,c4,c5,c6⟩,hb⟩;exact bodyPost_ret (v:=.tuple #[DM,.bool false]) (by simp [results,Tryz.results239,go_sem,c0,c1,c2,c3,c4,c5,c6,DM]) rfl ⟨hb,Or.inl ⟨HF.out,rfl⟩⟩
     | some p =>
      obtain ⟨rfl,D',dn',dc',M',mn',mc',Y',yn',yc',hr⟩:=ht;obtain rfl:a=nameOf p:=PD hO;have HST:=A5 (GB hlt HA.out (by rw [HM.out,NL HCUT.out];exact hO));have HND:=A5 (VX HN.out (p:=p) hmem);have hown3:=World.ownsRow.kept HO.out hg (Or.inr fun e=>by have:=(HO.out.lt X e).1;omega);have hz3:X+1<=v3.heap.size:=hr.lt;have hl3:(ps.map nameOf).length<=1000000:=by omega
      have HRN:=A5 hr;clear hg hO HTK hr HXr HO;replace HBR:=HBT;clear HBT;go_wp2_with (at_builtin;refine aO (l:=ps.map nameOf) (p:=nameOf p) rfl _ _ rfl rfl rfl rfl hown3 hz3 hl3 ?_;intro v4 w4 hown4 hg4);replace HBR:=A5 (HBR.out.grown hg4.grown HBR.out.size fun k hk=>(by have:=(hown3.lt k hk).1;omega));have hb4:(ps++[p]).map nameOf=ps.map nameOf++[nameOf p]:=by simp
      have HO4:=A5 hown4;rw [<- hb4] at HO4;have hf4:fold (ps++[p])=Rt.Part.set (fold ps) p:=by simp [fold]
      have HR4:=A5 (HRN.out.goes hg4);rw [<- hf4] at HR4;have HZ4:=A5 (HZr.out.goes hg4);clear hown4 hg4 hown3 hz3 hl3 hb4 hf4 HRN HZr;go_wp2_with fail
      go_roundw
      case rel=>exact ⟨j+1,ps++[p],_,_,_,_,_,_,_,_,_,by omega,by go_num,HO4.out,HR4.out,HZ4.out,HST,HND,HBR.out⟩
      case measure=>simp [intOf];omega
  ·obtain rfl:j=l.length:=by omega
   rw [List.take_length] at HA;have HF:=A5 (kF HA.out HN.out);have c0:=HXr.out.c0;have c1:=HXr.out.c1;have c2:=HXr.out.c2;have c3:=HXr.out.c3;have c4:=HXr.out.c4;have c5:=HXr.out.c5;have c6:=HXr.out.c6;have HCP:=A5 (HZr.out.copy HXr.out hX0);have z0:=HZr.out.c0;have z1:=HZr.out.c1;have z2:=HZr.out.c2;have z3:=HZr.out.c3;have z4:=HZr.out.c4;have z5:=HZr.out.c5;have z6:=HZr.out.c6;have f0:=HZr.out.f0;have f1:=HZr.out.f1;have f2:=HZr.out.f2;have f3:=HZr.out.f3;have f4:=HZr.out.f4;have f5:=HZr.out.f5;have f6:=HZr.out.f6;have hlz:=HZr.out.lt;have hlx:=HXr.out.lt;go_wp2_with fail;refine B6 (kG w (fold ps) D dn dc M mn mc Y yn yc) ⟨_,HCP.out,below_7 HBR.out (Nat.le_refl _)⟩ ?_;rintro WF ⟨_,hr,hb⟩;exact bodyPost_ret (v:=.tuple #[M3 (fold ps) D dn dc M mn mc Y yn yc,.bool true]) (by simp [results,Tryz.results239,go_sem,hr.c0,hr.c1,hr.c2,hr.c3,hr.c4,hr.c5,hr.c6,M3]) rfl ⟨hb,Or.inr ⟨_,_,_,_,_,_,_,_,_,_,HF.out,rfl,hr.bare⟩⟩
def MU (o:Option T):Option T:=match o with
 | none=>none
 | some r=>if isB r=true then some r else none
theorem A1w (U:Un) (s:Tx):IM U s=MU (O4 U (Lib.splitN s [59] 8)):=by
 unfold IM O4 ans
 cases AK (GJ U) (Lib.splitN s [59] 8) with
 | none=>rfl
 | some ps =>
  simp only
  by_cases hn:(ps.map tag).Nodup
  ·by_cases hb:isB (fold ps)=true
   ·rw [if_pos ⟨hn,hb⟩,if_pos hn,MU,if_pos hb]
   ·rw [if_neg (fun h=>hb h.2),if_pos hn,MU,if_neg hb]
  ·rw [if_neg (fun h=>hn h.1),if_neg hn,MU]
end Go.Proofs.YtfecnkhoojnkbaaGreatDoor

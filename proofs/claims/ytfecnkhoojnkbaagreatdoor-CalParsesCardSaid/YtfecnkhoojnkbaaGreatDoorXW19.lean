import Derived.Test.YtfecnkhoojnkbaaGreatDoorXRtPrF
import Derived.Test.YtfecnkhoojnkbaaGreatDoorXW3
import Derived.Test.YtfecnkhoojnkbaaGreatDoorXRuS
set_option maxHeartbeats 8000000
set_option maxRecDepth 1000000
namespace Go.Proofs.YtfecnkhoojnkbaaGreatDoor
open Go.RowKit Rul Rt Go.Sort Tryz
def PutA (w:World) (o:Option (List Int)) (e:Ending) (w':World):Prop:=Below w.heap.size w w' ∧
 ((o=none/\∃ v,e=.returned (.tuple #[v,.bool false]))∨∃ l v,o=some l/\e=.returned (.tuple #[v,.bool true])/\BV w' w.heap.size v l)
theorem BV.qW {w:World} {B B2:Nat} {v:Value} {l:List Int} (h:BV w B v l) (hb:B2<=B):BV w B2 v l:=by
 refine ⟨h.1,?_⟩;rcases h.2 with g|⟨g,cap,cur,e,hg,r⟩
 ·exact Or.inl g
 ·exact Or.inr ⟨g,cap,cur,e,Nat.le_trans hb hg,r⟩
theorem A0U (x:Int) (A:Option Addr) (n c:Nat) (l:List Int) (w:World) (hl:BS w A l) (hn:n=l.length) (hsz:l.length<=100000) :
  Calls prog 167 #[.slice A n c,.int .i64 x] w (PutA w (PZ AI x l)):=by
 subst hn;have HR:=A5 hl;clear hl;go_enter func167,ntmps167;go_wp2_with fail
 go_loopw [6,7,8] (fun v d i wr=>∃ (j:Nat) (out:List Int) (b:Bool),j<=l.length/\i=.int .i64 j/\d=.bool b/\BV wr w.heap.size v out/\Hid (DJ AI x l j out b)/\Hid (out.length<=j+1)/\Below w.heap.size w wr) (fun _ _ i _=>l.length-(intOf i).toNat)
 case atStart=>exact ⟨0,[],false,Nat.zero_le _,rfl,rfl,KQ _ _,A5 (DJ.zero AI x l),A5 (Nat.zero_le _),start _⟩
 case round =>
  obtain ⟨j,out,b,hj,rfl,rfl,hown,HP,HL,hbw⟩:=hrel;have HO:=A5 hown;have HBR:=A5 hbw;clear hown hbw
  by_cases hlt:j<l.length
  ·obtain ⟨b1,o1,rfl,hb1,hc1⟩:=HR.out (by intro h0;rw [h0] at hlt;exact absurd hlt (Nat.not_lt_zero _));obtain ⟨m,hm⟩:∃ m,l[j]=m:=⟨_,rfl⟩;have p1:wr.cell? ⟨b1,o1+j,none⟩=some (.int .i64 m):=by rw [<- hm];exact (HBR.out.cell (p:=⟨b1,_,none⟩) hb1).trans (hc1 j hlt)
   have hi0:(0:Int)<=(j:Int):=by omega
   have hi1:(j:Int)<(l.length:Int):=by omega
   clear hc1
   by_cases hq:m=x
   ·have q:(m==x)=true:=beq_iff_eq.2 hq;have HN:Hid (PZ AI x l=none):=A5 (ZH (by rw [<- hq,<- hm];exact List.getElem_mem hlt));clear hm hq;go_wp2_with fail;go_ret2;exact ⟨HBR.out,Or.inl ⟨HN.out,_,rfl⟩⟩
   ·have q:(m==x)=false:=beq_eq_false_iff_ne.2 hq
    cases b with
    | true =>
     have HN:Hid (DJ AI x l (j+1) (out++[m]) true):=A5 (by have:=HP.out.past hlt (by rw [hm];exact hq);rwa [hm] at this);have hz:=HBR.out.size;have hown:=HO.out;have hln:out.length<=1000000:=by have:=HL.out;omega
     clear hm hq;go_wp2_with (at_builtin;refine FR (l:=out) (p:=m) rfl _ _ rfl rfl rfl rfl hown hz hln ?_;intro v3 w3 hown3 hb3);have HO3:=A5 hown3;have HB3:=A5 (HBR.out.trans hb3);clear hown hown3 hb3 hz hln;go_wp2_with fail
     go_roundw
     case rel=>exact ⟨j+1,out++[m],true,by omega,by go_num,rfl,HO3.out,HN,A5 (by have:=HL.out;rw [z0J];simp;omega),HB3.out⟩
     case measure=>simp [intOf];omega
    | false =>
     by_cases ht:x<m
     ·have q2:decide (x<m)=true:=z0H ht;have HN:Hid (DJ AI x l (j+1) ((out++[x])++[m]) true):=A5 (by have:=HP.out.ahead hlt (by rw [hm];exact hq) (by rw [hm];exact q2);rwa [hm] at this);have HLO:Hid (out.length<=j):=A5 (by
       rcases HP.out.rest with ⟨_,e,_⟩|⟨e,_⟩
       ·rw [e,List.length_take];omega
       ·cases e)
      have hz:=HBR.out.size;have hown:=HO.out;have hln:out.length<=1000000:=by have:=HL.out;omega
      clear hm hq ht
      go_upto_region 11 with (at_builtin;refine FR (l:=out) (p:=x) rfl _ _ rfl rfl rfl rfl hown hz hln ?_;intro v3 w3 hown3 hb3;have p2:w3.cell? ⟨b1,o1+j,none⟩=some (.int .i64 m):=(hb3.cell (p:=⟨b1,_,none⟩) hb1).trans p1)
      have HO3:=A5 hown3;have HB3:=A5 (HBR.out.trans hb3);have hz:=HB3.out.size;clear hown hown3 hb3 hz hln p1;have hz:=HB3.out.size;have hown:=HO3.out;have hln:(out++[x]).length<=1000000:=by have:=HL.out;rw [z0J];simp;omega
      go_wp2_with (at_builtin;refine FR (l:=out++[x]) (p:=m) rfl _ _ rfl rfl rfl rfl hown hz hln ?_;intro v4 w4 hown4 hb4);have HO4:=A5 hown4;have HB4:=A5 (HB3.out.trans hb4);clear hown hown4 hb4 hz hln;go_wp2_with fail
      go_roundw
      case rel=>exact ⟨j+1,_,true,by omega,by go_num,rfl,HO4.out,HN,A5 (by have:=HLO.out;rw [z0J,z0J];simp;omega),HB4.out⟩
      case measure=>simp [intOf];omega
     ·have q2:decide (x<m)=false:=z0G ht;have HN:Hid (DJ AI x l (j+1) (out++[m]) false):=A5 (by have:=HP.out.skip hlt (by rw [hm];exact hq) (by rw [hm];exact q2);rwa [hm] at this);have hz:=HBR.out.size;have hown:=HO.out;have hln:out.length<=1000000:=by have:=HL.out;omega
      clear hm hq ht;go_wp2_with (at_builtin;refine FR (l:=out) (p:=m) rfl _ _ rfl rfl rfl rfl hown hz hln ?_;intro v3 w3 hown3 hb3);have HO3:=A5 hown3;have HB3:=A5 (HBR.out.trans hb3);clear hown hown3 hb3 hz hln;go_wp2_with fail
      go_roundw
      case rel=>exact ⟨j+1,out++[m],false,by omega,by go_num,rfl,HO3.out,HN,A5 (by have:=HL.out;rw [z0J];simp;omega),HB3.out⟩
      case measure=>simp [intOf];omega
  ·obtain rfl:j=l.length:=by omega
   cases b with
   | true =>
    have HF:Hid (PZ AI x l=some out):=A5 (by obtain ⟨e,hn⟩:=HP.out.done;rw [KM hn,e]);go_wp2_with fail;go_ret2;exact ⟨HBR.out,Or.inr ⟨_,_,HF.out,rfl,HO.out⟩⟩
   | false =>
    have HF:Hid (PZ AI x l=some (out++[x])):=A5 (by obtain ⟨e,hn⟩:=HP.out.last;rw [KM hn,e]);have hz:=HBR.out.size;have hown:=HO.out;have hln:out.length<=1000000:=by have:=HL.out;omega
    go_wp2_with (at_builtin;refine FR (l:=out) (p:=x) rfl _ _ rfl rfl rfl rfl hown hz hln ?_;intro v3 w3 hown3 hb3);have HO3:=A5 hown3;have HB3:=A5 (HBR.out.trans hb3);clear hown hown3 hb3 hz hln;go_wp2_with fail;go_ret2;exact ⟨HB3.out,Or.inr ⟨_,_,HF.out,rfl,HO3.out⟩⟩
def A1Q (w:World) (o:Option (List Int)) (e:Ending) (w':World):Prop:=Below w.heap.size w w' ∧
 ((o=none/\e=.returned (.tuple #[.slice none 0 0,.bool false]))∨∃ l v,o=some l/\e=.returned (.tuple #[v,.bool true])/\BV w' w.heap.size v l)
theorem KP (c:UInt8):∀ (t p:Tx),p∈cutAt c t->p.length<=t.length:=fun t p hp=>by
 have h:=PC c t;have key:∀ ps:List Tx,p∈ps->p.length<=(AU c ps).length:=by
  intro ps
  induction ps with
  | nil=>intro h;cases h
  | cons q r ih =>
   intro h
   cases r with
   | nil =>
    simp only [List.mem_cons,List.not_mem_nil,or_false] at h;rw [h];exact Nat.le_refl _
   | cons z r =>
    rw [AU,z0J,List.length_cons];rcases List.mem_cons.1 h with rfl|h
    ·omega
    ·have:=ih h;omega
 have:=key _ hp
 rwa [h] at this
theorem VI (s:ByteArray) (b:Bool) (w:World) (hs:s.size<=9000) :
  Calls prog 135 #[.string s,.bool b] w (A1Q w (FD AI (B8 · b) s.data.toList)):=by
 have hcl:=G8 44 s.data.toList;have hcs:=KP 44 s.data.toList;rw [AE] at hcl hcs;have HC:=A5 (fun w=>MS s 44 44 w rfl (by omega));have HF:Hid (FD AI (B8 · b) s.data.toList=CG AI (B8 · b) (cutAt 44 s.data.toList) []):=A5 rfl;rw [HF.out];generalize cutAt 44 s.data.toList=ps at *;clear HF;go_enter func135,ntmps135;go_wp2_with fail;refine (HC.out _).mono ?_;rintro e w1 ⟨v,rfl,hown,hb1⟩;obtain ⟨A,cap,rfl,hrow,hcap⟩:=BY.row hown;have HR:=A5 hrow;have HB1:=A5 hb1;clear hown hrow hb1;go_wp2_with fail
 go_loopw [7,8,9,10] (fun v i _ _ wr=>∃ (j:Nat) (k:List Int),j<=ps.length/\i=.int .i64 j/\BV wr w.heap.size v k/\Hid (CG AI (B8 · b) (ps.take j) []=some k)/\Below w1.heap.size w1 wr) (fun _ i _ _ _=>ps.length-(intOf i).toNat)
 case atStart=>exact ⟨0,[],Nat.zero_le _,rfl,KQ _ _,A5 rfl,start _⟩
 case round =>
  obtain ⟨j,k,hj,rfl,hown,HK,hbw⟩:=hrel;have HO:=A5 hown;have HBR:=A5 hbw;have HBW:=A5 (andthen HB1.out hbw);clear hown hbw
  by_cases hlt:j<ps.length
  ·obtain ⟨b1,o1,rfl,hb1,hc1⟩:=HR.out (by intro h0;rw [h0] at hlt;exact absurd hlt (Nat.not_lt_zero _));obtain ⟨T,hm⟩:∃ T,ps[j]=T:=⟨_,rfl⟩;have p1:wr.cell? ⟨b1,o1+j,none⟩=some (.string (str T)):=by rw [<- hm];exact (HBR.out.cell (p:=⟨b1,_,none⟩) hb1).trans (hc1 j hlt)
   have hi0:(0:Int)<=(j:Int):=by omega
   have hi1:(j:Int)<(ps.length:Int):=by omega
   have hT:(str T).size<=100000:=by rw [AB,<- hm];exact Nat.le_trans (hcs _ (List.getElem_mem hlt)) (by omega)
   have HD:=A5 (fun w=>MT (str T) b w hT);have hkl:k.length<=10000:=by have:=JJ _ _ _ HK.out;rw [List.length_take,List.length_nil] at this;omega
   rw [AD] at HD;clear hc1
   cases hd:B8 T b with
   | none =>
    rw [BG hd] at HD;have HN:Hid (CG AI (B8 · b) ps []=none):=A5 (EK hlt HK.out (by rw [hm];simp only [hd]));clear hm hd;go_wp2_with fail;refine (HD.out _).mono ?_;rintro e w2 ⟨rfl,rfl⟩;go_wp2_with fail;go_ret2;exact ⟨HBW.out,Or.inl ⟨HN.out,rfl⟩⟩
   | some x =>
    rw [EO hd] at HD;obtain ⟨A2,cap2,rfl,hrow2⟩:=BV.row HO.out;have HP:=A5 (fun w h=>A0U x A2 _ cap2 k w h rfl (by omega));have HRW:=A5 hrow2;clear hrow2;go_wp2_with fail;refine (HD.out _).mono ?_;rintro e w2 ⟨rfl,rfl⟩;go_wp2_with fail;refine (HP.out _ HRW.out).mono ?_;rintro e w3 ⟨hb3,⟨hnone,v3,rfl⟩|⟨k2,v3,hsome,rfl,hown3⟩⟩
    ·have HN:Hid (CG AI (B8 · b) ps []=none):=A5 (EK hlt HK.out (by rw [hm];simp only [hd];exact hnone));replace HBW:=A5 (andthen HBW.out hb3);clear hm hd hb3 hnone;go_wp2_with fail;go_ret2;exact ⟨HBW.out,Or.inl ⟨HN.out,rfl⟩⟩
    ·have HN:Hid (CG AI (B8 · b) (ps.take (j+1)) []=some k2):=A5 (by
      rw [List.take_succ_eq_append_getElem hlt,GA _ _ _ HK.out,hm];simp only [hd];exact hsome)
     have HO3:=A5 (hown3.qW HBW.out.size);replace HBR:=A5 (andthen HBR.out hb3);clear hm hd hb3 hsome hown3;go_wp2_with fail
     go_roundw
     case rel=>exact ⟨j+1,k2,by omega,by go_num,HO3.out,HN,HBR.out⟩
     case measure=>simp [intOf];omega
  ·obtain rfl:j=ps.length:=by omega
   rw [List.take_length] at HK;go_wp2_with fail;go_ret2;exact ⟨HBW.out,Or.inr ⟨_,_,HK.out,rfl,HO.out⟩⟩
def MayD (w:World) (o:Option Wd) (e:Ending) (w':World):Prop:=Below w.heap.size w w'/\∃ n d:Int,(∀ m,o=some m->(n,d)=m)/\e=.returned (.tuple #[.agg #[.int .i64 n,.int .i64 d],.bool o.isSome])
structure WdW (w:World) (X:Nat) (n m:Int) (W:World):Prop where
 r0:W.cell? ⟨w.heap.size,0,none⟩=some (.int .i64 0)
 r1:W.cell? ⟨w.heap.size,1,none⟩=some (.int .i64 0)
 x0:W.cell? ⟨X,0,none⟩=some (.int .i64 n)
 x1:W.cell? ⟨X,1,none⟩=some (.int .i64 m)
 fr0:W.frozen? ⟨w.heap.size,0,none⟩=false
 fr1:W.frozen? ⟨w.heap.size,1,none⟩=false
 fx0:W.frozen? ⟨X,0,none⟩=false
 fx1:W.frozen? ⟨X,1,none⟩=false
 gt:w.heap.size<X
 below:Below w.heap.size w W
theorem WdW.ltx {w W:World} {X:Nat} {n m:Int} (h:WdW w X n m W):X<W.heap.size:=block_lt_of_cell h.x0
theorem WdW.ltr {w W:World} {X:Nat} {n m:Int} (h:WdW w X n m W):w.heap.size<W.heap.size:=block_lt_of_cell h.r0
theorem WdW.keep {w W W1:World} {X:Nat} {n m:Int} (h:WdW w X n m W) (hb:Below W.heap.size W W1):WdW w X n m W1 :=
 ⟨A9 hb h.r0,A9 hb h.r1,A9 hb h.x0,A9 hb h.x1,(hb.frozen (p:=⟨w.heap.size,0,none⟩) h.ltr).trans h.fr0,(hb.frozen (p:=⟨w.heap.size,1,none⟩) h.ltr).trans h.fr1,(hb.frozen (p:=⟨X,0,none⟩) h.ltx).trans h.fx0,(hb.frozen (p:=⟨X,1,none⟩) h.ltx).trans h.fx1,h.gt,andthen h.below hb⟩
theorem mM {W:World} {b i:Nat} {x y:Value} (h:W.cell? ⟨b,i,none⟩=some x):(W.setCell ⟨b,i,none⟩ y).cell? ⟨b,i,none⟩=some y:=World.cell?_setCell_same _ _ _ h
theorem SL {W:World} {b c i j:Nat} {x y:Value} (hn:b≠c∨i≠j) (h:W.cell? ⟨b,i,none⟩=some x):(W.setCell ⟨c,j,none⟩ y).cell? ⟨b,i,none⟩=some x :=
 (World.cell?_setCell_other _ _ _ _ (by intro hc;injection hc with h1 h2;omega)).trans h
theorem SM {W:World} {b c i j:Nat} {y:Value} (h:W.frozen? ⟨b,i,none⟩=false):(W.setCell ⟨c,j,none⟩ y).frozen? ⟨b,i,none⟩=false:=by rw [World.frozen?_setCell];exact h
theorem WdW.set1 {w W:World} {X:Nat} {n m:Int} (h:WdW w X n m W) (k:Int):WdW w X n k (W.setCell ⟨X,1,none⟩ (.int .i64 k)):=by
 have:=h.gt;exact ⟨SL (Or.inl (by omega)) h.r0,SL (Or.inl (by omega)) h.r1,SL (Or.inr (by omega)) h.x0,mM h.x1,SM h.fr0,SM h.fr1,SM h.fx0,SM h.fx1,h.gt,h.below.setCell (Nat.le_of_lt h.gt) _⟩
theorem WdW.set0 {w W:World} {X:Nat} {n m:Int} (h:WdW w X n m W) (k:Int):WdW w X k m (W.setCell ⟨X,0,none⟩ (.int .i64 k)):=by
 have:=h.gt;exact ⟨SL (Or.inl (by omega)) h.r0,SL (Or.inl (by omega)) h.r1,mM h.x0,SL (Or.inr (by omega)) h.x1,SM h.fr0,SM h.fr1,SM h.fx0,SM h.fx1,h.gt,h.below.setCell (Nat.le_of_lt h.gt) _⟩
theorem A0V (w:World) (t:TypeId) (m:Int):WdW w (w.heap.size+1) 0 m ((w.alloc (.cells #[.int .i64 0,.int .i64 0] t)).alloc (.cells #[.int .i64 0,.int .i64 m] t)):=by
 refine ⟨?_,?_,?_,?_,?_,?_,?_,?_,by omega,more (more (start _) _) _⟩
 ·rw [World.cell?_alloc_past _ _ _ (by simp),World.cell?_alloc_at _ _ _ _ rfl];rfl
 ·rw [World.cell?_alloc_past _ _ _ (by simp),World.cell?_alloc_at _ _ _ _ rfl];rfl
 ·rw [World.cell?_alloc_at _ _ _ _ (by simp)];rfl
 ·rw [World.cell?_alloc_at _ _ _ _ (by simp)];rfl
 all_goals simp
def jS (w:World) (n m:Int) (W:World):Prop:=W.cell? ⟨w.heap.size,0,none⟩=some (.int .i64 n)/\W.cell? ⟨w.heap.size,1,none⟩=some (.int .i64 m)/\Below w.heap.size w W
theorem WdW.res {w W:World} {X:Nat} {n m:Int} (h:WdW w X n m W) (a b:Int):jS w a b ((W.setCell ⟨w.heap.size,0,none⟩ (.int .i64 a)).setCell ⟨w.heap.size,1,none⟩ (.int .i64 b)) :=
 ⟨SL (Or.inr (by omega)) (mM h.r0),mM (SL (Or.inr (by omega)) h.r1),(h.below.setCell (Nat.le_refl _) _).setCell (Nat.le_refl _) _⟩
theorem xX (w:World) (t:TypeId):jS w 0 0 (w.alloc (.cells #[.int .i64 0,.int .i64 0] t)):=by
 refine ⟨?_,?_,more (start _) _⟩
 all_goals (rw [World.cell?_alloc_at _ _ _ _ rfl];rfl)
theorem IQ {w:World} {p q i:Nat} {u x0 x1:Value} (h:p<q) (c:w.cell? ⟨q,i,none⟩=some u) :
  ((w.setCell ⟨p,0,none⟩ x0).setCell ⟨p,1,none⟩ x1).cell? ⟨q,i,none⟩=some u:=by
 repeat rw [World.cell?_setCell_other _ _ _ _ (by intro hc;injection hc with hc1;omega)]
 exact c
def VJ (L:Tx) (j:Nat) (m:Int):Prop:=(m=-1/\∀ i,i<j->BI.getD i []≠L)∨∃ k:Nat,k<j/\k<7/\m=(k:Int)/\BI.getD k []=L
theorem VJ.bd {L:Tx} {j:Nat} {m:Int} (h:VJ L j m):-1<=m/\m<=6:=by
 rcases h with ⟨h,_⟩|⟨k,_,h,g,_⟩ <;> omega
theorem VJ.ix {L:Tx} {m:Int} (h:VJ L 7 m):F2 BI L=if 0<=m then some m.toNat else none:=by
 rcases h with ⟨rfl,h⟩|⟨k,_,h7,rfl,rfl⟩
 ·rw [if_neg (by omega)]
  cases hx:F2 BI L with
  | none=>rfl
  | some k =>
   have h1:=FO hx;have h2:k<7:=(List.getElem?_eq_some_iff.1 h1).1;exact absurd (by rw [List.getD_eq_getElem?_getD,h1];rfl) (h k h2)
 ·rw [if_pos (by omega),Int.toNat_natCast];have:∀ k:Nat,k<7->F2 BI (BI.getD k [])=some k:=by decide
  exact this k h7
theorem day_0 (j:Nat) (h:j<7):CC (0,(j:Int))=BI.getD j []:=by
 unfold CC;rw [if_pos (show 0<=(j:Int)/\(j:Int)<7 from ⟨by omega,by omega⟩),if_pos rfl,Int.toNat_natCast];rfl
theorem Y3 (j:Nat) (h:j<7):(BI.getD j []).length=2:=by
 have:∀ k:Nat,k<7->(BI.getD k []).length=2:=by decide
 exact this j h
theorem qX (f:Tx->Option Int) (t:Tx) (h:t.length<2):BH f t=none:=by
 have hx:F2 BI (t.drop (t.length-2))=none:=by
  cases hx:F2 BI (t.drop (t.length-2)) with
  | none=>rfl
  | some k =>
   have h1:=FO hx;have h7:k<7:=(List.getElem?_eq_some_iff.1 h1).1;have hl:=Y3 k h7;rw [List.getD_eq_getElem?_getD,h1] at hl;simp only [Option.getD_some,List.length_drop] at hl;omega
 unfold BH;rw [hx]
theorem A0W (f:Tx->Option Int) (t:Tx) (m:Int) (hl:t.length=2) (h:F2 BI (t.drop (t.length-2))=if 0<=m then some m.toNat else none):BH f t=if 0<=m then some (0,m) else none:=by
 unfold BH;rw [h]
 by_cases hm:0<=m
 ·rw [if_pos hm,if_pos hm];simp only;rw [if_pos hl,Int.toNat_of_nonneg hm]
 ·rw [if_neg hm,if_neg hm]
theorem xY (f:Tx->Option Int) (t:Tx) (m:Int) (hl:t.length≠2) (h:F2 BI (t.drop (t.length-2))=if 0<=m then some m.toNat else none):BH f t=match f (t.take (t.length-2)) with
  | none=>none
  | some n=>if n=0 then none else if 0<=m then some (n,m) else none:=by
 unfold BH;rw [h]
 by_cases hm:0<=m
 ·rw [if_pos hm];simp only;rw [if_neg hl,Int.toNat_of_nonneg hm]
  cases f (t.take (t.length-2)) with
  | none=>rfl
  | some n=>simp only;rw [if_pos hm]
 ·rw [if_neg hm];simp only
  cases f (t.take (t.length-2)) with
  | none=>rfl
  | some n=>simp only;rw [if_neg hm];split <;> rfl
theorem mN {w w':World} {o:Option Wd} {n m:Int} (ho:o=if 0<=m then some (n,m) else none) (hb:Below w.heap.size w w'):MayD w o (.returned (.tuple #[.agg #[.int .i64 n,.int .i64 m],.bool (decide (0<=m))])) w':=by
 refine ⟨hb,n,m,fun x hx=>?_,?_⟩
 ·rw [ho] at hx
  split at hx
  ·injection hx
  ·cases hx
 ·rw [ho]
  by_cases hm:0<=m
  ·rw [if_pos hm,z0H hm];rfl
  ·rw [if_neg hm,z0G hm];rfl
theorem fH (s:ByteArray) (w:World) (hs:s.size<2) :
  Calls prog 212 #[.string s] w (MayD w (BH (B8 · true) s.data.toList)):=by
 have HO:=A5 (qX (B8 · true) s.data.toList (by rw [AE];exact hs));rw [HO.out];have q:decide ((s.size:Int)<2)=true:=z0H (by omega);have HN:=A5 (xX w 114);go_enter func212,ntmps212;go_wp2_with fail;refine B6 (jS w 0 0) HN.out ?_;rintro WF ⟨c0,c1,hb⟩;exact bodyPost_ret (v:=.tuple #[.agg #[.int .i64 0,.int .i64 0],.bool false]) (by simp [results,Tryz.results212,go_sem,c0,c1]) rfl ⟨hb,0,0,fun m hm=>(by cases hm),rfl⟩
theorem jT (s:ByteArray) (w:World) (hs:2<=s.size) (hs2:s.size<=9000) :
  Calls prog 212 #[.string s] w (MayD w (BH (B8 · true) s.data.toList)):=by
 obtain ⟨k,hk⟩:∃ k,s.size=k+2:=⟨s.size-2,by omega⟩;have HN:=A5 (A0V w 114 (-1));have q:decide ((s.size:Int)<2)=false:=z0G (by omega);have hk2:(s.size:Int)-2=(k:Int):=by omega
 have hkz:(0:Int)<=(k:Int):=by omega
 have hks:(k:Int)<=(s.size:Int):=by omega
 have hL:=I6 s k;have hP:=GO s 0 k;rw [List.drop_zero] at hP;have htl:s.data.toList.length-2=k:=by rw [AE];omega
 have HTW:=A5 (fun m hl h=>A0W (B8 · true) s.data.toList m hl h);have HMO:=A5 (fun m hl h=>xY (B8 · true) s.data.toList m hl h);rw [htl] at HTW HMO;have hlen:=AE s;have HD:=A5 (fun w=>MT (str (s.data.toList.take k)) true w (by rw [AB,List.length_take];omega));rw [AD] at HD;obtain ⟨O,hO⟩:∃ O,BH (B8 · true) s.data.toList=O:=⟨_,rfl⟩;rw [hO] at HTW HMO ⊢;generalize s.data.toList.drop k=L at *;generalize s.data.toList.take k=P at *;rw [hk] at hL;have HL:=A5 hL;have HP:=A5 hP;have q':decide ((k:Int)+2<2)=false:=z0G (by omega);clear hL hP htl hO;go_enter func212,ntmps212;go_wp2_with fail;obtain ⟨X,hX⟩:∃ X,w.heap.size+1=X:=⟨_,rfl⟩;rw [hX] at HN ⊢;generalize (w.alloc (.cells #[.int .i64 0,.int .i64 0] 114)).alloc (.cells #[.int .i64 0,.int .i64 (-1)] 114)=W0 at *
 go_loopw [5] (fun i wr=>∃ (j:Nat) (m:Int),j<=7/\i=.int .i64 j/\WdW w X 0 m wr/\Hid (VJ L j m)) (fun i _=>7-(intOf i).toNat)
 case atStart=>exact ⟨0,-1,Nat.zero_le _,rfl,HN.out,A5 (Or.inl ⟨rfl,fun i h=>absurd h (Nat.not_lt_zero _)⟩)⟩
 case round =>
  obtain ⟨j,m,hj,rfl,hw,HA⟩:=hrel;have HW:=A5 hw;clear hw HN
  by_cases hlt:j<7
  ·have hi0:(0:Int)<=(j:Int):=by omega
   have hi1:(j:Int)<7:=by omega
   have HC:=A5 (fun w=>fL 0 (j:Int) w (by omega) (by omega));rw [day_0 j hlt] at HC;have hl2:=Y3 j hlt
   by_cases hq:BI.getD j []=L
   ·have HN:Hid (VJ L (j+1) (j:Int)):=A5 (Or.inr ⟨j,by omega,hlt,rfl,hq⟩);have e:(BI.getD j []==L)=true:=by rw [AO];exact z0H hq
    generalize BI.getD j []=D at *;have q1:=AH D;have q2:=AH L;have hsL2:=HL.out;clear hq;go_wp2_with fail;refine wp_region_quiet_below (by kernel_rfl) (by kernel_rfl) ?_
    repeat (first|go_big_quiet_step ((first|(go_at_call 68;exact Calls.regrown_of (HC.out _))))|quiet_step ((first|(go_at_call 68;exact Calls.regrown_of (HC.out _)))))
    refine wpQuiet_nil ?_;intro _ hw';obtain ⟨⟨nq,osq⟩,hw''⟩:=hw';subst hw'';have hq2:=below_regrown wr nq osq;generalize grow (redrawn wr nq) osq=wr2 at *;replace HW:=A5 (HW.out.keep hq2);have x0:=HW.out.x0;have x1:=HW.out.x1;have f1:=HW.out.fx1;clear hq2;go_wp2_with fail
    go_roundw
    case rel=>exact ⟨j+1,(j:Int),by omega,by go_num,HW.out.set1 _,HN⟩
    case measure=>simp [intOf];omega
   ·have HN:Hid (VJ L (j+1) m):=A5 (by
     rcases HA.out with ⟨h1,h2⟩|⟨k,h1,h2,h3,h4⟩
     ·refine Or.inl ⟨h1,fun i hi=>?_⟩;rcases Nat.lt_or_ge i j with g|g
      ·exact h2 i g
      ·obtain rfl:i=j:=by omega
       exact hq
     ·exact Or.inr ⟨k,by omega,h2,h3,h4⟩)
    have e:(BI.getD j []==L)=false:=by rw [AO];exact z0G hq
    generalize BI.getD j []=D at *;have q1:=AH D;have q2:=AH L;have hsL2:=HL.out;clear hq;go_wp2_with fail;refine wp_region_quiet_below (by kernel_rfl) (by kernel_rfl) ?_
    repeat (first|go_big_quiet_step ((first|(go_at_call 68;exact Calls.regrown_of (HC.out _))))|quiet_step ((first|(go_at_call 68;exact Calls.regrown_of (HC.out _)))))
    refine wpQuiet_nil ?_;intro _ hw';obtain ⟨⟨nq,osq⟩,hw''⟩:=hw';subst hw'';have hq2:=below_regrown wr nq osq;generalize grow (redrawn wr nq) osq=wr2 at *;replace HW:=A5 (HW.out.keep hq2);clear hq2;go_wp2_with fail
    go_roundw
    case rel=>exact ⟨j+1,m,by omega,by go_num,HW.out,HN⟩
    case measure=>simp [intOf];omega
  ·obtain rfl:j=7:=by omega
   have hix:=HA.out.ix;have hbd:=HA.out.bd;have x0:=HW.out.x0;have x1:=HW.out.x1;have r0:=HW.out.r0;have r1:=HW.out.r1;have fr0:=HW.out.fr0;have fr1:=HW.out.fr1;have fx0:=HW.out.fx0;have gt:=HW.out.gt
   by_cases h2:k=0
   ·have HF:=A5 (HTW.out m (by omega) hix);have g2:decide ((2:Int)<(k:Int)+2)=false:=z0G (by omega);clear hix h2;go_wp2_with fail
    go_region_held3 (fun w'=>w'.cell? ⟨X,0,none⟩=some (.int .i64 0)/\w'.cell? ⟨X,1,none⟩=some (.int .i64 m)) (first|with_reducible exact ⟨A9 (start _).drew x0,A9 (start _).drew x1⟩|with_reducible exact ⟨IQ gt x0,IQ gt x1⟩|with_reducible exact ⟨A9 (start _).drew (IQ gt x0),A9 (start _).drew (IQ gt x1)⟩|with_reducible exact ⟨IQ gt (by assumption),IQ gt (by assumption)⟩|with_reducible exact ⟨A9 (start _).drew (by assumption),A9 (start _).drew (by assumption)⟩) (fail)
    go_wp2_with fail;refine B6 (jS w 0 m) (HW.out.keep (start _).drew |>.res 0 m) ?_;rintro WF ⟨c0,c1,hb⟩;exact bodyPost_ret (v:=.tuple #[.agg #[.int .i64 0,.int .i64 m],.bool (decide (0<=m))]) (by simp [results,Tryz.results212,go_sem,c0,c1]) rfl (mN HF.out hb)
   ·have hmo:=HMO.out m (by omega) hix;have g2:decide ((2:Int)<(k:Int)+2)=true:=z0H (by omega);have hsP2:=HP.out;clear hix h2
    cases hd:B8 P true with
    | none =>
     rw [hd] at hmo;rw [BG hd] at HD;have HF:Hid (O=none):=A5 hmo;clear hmo hd;go_wp2_with fail;refine (HD.out _).mono ?_;rintro e w2 ⟨rfl,rfl⟩;go_wp2_with fail;refine B6 (jS w 0 m) (HW.out.res 0 m) ?_;rintro WF ⟨c0,c1,hb⟩;exact bodyPost_ret (v:=.tuple #[.agg #[.int .i64 0,.int .i64 m],.bool false]) (by simp [results,Tryz.results212,go_sem,c0,c1]) rfl ⟨hb,0,m,fun x hx=>(by rw [HF.out] at hx;cases hx),by rw [HF.out];rfl⟩
    | some n =>
     rw [hd] at hmo;rw [EO hd] at HD;simp only at hmo;clear hd
     by_cases hn:n=0
     ·rw [if_pos hn] at hmo;have HF:Hid (O=none):=A5 hmo;have qn:(n==0)=true:=beq_iff_eq.2 hn;clear hmo hn;go_wp2_with fail;refine (HD.out _).mono ?_;rintro e w2 ⟨rfl,rfl⟩;go_wp2_with fail;refine B6 (jS w 0 m) (HW.out.res 0 m) ?_;rintro WF ⟨c0,c1,hb⟩;exact bodyPost_ret (v:=.tuple #[.agg #[.int .i64 0,.int .i64 m],.bool false]) (by simp [results,Tryz.results212,go_sem,c0,c1]) rfl ⟨hb,0,m,fun x hx=>(by rw [HF.out] at hx;cases hx),by rw [HF.out];rfl⟩
     ·rw [if_neg hn] at hmo;have HF:=A5 hmo;have qn:(n==0)=false:=beq_eq_false_iff_ne.2 hn;clear hmo hn;go_wp2_with fail;refine (HD.out _).mono ?_;rintro e w2 ⟨rfl,rfl⟩
      go_upto_region 14 with fail
      have hW:=HW.out.set0 n;have x0:=hW.x0;have x1:=hW.x1;have fr0:=hW.fr0;have fr1:=hW.fr1;have r0:=hW.r0;have r1:=hW.r1;replace HW:=A5 hW;generalize wr.setCell ⟨X,0,none⟩ (.int .i64 n)=w2 at *;clear hW
      go_region_held3 (fun w'=>w'.cell? ⟨X,0,none⟩=some (.int .i64 n)/\w'.cell? ⟨X,1,none⟩=some (.int .i64 m)) (first|with_reducible exact ⟨A9 (start _).drew x0,A9 (start _).drew x1⟩|with_reducible exact ⟨IQ gt x0,IQ gt x1⟩|with_reducible exact ⟨A9 (start _).drew (IQ gt x0),A9 (start _).drew (IQ gt x1)⟩|with_reducible exact ⟨IQ gt (by assumption),IQ gt (by assumption)⟩|with_reducible exact ⟨A9 (start _).drew (by assumption),A9 (start _).drew (by assumption)⟩) (fail)
      go_wp2_with fail;refine B6 (jS w n m) (HW.out.keep (start _).drew |>.res n m) ?_;rintro WF ⟨c0,c1,hb⟩;exact bodyPost_ret (v:=.tuple #[.agg #[.int .i64 n,.int .i64 m],.bool (decide (0<=m))]) (by simp [results,Tryz.results212,go_sem,c0,c1]) rfl (mN HF.out hb)
theorem qY (s:ByteArray) (w:World) (hs:s.size<=9000) :
  Calls prog 212 #[.string s] w (MayD w (BH (B8 · true) s.data.toList)):=by
 by_cases h:s.size<2
 ·exact fH s w h
 ·exact jT s w (by omega) hs
def DaysA (w:World) (o:Option (List Wd)) (e:Ending) (w':World):Prop:=Below w.heap.size w w' ∧
 ((o=none/\e=.returned (.tuple #[.slice none 0 0,.bool false]))∨∃ l v,o=some l/\e=.returned (.tuple #[v,.bool true])/\DO w' w.heap.size v l)
theorem DO.qW {w:World} {B B2:Nat} {v:Value} {l:List Wd} (h:DO w B v l) (hb:B2<=B):DO w B2 v l:=by
 refine ⟨h.1,?_⟩;rcases h.2 with g|⟨g,cap,cur,e,hg,r⟩
 ·exact Or.inl g
 ·exact Or.inr ⟨g,cap,cur,e,Nat.le_trans hb hg,r⟩
theorem A1R {a b:Wd} (h:¬ (a.1=b.1/\a.2=b.2)):a≠b:=fun e=>h (by rw [e];exact ⟨rfl,rfl⟩)
theorem jU (s:ByteArray) (w:World) (hs:s.size<=9000) :
  Calls prog 197 #[.string s] w (DaysA w (FD BO (BH (B8 · true)) s.data.toList)):=by
 have hcl:=G8 44 s.data.toList;have hcs:=KP 44 s.data.toList;rw [AE] at hcl hcs;have HC:=A5 (fun w=>MS s 44 44 w rfl (by omega));have HF:Hid (FD BO (BH (B8 · true)) s.data.toList=CG BO (BH (B8 · true)) (cutAt 44 s.data.toList) []):=A5 rfl;rw [HF.out];generalize cutAt 44 s.data.toList=ps at *;clear HF;go_enter func197,ntmps197;go_wp2_with fail;refine (HC.out _).mono ?_;rintro e w1 ⟨v,rfl,hown,hb1⟩;obtain ⟨A,cap,rfl,hrow,hcap⟩:=BY.row hown;have HR:=A5 hrow;have HB1:=A5 hb1;clear hown hrow hb1;go_wp2_with fail
 go_loopw [5,6,7,8,9,10,11] (fun v i _ _ _ _ _ wr=>∃ (j:Nat) (k:List Wd),j<=ps.length/\i=.int .i64 j/\DO wr w.heap.size v k/\Hid (CG BO (BH (B8 · true)) (ps.take j) []=some k)/\Below w1.heap.size w1 wr) (fun _ i _ _ _ _ _ _=>ps.length-(intOf i).toNat)
 case atStart=>exact ⟨0,[],Nat.zero_le _,rfl,Q5 _ _,A5 rfl,start _⟩
 case round =>
  obtain ⟨j,k,hj,rfl,hown,HK,hbw⟩:=hrel;have HO:=A5 hown;have HBR:=A5 hbw;have HBW:=A5 (andthen HB1.out hbw);clear hown hbw
  by_cases hlt:j<ps.length
  ·obtain ⟨b1,o1,rfl,hb1,hc1⟩:=HR.out (by intro h0;rw [h0] at hlt;exact absurd hlt (Nat.not_lt_zero _));obtain ⟨T,hm⟩:∃ T,ps[j]=T:=⟨_,rfl⟩;have p1:wr.cell? ⟨b1,o1+j,none⟩=some (.string (str T)):=by rw [<- hm];exact (HBR.out.cell (p:=⟨b1,_,none⟩) hb1).trans (hc1 j hlt)
   have hi0:(0:Int)<=(j:Int):=by omega
   have hi1:(j:Int)<(ps.length:Int):=by omega
   have hT:(str T).size<=9000:=by rw [AB,<- hm];exact Nat.le_trans (hcs _ (List.getElem_mem hlt)) (by omega)
   have HD:=A5 (fun w=>qY (str T) w hT);have hkl:k.length<=10000:=by have:=JJ _ _ _ HK.out;rw [List.length_take,List.length_nil] at this;omega
   rw [AD] at HD;clear hc1;go_wp2_with fail;refine (HD.out _).mono ?_;rintro e w2 ⟨hb2,n,d,hnd,rfl⟩;replace HBR:=A5 (andthen HBR.out hb2);replace HBW:=A5 (andthen HBW.out hb2);replace HO:=A5 (HO.out.keep hb2);clear hb2 p1
   cases hd:BH (B8 · true) T with
   | none =>
    rw [hd] at hnd;have HN:Hid (CG BO (BH (B8 · true)) ps []=none):=A5 (EK hlt HK.out (by rw [hm];simp only [hd]));simp only [Option.isSome_none];replace HBW:=A5 (more HBW.out (.cells #[.int .i64 n,.int .i64 d] 114));clear hm hd hnd;go_wp2_with fail;go_ret2;exact ⟨HBW.out,Or.inl ⟨HN.out,rfl⟩⟩
   | some x =>
    rw [hd] at hnd;have hx:=hnd x rfl;subst hx;simp only [Option.isSome_some];have HNX:Hid (∀ k2,PZ BO (n,d) k=k2->(k2=none->CG BO (BH (B8 · true)) ps []=none)/\(∀ k3,k2=some k3->CG BO (BH (B8 · true)) (ps.take (j+1)) []=some k3)):=A5 (fun k2 h=>by
     subst h;refine ⟨fun hn=>EK hlt HK.out (by rw [hm];simp only [hd];exact hn),fun k3 h3=>?_⟩;rw [List.take_succ_eq_append_getElem hlt,GA _ _ _ HK.out,hm];simp only [hd];exact h3)
    obtain ⟨X,hX⟩:∃ X,w2.heap.size=X:=⟨_,rfl⟩;have hz2:w.heap.size<=X:=by rw [<- hX];exact HBW.out.size
    have x0:(w2.alloc (.cells #[.int .i64 n,.int .i64 d] 114)).cell? ⟨X,0,none⟩=some (.int .i64 n):=by subst hX;rw [World.cell?_alloc_at _ _ _ _ rfl];rfl
    have x1:(w2.alloc (.cells #[.int .i64 n,.int .i64 d] 114)).cell? ⟨X,1,none⟩=some (.int .i64 d):=by subst hX;rw [World.cell?_alloc_at _ _ _ _ rfl];rfl
    have hbx:=more (start w2) (.cells #[.int .i64 n,.int .i64 d] 114);replace HBR:=A5 (andthen HBR.out hbx);replace HBW:=A5 (andthen HBW.out hbx);replace HO:=A5 (HO.out.keep hbx);have HX:=A5 (And.intro x0 x1);obtain ⟨A2,cap2,rfl,hrow2⟩:=DO.row HO.out;have HRW:=A5 hrow2;clear hm hd hnd hbx hrow2 x0 x1 HD;go_wp2_with fail;generalize w2.alloc (.cells #[.int .i64 n,.int .i64 d] 114)=W5 at *;have hXlt:X<W5.heap.size:=block_lt_of_cell HX.out.1
    go_loopw [9,10,11] (fun v b i wr=>∃ (q:Nat) (out:List Wd) (f:Bool),q<=k.length/\i=.int .i64 q/\b=.bool f/\DO wr W5.heap.size v out/\Hid (DJ BO (n,d) k q out f)/\Hid (out.length<=q+1)/\Below W5.heap.size W5 wr) (fun _ _ i _=>k.length-(intOf i).toNat)
    case atStart=>exact ⟨0,[],false,Nat.zero_le _,rfl,rfl,Q5 _ _,A5 (DJ.zero BO (n,d) k),A5 (Nat.zero_le _),start _⟩
    case round =>
     obtain ⟨q,out,f,hq,rfl,rfl,hown,HP,HL,hbq⟩:=hrel;have HOQ:=A5 hown;have HBQ:=A5 hbq;clear hown hbq
     by_cases hqt:q<k.length
     ·obtain ⟨b2,o2,rfl,hb2,hc2⟩:=HRW.out (by intro h0;rw [h0] at hqt;exact absurd hqt (Nat.not_lt_zero _));obtain ⟨m,hm⟩:∃ m,k[q]=m:=⟨_,rfl⟩;obtain ⟨y1,y2⟩:=m;have hc:=hc2 q hqt;rw [hm] at hc;simp only at hc;have HPC:=A5 hc;have hi2:(0:Int)<=(q:Int):=by omega
      have hi3:(q:Int)<(k.length:Int):=by omega
      clear hc hc2;have p0:wr.cell? ⟨b2,o2+q*2,none⟩=some (.int .i64 y1):=((HBQ.out).cell (p:=⟨b2,o2+q*2,none⟩) hb2).trans HPC.out.1;have p1:wr.cell? ⟨b2,o2+q*2+1,none⟩=some (.int .i64 y2):=((HBQ.out).cell (p:=⟨b2,o2+q*2+1,none⟩) hb2).trans HPC.out.2;have x0:wr.cell? ⟨X,0,none⟩=some (.int .i64 n):=((HBQ.out).cell (p:=⟨X,0,none⟩) hXlt).trans HX.out.1;have x1:wr.cell? ⟨X,1,none⟩=some (.int .i64 d):=((HBQ.out).cell (p:=⟨X,1,none⟩) hXlt).trans HX.out.2
      by_cases he1:y1=n
      ·by_cases he2:y2=d
       ·have e1:(y1==n)=true:=beq_iff_eq.2 he1;have e2:(y2==d)=true:=beq_iff_eq.2 he2;have HN:Hid (PZ BO (n,d) k=none):=A5 (ZH (by have h:=List.getElem_mem hqt;rw [hm,he1,he2] at h;exact h));have HNN:=A5 ((HNX.out _ rfl).1 HN.out);clear hm he1 he2;go_wp2_with fail;go_quiet (fail);go_wp2_with fail;go_ret2;exact ⟨AJ (andthen HBW.out HBQ.out) _,Or.inl ⟨HNN.out,rfl⟩⟩
       ·have e1:(y1==n)=true:=beq_iff_eq.2 he1;have e2:(y2==d)=false:=beq_eq_false_iff_ne.2 he2;have hne:k[q]≠(n,d):=by rw [hm];exact A1R (fun h=>he2 h.2)
        clear he1 he2;go_wp2_with fail;go_quiet (fail);have HB2:=A5 (AJ HBQ.out nq);have HO2:=A5 (HOQ.out.keep (AJ (start wr) nq));generalize wr.drewN nq=wq2 at *;clear p0 p1 x0 x1;have p0:wq2.cell? ⟨b2,o2+q*2,none⟩=some (.int .i64 y1):=((HB2.out).cell (p:=⟨b2,o2+q*2,none⟩) hb2).trans HPC.out.1;have p1:wq2.cell? ⟨b2,o2+q*2+1,none⟩=some (.int .i64 y2):=((HB2.out).cell (p:=⟨b2,o2+q*2+1,none⟩) hb2).trans HPC.out.2;have x0:wq2.cell? ⟨X,0,none⟩=some (.int .i64 n):=((HB2.out).cell (p:=⟨X,0,none⟩) hXlt).trans HX.out.1;have x1:wq2.cell? ⟨X,1,none⟩=some (.int .i64 d):=((HB2.out).cell (p:=⟨X,1,none⟩) hXlt).trans HX.out.2;go_wp2_with fail;have f0:=fun d os=>cell_regrown p0 d os
        have f1:=fun d os=>cell_regrown p1 d os
        have f2:=fun d os=>cell_regrown x0 d os
        have f3:=fun d os=>cell_regrown x1 d os
        clear p0 p1 x0 x1
        cases f with
        | true =>
         have HN:Hid (DJ BO (n,d) k (q+1) (out++[(y1,y2)]) true):=A5 (by have:=HP.out.past hqt hne;rwa [hm] at this);refine wp_region_quiet_below (by kernel_rfl) (by kernel_rfl) ?_
         repeat (first|go_big_quiet_step ((first|fail))|quiet_step ((first|fail)))
         refine wpQuiet_nil ?_;intro _ hw';obtain ⟨⟨nq,osq⟩,hw''⟩:=hw';subst hw'';have hq2:=below_regrown wq2 nq osq;generalize grow (redrawn wq2 nq) osq=wq3 at *;replace HB2:=A5 (andthen HB2.out hq2);replace HO2:=A5 (HO2.out.keep hq2);clear hq2 f0 f1 f2 f3;have p0:wq3.cell? ⟨b2,o2+q*2,none⟩=some (.int .i64 y1):=((HB2.out).cell (p:=⟨b2,o2+q*2,none⟩) hb2).trans HPC.out.1;have p1:wq3.cell? ⟨b2,o2+q*2+1,none⟩=some (.int .i64 y2):=((HB2.out).cell (p:=⟨b2,o2+q*2+1,none⟩) hb2).trans HPC.out.2;have x0:wq3.cell? ⟨X,0,none⟩=some (.int .i64 n):=((HB2.out).cell (p:=⟨X,0,none⟩) hXlt).trans HX.out.1;have x1:wq3.cell? ⟨X,1,none⟩=some (.int .i64 d):=((HB2.out).cell (p:=⟨X,1,none⟩) hXlt).trans HX.out.2;have hz:=HB2.out.size;have hown:=HO2.out;have hln:out.length<=1000000:=by have:=HL.out;omega
         clear hm hne;go_wp2_with (at_builtin;refine I4 (l:=out) (p:=(y1,y2)) rfl _ _ rfl rfl rfl rfl hown hz hln ?_;intro v3 w3 hown3 hb3);have HO3:=A5 hown3;have HB3:=A5 (HB2.out.trans hb3);clear hown hown3 hb3 hz hln;go_wp2_with fail
         go_roundw
         case rel=>exact ⟨q+1,_,true,by omega,by go_num,rfl,HO3.out,HN,A5 (by have:=HL.out;rw [z0J];simp;omega),HB3.out⟩
         case measure=>simp [intOf];omega
        | false =>
         have HLS:=A5 (fun w=>R.V8 n d y1 y2 w)
         cases hL:BO (n,d) (y1,y2) with
         | true =>
          have HN:Hid (DJ BO (n,d) k (q+1) ((out++[(n,d)])++[(y1,y2)]) true):=A5 (by have:=HP.out.ahead hqt hne (by rw [hm];exact hL);rwa [hm] at this);have HLO:Hid (out.length<=q):=A5 (by
           rcases HP.out.rest with ⟨_,e,_⟩|⟨e,_⟩
           ·rw [e,List.length_take];omega
           ·cases e)
          rw [hL] at HLS;clear hL;refine wp_region_quiet_below (by kernel_rfl) (by kernel_rfl) ?_
          repeat (first|go_big_quiet_step ((first|(go_at_call 99;exact Calls.regrown_of (HLS.out _))))|quiet_step ((first|(go_at_call 99;exact Calls.regrown_of (HLS.out _)))))
          refine wpQuiet_nil ?_;intro _ hw';obtain ⟨⟨nq,osq⟩,hw''⟩:=hw';subst hw'';have hq2:=below_regrown wq2 nq osq;generalize grow (redrawn wq2 nq) osq=wq3 at *;replace HB2:=A5 (andthen HB2.out hq2);replace HO2:=A5 (HO2.out.keep hq2);clear hq2 f0 f1 f2 f3;have p0:wq3.cell? ⟨b2,o2+q*2,none⟩=some (.int .i64 y1):=((HB2.out).cell (p:=⟨b2,o2+q*2,none⟩) hb2).trans HPC.out.1;have p1:wq3.cell? ⟨b2,o2+q*2+1,none⟩=some (.int .i64 y2):=((HB2.out).cell (p:=⟨b2,o2+q*2+1,none⟩) hb2).trans HPC.out.2;have x0:wq3.cell? ⟨X,0,none⟩=some (.int .i64 n):=((HB2.out).cell (p:=⟨X,0,none⟩) hXlt).trans HX.out.1;have x1:wq3.cell? ⟨X,1,none⟩=some (.int .i64 d):=((HB2.out).cell (p:=⟨X,1,none⟩) hXlt).trans HX.out.2;have hz:=HB2.out.size;have hown:=HO2.out;have hln:out.length<=1000000:=by have:=HL.out;omega
          clear hm hne
          go_upto_region 19 with (at_builtin;refine I4 (l:=out) (p:=(n,d)) rfl _ _ rfl rfl rfl rfl hown hz hln ?_;intro v2 w2 hown2 hb2')
          replace HB2:=A5 (HB2.out.trans hb2');replace HO2:=A5 hown2;clear hown hown2 hb2' hz hln p0 p1 x0 x1;have p0:w2.cell? ⟨b2,o2+q*2,none⟩=some (.int .i64 y1):=((HB2.out).cell (p:=⟨b2,o2+q*2,none⟩) hb2).trans HPC.out.1;have p1:w2.cell? ⟨b2,o2+q*2+1,none⟩=some (.int .i64 y2):=((HB2.out).cell (p:=⟨b2,o2+q*2+1,none⟩) hb2).trans HPC.out.2;have x0:w2.cell? ⟨X,0,none⟩=some (.int .i64 n):=((HB2.out).cell (p:=⟨X,0,none⟩) hXlt).trans HX.out.1;have x1:w2.cell? ⟨X,1,none⟩=some (.int .i64 d):=((HB2.out).cell (p:=⟨X,1,none⟩) hXlt).trans HX.out.2;have hz:=HB2.out.size;have hown:=HO2.out;have hln:(out++[(n,d)]).length<=1000000:=by have:=HLO.out;rw [z0J];simp;omega
          go_wp2_with (at_builtin;refine I4 (l:=out++[(n,d)]) (p:=(y1,y2)) rfl _ _ rfl rfl rfl rfl hown hz hln ?_;intro v3 w3 hown3 hb3);have HO3:=A5 hown3;have HB3:=A5 (HB2.out.trans hb3);clear hown hown3 hb3 hz hln;go_wp2_with fail
          go_roundw
          case rel=>exact ⟨q+1,_,true,by omega,by go_num,rfl,HO3.out,HN,A5 (by have:=HLO.out;rw [z0J,z0J];simp;omega),HB3.out⟩
          case measure=>simp [intOf];omega
         | false =>
          have HN:Hid (DJ BO (n,d) k (q+1) (out++[(y1,y2)]) false):=A5 (by have:=HP.out.skip hqt hne (by rw [hm];exact hL);rwa [hm] at this);rw [hL] at HLS;clear hL;refine wp_region_quiet_below (by kernel_rfl) (by kernel_rfl) ?_
          repeat (first|go_big_quiet_step ((first|(go_at_call 99;exact Calls.regrown_of (HLS.out _))))|quiet_step ((first|(go_at_call 99;exact Calls.regrown_of (HLS.out _)))))
          refine wpQuiet_nil ?_;intro _ hw';obtain ⟨⟨nq,osq⟩,hw''⟩:=hw';subst hw'';have hq2:=below_regrown wq2 nq osq;generalize grow (redrawn wq2 nq) osq=wq3 at *;replace HB2:=A5 (andthen HB2.out hq2);replace HO2:=A5 (HO2.out.keep hq2);clear hq2 f0 f1 f2 f3;have p0:wq3.cell? ⟨b2,o2+q*2,none⟩=some (.int .i64 y1):=((HB2.out).cell (p:=⟨b2,o2+q*2,none⟩) hb2).trans HPC.out.1;have p1:wq3.cell? ⟨b2,o2+q*2+1,none⟩=some (.int .i64 y2):=((HB2.out).cell (p:=⟨b2,o2+q*2+1,none⟩) hb2).trans HPC.out.2;have x0:wq3.cell? ⟨X,0,none⟩=some (.int .i64 n):=((HB2.out).cell (p:=⟨X,0,none⟩) hXlt).trans HX.out.1;have x1:wq3.cell? ⟨X,1,none⟩=some (.int .i64 d):=((HB2.out).cell (p:=⟨X,1,none⟩) hXlt).trans HX.out.2;have hz:=HB2.out.size;have hown:=HO2.out;have hln:out.length<=1000000:=by have:=HL.out;omega
          clear hm hne;go_wp2_with (at_builtin;refine I4 (l:=out) (p:=(y1,y2)) rfl _ _ rfl rfl rfl rfl hown hz hln ?_;intro v3 w3 hown3 hb3);have HO3:=A5 hown3;have HB3:=A5 (HB2.out.trans hb3);clear hown hown3 hb3 hz hln;go_wp2_with fail
          go_roundw
          case rel=>exact ⟨q+1,_,false,by omega,by go_num,rfl,HO3.out,HN,A5 (by have:=HL.out;rw [z0J];simp;omega),HB3.out⟩
          case measure=>simp [intOf];omega
      ·have e1:(y1==n)=false:=beq_eq_false_iff_ne.2 he1;have hne:k[q]≠(n,d):=by rw [hm];exact A1R (fun h=>he1 h.1)
       clear he1;go_wp2_with fail;go_quiet (fail);have HB2:=A5 (AJ HBQ.out nq);have HO2:=A5 (HOQ.out.keep (AJ (start wr) nq));generalize wr.drewN nq=wq2 at *;clear p0 p1 x0 x1;have p0:wq2.cell? ⟨b2,o2+q*2,none⟩=some (.int .i64 y1):=((HB2.out).cell (p:=⟨b2,o2+q*2,none⟩) hb2).trans HPC.out.1;have p1:wq2.cell? ⟨b2,o2+q*2+1,none⟩=some (.int .i64 y2):=((HB2.out).cell (p:=⟨b2,o2+q*2+1,none⟩) hb2).trans HPC.out.2;have x0:wq2.cell? ⟨X,0,none⟩=some (.int .i64 n):=((HB2.out).cell (p:=⟨X,0,none⟩) hXlt).trans HX.out.1;have x1:wq2.cell? ⟨X,1,none⟩=some (.int .i64 d):=((HB2.out).cell (p:=⟨X,1,none⟩) hXlt).trans HX.out.2;go_wp2_with fail;have f0:=fun d os=>cell_regrown p0 d os
       have f1:=fun d os=>cell_regrown p1 d os
       have f2:=fun d os=>cell_regrown x0 d os
       have f3:=fun d os=>cell_regrown x1 d os
       clear p0 p1 x0 x1
       cases f with
       | true =>
        have HN:Hid (DJ BO (n,d) k (q+1) (out++[(y1,y2)]) true):=A5 (by have:=HP.out.past hqt hne;rwa [hm] at this);refine wp_region_quiet_below (by kernel_rfl) (by kernel_rfl) ?_
        repeat (first|go_big_quiet_step ((first|fail))|quiet_step ((first|fail)))
        refine wpQuiet_nil ?_;intro _ hw';obtain ⟨⟨nq,osq⟩,hw''⟩:=hw';subst hw'';have hq2:=below_regrown wq2 nq osq;generalize grow (redrawn wq2 nq) osq=wq3 at *;replace HB2:=A5 (andthen HB2.out hq2);replace HO2:=A5 (HO2.out.keep hq2);clear hq2 f0 f1 f2 f3;have p0:wq3.cell? ⟨b2,o2+q*2,none⟩=some (.int .i64 y1):=((HB2.out).cell (p:=⟨b2,o2+q*2,none⟩) hb2).trans HPC.out.1;have p1:wq3.cell? ⟨b2,o2+q*2+1,none⟩=some (.int .i64 y2):=((HB2.out).cell (p:=⟨b2,o2+q*2+1,none⟩) hb2).trans HPC.out.2;have x0:wq3.cell? ⟨X,0,none⟩=some (.int .i64 n):=((HB2.out).cell (p:=⟨X,0,none⟩) hXlt).trans HX.out.1;have x1:wq3.cell? ⟨X,1,none⟩=some (.int .i64 d):=((HB2.out).cell (p:=⟨X,1,none⟩) hXlt).trans HX.out.2;have hz:=HB2.out.size;have hown:=HO2.out;have hln:out.length<=1000000:=by have:=HL.out;omega
        clear hm hne;go_wp2_with (at_builtin;refine I4 (l:=out) (p:=(y1,y2)) rfl _ _ rfl rfl rfl rfl hown hz hln ?_;intro v3 w3 hown3 hb3);have HO3:=A5 hown3;have HB3:=A5 (HB2.out.trans hb3);clear hown hown3 hb3 hz hln;go_wp2_with fail
        go_roundw
        case rel=>exact ⟨q+1,_,true,by omega,by go_num,rfl,HO3.out,HN,A5 (by have:=HL.out;rw [z0J];simp;omega),HB3.out⟩
        case measure=>simp [intOf];omega
       | false =>
        have HLS:=A5 (fun w=>R.V8 n d y1 y2 w)
        cases hL:BO (n,d) (y1,y2) with
        | true =>
         have HN:Hid (DJ BO (n,d) k (q+1) ((out++[(n,d)])++[(y1,y2)]) true):=A5 (by have:=HP.out.ahead hqt hne (by rw [hm];exact hL);rwa [hm] at this);have HLO:Hid (out.length<=q):=A5 (by
          rcases HP.out.rest with ⟨_,e,_⟩|⟨e,_⟩
          ·rw [e,List.length_take];omega
          ·cases e)
         rw [hL] at HLS;clear hL;refine wp_region_quiet_below (by kernel_rfl) (by kernel_rfl) ?_
         repeat (first|go_big_quiet_step ((first|(go_at_call 99;exact Calls.regrown_of (HLS.out _))))|quiet_step ((first|(go_at_call 99;exact Calls.regrown_of (HLS.out _)))))
         refine wpQuiet_nil ?_;intro _ hw';obtain ⟨⟨nq,osq⟩,hw''⟩:=hw';subst hw'';have hq2:=below_regrown wq2 nq osq;generalize grow (redrawn wq2 nq) osq=wq3 at *;replace HB2:=A5 (andthen HB2.out hq2);replace HO2:=A5 (HO2.out.keep hq2);clear hq2 f0 f1 f2 f3;have p0:wq3.cell? ⟨b2,o2+q*2,none⟩=some (.int .i64 y1):=((HB2.out).cell (p:=⟨b2,o2+q*2,none⟩) hb2).trans HPC.out.1;have p1:wq3.cell? ⟨b2,o2+q*2+1,none⟩=some (.int .i64 y2):=((HB2.out).cell (p:=⟨b2,o2+q*2+1,none⟩) hb2).trans HPC.out.2;have x0:wq3.cell? ⟨X,0,none⟩=some (.int .i64 n):=((HB2.out).cell (p:=⟨X,0,none⟩) hXlt).trans HX.out.1;have x1:wq3.cell? ⟨X,1,none⟩=some (.int .i64 d):=((HB2.out).cell (p:=⟨X,1,none⟩) hXlt).trans HX.out.2;have hz:=HB2.out.size;have hown:=HO2.out;have hln:out.length<=1000000:=by have:=HL.out;omega
         clear hm hne
         go_upto_region 19 with (at_builtin;refine I4 (l:=out) (p:=(n,d)) rfl _ _ rfl rfl rfl rfl hown hz hln ?_;intro v2 w2 hown2 hb2')
         replace HB2:=A5 (HB2.out.trans hb2');replace HO2:=A5 hown2;clear hown hown2 hb2' hz hln p0 p1 x0 x1;have p0:w2.cell? ⟨b2,o2+q*2,none⟩=some (.int .i64 y1):=((HB2.out).cell (p:=⟨b2,o2+q*2,none⟩) hb2).trans HPC.out.1;have p1:w2.cell? ⟨b2,o2+q*2+1,none⟩=some (.int .i64 y2):=((HB2.out).cell (p:=⟨b2,o2+q*2+1,none⟩) hb2).trans HPC.out.2;have x0:w2.cell? ⟨X,0,none⟩=some (.int .i64 n):=((HB2.out).cell (p:=⟨X,0,none⟩) hXlt).trans HX.out.1;have x1:w2.cell? ⟨X,1,none⟩=some (.int .i64 d):=((HB2.out).cell (p:=⟨X,1,none⟩) hXlt).trans HX.out.2;have hz:=HB2.out.size;have hown:=HO2.out;have hln:(out++[(n,d)]).length<=1000000:=by have:=HLO.out;rw [z0J];simp;omega
         go_wp2_with (at_builtin;refine I4 (l:=out++[(n,d)]) (p:=(y1,y2)) rfl _ _ rfl rfl rfl rfl hown hz hln ?_;intro v3 w3 hown3 hb3);have HO3:=A5 hown3;have HB3:=A5 (HB2.out.trans hb3);clear hown hown3 hb3 hz hln;go_wp2_with fail
         go_roundw
         case rel=>exact ⟨q+1,_,true,by omega,by go_num,rfl,HO3.out,HN,A5 (by have:=HLO.out;rw [z0J,z0J];simp;omega),HB3.out⟩
         case measure=>simp [intOf];omega
        | false =>
         have HN:Hid (DJ BO (n,d) k (q+1) (out++[(y1,y2)]) false):=A5 (by have:=HP.out.skip hqt hne (by rw [hm];exact hL);rwa [hm] at this);rw [hL] at HLS;clear hL;refine wp_region_quiet_below (by kernel_rfl) (by kernel_rfl) ?_
         repeat (first|go_big_quiet_step ((first|(go_at_call 99;exact Calls.regrown_of (HLS.out _))))|quiet_step ((first|(go_at_call 99;exact Calls.regrown_of (HLS.out _)))))
         refine wpQuiet_nil ?_;intro _ hw';obtain ⟨⟨nq,osq⟩,hw''⟩:=hw';subst hw'';have hq2:=below_regrown wq2 nq osq;generalize grow (redrawn wq2 nq) osq=wq3 at *;replace HB2:=A5 (andthen HB2.out hq2);replace HO2:=A5 (HO2.out.keep hq2);clear hq2 f0 f1 f2 f3;have p0:wq3.cell? ⟨b2,o2+q*2,none⟩=some (.int .i64 y1):=((HB2.out).cell (p:=⟨b2,o2+q*2,none⟩) hb2).trans HPC.out.1;have p1:wq3.cell? ⟨b2,o2+q*2+1,none⟩=some (.int .i64 y2):=((HB2.out).cell (p:=⟨b2,o2+q*2+1,none⟩) hb2).trans HPC.out.2;have x0:wq3.cell? ⟨X,0,none⟩=some (.int .i64 n):=((HB2.out).cell (p:=⟨X,0,none⟩) hXlt).trans HX.out.1;have x1:wq3.cell? ⟨X,1,none⟩=some (.int .i64 d):=((HB2.out).cell (p:=⟨X,1,none⟩) hXlt).trans HX.out.2;have hz:=HB2.out.size;have hown:=HO2.out;have hln:out.length<=1000000:=by have:=HL.out;omega
         clear hm hne;go_wp2_with (at_builtin;refine I4 (l:=out) (p:=(y1,y2)) rfl _ _ rfl rfl rfl rfl hown hz hln ?_;intro v3 w3 hown3 hb3);have HO3:=A5 hown3;have HB3:=A5 (HB2.out.trans hb3);clear hown hown3 hb3 hz hln;go_wp2_with fail
         go_roundw
         case rel=>exact ⟨q+1,_,false,by omega,by go_num,rfl,HO3.out,HN,A5 (by have:=HL.out;rw [z0J];simp;omega),HB3.out⟩
         case measure=>simp [intOf];omega
     ·obtain rfl:q=k.length:=by omega
      cases f with
      | true =>
       have HF:=A5 ((HNX.out _ rfl).2 out (by obtain ⟨e,hn⟩:=HP.out.done;rw [KM hn,e]));have HBF:=A5 (andthen HBR.out HBQ.out);have HOF:=A5 (DO.qW HOQ.out HBW.out.size);go_wp2_with fail
       go_roundw
       case rel=>exact ⟨j+1,out,by omega,by go_num,HOF.out,HF,HBF.out⟩
       case measure=>simp [intOf];omega
      | false =>
       have HF:=A5 ((HNX.out _ rfl).2 (out++[(n,d)]) (by obtain ⟨e,hn⟩:=HP.out.last;rw [KM hn,e]));have x0:wr.cell? ⟨X,0,none⟩=some (.int .i64 n):=((HBQ.out).cell (p:=⟨X,0,none⟩) hXlt).trans HX.out.1;have x1:wr.cell? ⟨X,1,none⟩=some (.int .i64 d):=((HBQ.out).cell (p:=⟨X,1,none⟩) hXlt).trans HX.out.2;have hz:=HBQ.out.size;have hown:=HOQ.out;have hln:out.length<=1000000:=by have:=HL.out;omega
       go_wp2_with (at_builtin;refine I4 (l:=out) (p:=(n,d)) rfl _ _ rfl rfl rfl rfl hown hz hln ?_;intro v3 w3 hown3 hb3);have HBF:=A5 (andthen HBR.out (HBQ.out.trans hb3));have HOF:=A5 (DO.qW hown3 HBW.out.size);clear hown hown3 hb3 hz hln;go_wp2_with fail
       go_roundw
       case rel=>exact ⟨j+1,_,by omega,by go_num,HOF.out,HF,HBF.out⟩
       case measure=>simp [intOf];omega
  ·obtain rfl:j=ps.length:=by omega
   rw [List.take_length] at HK;go_wp2_with fail;go_ret2;exact ⟨HBW.out,Or.inr ⟨_,_,HK.out,rfl,HO.out⟩⟩
end Go.Proofs.YtfecnkhoojnkbaaGreatDoor

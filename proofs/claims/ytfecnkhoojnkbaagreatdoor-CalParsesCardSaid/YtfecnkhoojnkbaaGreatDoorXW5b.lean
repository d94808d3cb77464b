import Derived.Test.YtfecnkhoojnkbaaGreatDoorXW5
set_option maxHeartbeats 8000000
set_option maxRecDepth 1000000
namespace Go.Proofs.YtfecnkhoojnkbaaGreatDoor
open Go.RowKit Rul Rt Go.Sort Tryz
theorem TO (s:ByteArray):s.toList=s.data.toList:=by rw [ByteArray.toList_eq]
abbrev SU (w:World) (p:Nat) (x0 x1:Value) (W:World):Prop:=W.cell? ⟨p,0,none⟩=some x0/\W.cell? ⟨p,1,none⟩=some x1/\Below w.heap.size w W
theorem mS {w W:World} {x0 x1 y0 y1:Value} (h:SU w w.heap.size x0 x1 W):SU w w.heap.size y0 y1 ((W.setCell ⟨w.heap.size,0,none⟩ y0).setCell ⟨w.heap.size,1,none⟩ y1):=by
 obtain ⟨c0,c1,hb⟩:=h;have st:∀ {W:World} {i:Nat} {x y:Value},W.cell? ⟨w.heap.size,i,none⟩=some x->(W.setCell ⟨w.heap.size,i,none⟩ y).cell? ⟨w.heap.size,i,none⟩=some y:=fun h=>World.cell?_setCell_same _ _ _ h
 have ot:∀ {W:World} {i j:Nat} {x y:Value},i≠j->W.cell? ⟨w.heap.size,i,none⟩=some x->(W.setCell ⟨w.heap.size,j,none⟩ y).cell? ⟨w.heap.size,i,none⟩=some x:=fun hn h =>
  (World.cell?_setCell_other _ _ _ _ (by intro hc;injection hc with _ hc1;omega)).trans h
 have be:∀ {W:World} {j:Nat} {y:Value},Below w.heap.size w W->Below w.heap.size w (W.setCell ⟨w.heap.size,j,none⟩ y):=fun h=>h.setCell (Nat.le_refl _) _
 exact ⟨ot (by omega) (st c0),st (ot (by omega) c1),be (be hb)⟩
theorem SU.keep {w W W1:World} {p:Nat} {x0 x1:Value} (h:SU w p x0 x1 W) (hb:Below W.heap.size W W1):SU w p x0 x1 W1:=⟨A9 hb h.1,A9 hb h.2.1,andthen h.2.2 hb⟩
def NR (o:Option Int):Value:=.tuple #[.int .i64 (o.getD 0),.bool o.isSome]
theorem Y8 {o:Option Int} (h:o=none):NR o=.tuple #[.int .i64 0,.bool false]:=by rw [h];rfl
theorem rP {o:Option Int} {n:Int} (h:o=some n):NR o=.tuple #[.int .i64 n,.bool true]:=by rw [h];rfl
theorem fT (t:ByteArray) (w:World) (he:Env w) (ht:t.size<=100000) :
  Calls prog 275 #[.string t] w (Ans w (NR (BJ t.data.toList))):=by
 have HE:=A5 he;clear he;have q2:=TO t;go_enter func275,ntmps275;go_wp2_with fail;refine (fN t _ HE.out ht).mono ?_;rintro e w1 ⟨hb,⟨n,ha,hin,rfl⟩|⟨ha,n,te,pe,rfl⟩⟩
 ·have HB:=A5 hb;have HT:=A5 ((HE.out.keep hb).tab);have q1:=AH (Lib.itoa n)
  by_cases hq:Lib.itoa n=t.data.toList
  ·have HN:Hid (NR (BJ t.data.toList)=.tuple #[.int .i64 n,.bool true]):=A5 (rP (by unfold BJ;rw [ha];simp only;rw [if_pos hq]));have q3:(Lib.itoa n==t.data.toList)=true:=by rw [AO,z0H hq]
   have HI:=A5 (fun w ht=>KS n w hin ht);generalize Lib.itoa n=L at *;clear hq ha hb hin;go_wp2_with fail;refine (HI.out _ HT.out).mono ?_;rintro e w2 ⟨rfl,hb2⟩;replace HB:=A5 (andthen HB.out hb2);go_wp2_with fail;go_ret2;exact ⟨by rw [HN.out];rfl,HB.out⟩
  ·have HN:Hid (NR (BJ t.data.toList)=.tuple #[.int .i64 0,.bool false]):=A5 (Y8 (by unfold BJ;rw [ha];simp only;rw [if_neg hq]));have q3:(Lib.itoa n==t.data.toList)=false:=by rw [AO,z0G hq]
   have HI:=A5 (fun w ht=>KS n w hin ht);generalize Lib.itoa n=L at *;clear hq ha hb hin;go_wp2_with fail;refine (HI.out _ HT.out).mono ?_;rintro e w2 ⟨rfl,hb2⟩;replace HB:=A5 (andthen HB.out hb2);go_wp2_with fail;go_ret2;exact ⟨by rw [HN.out];rfl,HB.out⟩
 ·have HB:=A5 hb;have HN:Hid (NR (BJ t.data.toList)=.tuple #[.int .i64 0,.bool false]):=A5 (Y8 (by
   unfold BJ
   split
   ·rename_i v hv;exact absurd hv (ha v)
   ·rfl))
  clear ha hb;go_wp2_with fail;go_ret2;exact ⟨by rw [HN.out];rfl,HB.out⟩
theorem NJ (t:ByteArray) (o:Option Int) (w:World) (he:Env w) (ht:t.size<=100000) (h:BJ t.data.toList=o) :
  Calls prog 275 #[.string t] w (Ans w (NR o)):=by subst h;exact fT t w he ht
def VT (w:World) (o:Option Int) (e:Ending) (w':World):Prop:=∃ n:Int,(∀ m,o=some m->n=m)/\e=.returned (.tuple #[.int .i64 n,.bool o.isSome])/\Below w.heap.size w w'
theorem Q9 (t:ByteArray) (w:World) (he:Env w) (ht:t.size<=100000) :
  Calls prog 272 #[.string t] w (VT w (posOf BJ t.data.toList)):=by
 have HE:=A5 he;clear he
 cases ho:BJ t.data.toList with
 | none =>
  have HP:Hid (posOf BJ t.data.toList=none):=A5 (by unfold posOf;rw [ho]);have HO:=A5 ho;clear ho;go_enter func272,ntmps272;go_wp2_with fail;refine (NJ t none _ HE.out ht HO.out).mono ?_;rintro e w1 ⟨rfl,hb⟩;unfold NR;go_wp2_with fail;go_ret2;exact ⟨0,fun m hm=>(by rw [HP.out] at hm;cases hm),by rw [HP.out];rfl,hb⟩
 | some n =>
  have HO:=A5 ho
  by_cases hn:0<n
  ·have HP:Hid (posOf BJ t.data.toList=some n):=A5 (by unfold posOf;rw [ho];simp only;rw [if_pos hn]);clear ho;go_enter func272,ntmps272;go_wp2_with fail;refine (NJ t (some n) _ HE.out ht HO.out).mono ?_;rintro e w1 ⟨rfl,hb⟩;unfold NR;go_wp2_with fail;go_ret2;exact ⟨n,fun m hm=>(by rw [HP.out] at hm;injection hm),by rw [HP.out];rfl,hb⟩
  ·have HP:Hid (posOf BJ t.data.toList=none):=A5 (by unfold posOf;rw [ho];simp only;rw [if_neg hn]);have hd:decide (0<n)=false:=z0G hn;clear ho;go_enter func272,ntmps272;go_wp2_with fail;refine (NJ t (some n) _ HE.out ht HO.out).mono ?_;rintro e w1 ⟨rfl,hb⟩;unfold NR;go_wp2_with fail;go_ret2;exact ⟨n,fun m hm=>(by rw [HP.out] at hm;cases hm),by rw [HP.out];rfl,hb⟩
def unE (t:Tx):Option Int:=if (BZ t).2=0 then some (BZ t).1 else none
theorem fU (t:ByteArray) (n e:Int) (w:World) (h:BZ t.data.toList=(n,e)) :
  Calls prog 226 #[.string t] w (Ans w (.tuple #[.int .i64 n,.int .i64 e])):=by
 have:=qD t w;rw [h] at this;exact this
theorem jZ (t:ByteArray) (w:World) :
  Calls prog 273 #[.string t] w (VT w (unE t.data.toList)):=by
 obtain ⟨n,e,h⟩:∃ n e,BZ t.data.toList=(n,e):=⟨_,_,rfl⟩;have H:=A5 h;have HU:Hid (unE t.data.toList=if e=0 then some n else none):=A5 (by unfold unE;rw [h]);clear h;go_enter func273,ntmps273;go_wp2_with fail;refine (fU t n e _ H.out).mono ?_;rintro e1 w1 ⟨rfl,hb⟩;go_wp2_with fail;go_ret2;refine ⟨n,fun m hm=>?_,?_,hb⟩
 ·rw [HU.out] at hm;split at hm;injection hm;cases hm
 ·rw [HU.out]
  by_cases h0:e=0
  ·subst h0;rfl
  ·rw [if_neg h0,beq_eq_false_iff_ne.2 h0];rfl
def RJ (t:Tx):Option Int:=if t=[] then some 0 else match BJ t with
 | none=>none
 | some n=>if n=0 then none else some n
theorem aG (t:ByteArray) (w:World) (he:Env w) (ht:t.size<=100000) :
  Calls prog 294 #[.string t] w (VT w (RJ t.data.toList)):=by
 have HE:=A5 he;clear he;have q2:=TO t
 by_cases h0:t.data.toList=[]
 ·have HP:Hid (RJ t.data.toList=some 0):=A5 (by unfold RJ;rw [if_pos h0]);have q3:t.data.toList.isEmpty=true:=by rw [h0];rfl
  clear h0;go_enter func294,ntmps294;go_wp2_with fail;go_ret2;exact ⟨0,fun m hm=>(by rw [HP.out] at hm;injection hm),by rw [HP.out];rfl,start _⟩
 ·have q3:t.data.toList.isEmpty=false:=by cases h:t.data.toList with|nil=>exact absurd h h0|cons _ _=>rfl
  cases ho:BJ t.data.toList with
  | none =>
   have HP:Hid (RJ t.data.toList=none):=A5 (by unfold RJ;rw [if_neg h0,ho]);have HO:=A5 ho;clear ho h0;go_enter func294,ntmps294;go_wp2_with fail;refine (NJ t none _ HE.out ht HO.out).mono ?_;rintro e w1 ⟨rfl,hb⟩;unfold NR;go_wp2_with fail;go_ret2;exact ⟨0,fun m hm=>(by rw [HP.out] at hm;cases hm),by rw [HP.out];rfl,hb⟩
  | some n =>
   have HO:=A5 ho
   by_cases hn:n=0
   ·have HP:Hid (RJ t.data.toList=none):=A5 (by unfold RJ;rw [if_neg h0,ho];simp only;rw [if_pos hn]);have hd:(n != 0)=false:=by rw [hn];rfl
    clear ho h0 hn;go_enter func294,ntmps294;go_wp2_with fail;refine (NJ t (some n) _ HE.out ht HO.out).mono ?_;rintro e w1 ⟨rfl,hb⟩;unfold NR;go_wp2_with fail;go_ret2;exact ⟨n,fun m hm=>(by rw [HP.out] at hm;cases hm),by rw [HP.out];rfl,hb⟩
   ·have HP:Hid (RJ t.data.toList=some n):=A5 (by unfold RJ;rw [if_neg h0,ho];simp only;rw [if_neg hn]);have hd:(n != 0)=true:=by rw [bne_iff_ne];exact hn
    clear ho h0 hn;go_enter func294,ntmps294;go_wp2_with fail;refine (NJ t (some n) _ HE.out ht HO.out).mono ?_;rintro e w1 ⟨rfl,hb⟩;unfold NR;go_wp2_with fail;go_ret2;exact ⟨n,fun m hm=>(by rw [HP.out] at hm;injection hm),by rw [HP.out];rfl,hb⟩
theorem A31 (w:World):(Instr.buildSlice 52 7 #[(0,.string ⟨#[77,79]⟩),(1,.string ⟨#[84,85]⟩),(2,.string ⟨#[87,69]⟩),(3,.string ⟨#[84,72]⟩),(4,.string ⟨#[70,82]⟩),(5,.string ⟨#[83,65]⟩),(6,.string ⟨#[83,85]⟩)]).run prog w=.ok (.slice (some ⟨w.heap.size,0,none⟩) 7 7) (w.alloc (.cells #[.string ⟨#[77,79]⟩,.string ⟨#[84,85]⟩,.string ⟨#[87,69]⟩,.string ⟨#[84,72]⟩,.string ⟨#[70,82]⟩,.string ⟨#[83,65]⟩,.string ⟨#[83,85]⟩] 9)):=by kernel_rfl
theorem A1o (w:World):(Instr.buildSlice 52 4 #[(0,.string ⟨#[68,65,73,76,89]⟩),(1,.string ⟨#[87,69,69,75,76,89]⟩),(2,.string ⟨#[77,79,78,84,72,76,89]⟩),(3,.string ⟨#[89,69,65,82,76,89]⟩)]).run prog w=.ok (.slice (some ⟨w.heap.size,0,none⟩) 4 4) (w.alloc (.cells #[.string ⟨#[68,65,73,76,89]⟩,.string ⟨#[87,69,69,75,76,89]⟩,.string ⟨#[77,79,78,84,72,76,89]⟩,.string ⟨#[89,69,65,82,76,89]⟩] 9)):=by kernel_rfl
def RowA (w:World) (l:List Tx) (e:Ending) (w':World):Prop:=∃ b,e=.returned (.slice (some ⟨b,0,none⟩) l.length l.length)/\BU w' (some ⟨b,0,none⟩) l/\Below w.heap.size w w'
theorem rQ (w:World):Calls prog 129 #[] w (RowA w BI):=by
 have hbs:=A31;go_enter func129,ntmps129;go_wp2_with fail;go_ret;refine ⟨w.heap.size,rfl,fun _=>⟨w.heap.size,0,rfl,by simp,fun i hi=>?_⟩,more (start _) _⟩;have hi7:i<7:=hi;rw [World.cell?_alloc_at _ _ _ _ rfl];rcases (by omega:i=0∨i=1∨i=2∨i=3∨i=4∨i=5∨i=6) with rfl|rfl|rfl|rfl|rfl|rfl|rfl <;> rfl
theorem VU (w:World):Calls prog 128 #[] w (RowA w C8):=by
 have hbs:=A1o;go_enter func128,ntmps128;go_wp2_with fail;go_ret;refine ⟨w.heap.size,rfl,fun _=>⟨w.heap.size,0,rfl,by simp,fun i hi=>?_⟩,more (start _) _⟩;have hi4:i<4:=hi;rw [World.cell?_alloc_at _ _ _ _ rfl];rcases (by omega:i=0∨i=1∨i=2∨i=3) with rfl|rfl|rfl|rfl <;> rfl
theorem A1p {w:World} {b:Nat} {l:List Tx} (h:BU w (some ⟨b,0,none⟩) l) (i:Nat) (hi:i<l.length):w.cell? ⟨b,i,none⟩=some (.string (str l[i])):=by
 obtain ⟨b2,o2,e,_,hc⟩:=h (by intro e;rw [e] at hi;simp at hi);injection e with e;injection e with e1 e2;subst e1 e2;have:=hc i hi
 rwa [Nat.zero_add] at this
theorem kA (t:ByteArray) (w:World):Calls prog 271 #[.string t] w (VT w ((F2 C8 t.data.toList).map fun k=>((k+1:Nat):Int))):=by
 obtain ⟨T,hT⟩:∃ T,t.data.toList=T:=⟨_,rfl⟩;have ht:t=str T:=by rw [<- hT];exact K7 t
 subst ht;rw [hT]
 cases ho:F2 C8 T with
 | none =>
  have HX:Hid (ixE C8 T=-1):=A5 (by unfold ixE;rw [ho]);clear ho;go_enter func271,ntmps271;go_wp2_with fail;refine (VU _).mono ?_;rintro e w1 ⟨b,rfl,hr,hb⟩;go_wp2_with fail;refine (aD T _ _ _ C8 _ hr rfl (by decide)).mono ?_;rintro e w2 ⟨rfl,hb2⟩;rw [HX.out];go_wp2_with fail;go_ret2;exact ⟨0,fun m hm=>(by cases hm),rfl,andthen hb hb2⟩
 | some k =>
  have HX:Hid (ixE C8 T=k):=A5 (by unfold ixE;rw [ho]);have hk:k<4:=by
   have:=FO ho;rw [List.getElem?_eq_some_iff] at this;exact this.1
  have hk0:(0:Int)<=(k:Int):=by omega
  have hk4:(k:Int)<4:=by omega
  clear ho;go_enter func271,ntmps271;go_wp2_with fail;refine (VU _).mono ?_;rintro e w1 ⟨b,rfl,hr,hb⟩;go_wp2_with fail;refine (aD T _ _ _ C8 _ hr rfl (by decide)).mono ?_;rintro e w2 ⟨rfl,hb2⟩;rw [HX.out];go_wp2_with fail;go_ret2;exact ⟨1+(k:Int),fun m hm=>(by have e:=Option.some.inj hm;rw [<- e];show 1+(k:Int)=((k+1:Nat):Int);omega),rfl,andthen hb hb2⟩
def LZ (t:Tx):Tx:=t.drop (t.length-2)
theorem A1q (t W:Tx) (hW:W.length=2):Lib.hasSuffix t W=decide (LZ t=W):=by
 unfold Lib.hasSuffix LZ;rw [Bool.eq_iff_iff,List.isSuffixOf_iff_suffix,List.suffix_iff_eq_drop,decide_eq_true_eq,hW];exact ⟨fun h=>h.symm,fun h=>h.symm⟩
theorem mT (k:Nat) (hk:k<7):(BI[k]'hk).length=2:=by
 have:∀ k:Nat,k<7->(BI.getD k []).length=2:=by decide
 have h:=this k hk;rw [List.getD_eq_getElem?_getD,List.getElem?_eq_getElem (show k<BI.length from hk)] at h;exact h
theorem A1r (t:Tx) (h:F2 BI (LZ t)=none):BH BJ t=none:=by
 unfold BH;unfold LZ at h;rw [h]
theorem A1s (t:Tx) (k:Nat) (h:F2 BI (LZ t)=some k):BH BJ t=(RJ (t.take (t.length-2))).map fun n=>(n,(k:Int)):=by
 have hm:LZ t∈BI:=List.mem_of_getElem? (FO h);have hl:(LZ t).length=2:=by
  have:∀ w∈BI,w.length=2:=by decide
  exact this _ hm
 have h2:2<=t.length:=by unfold LZ at hl;rw [List.length_drop] at hl;omega
 unfold BH;unfold LZ at h;rw [h];simp only;unfold RJ
 by_cases e:t.length=2
 ·rw [if_pos e,if_pos (by rw [e];rfl)];rfl
 ·rw [if_neg e,if_neg (by intro g;have:=congrArg List.length g;rw [List.length_take,List.length_nil] at this;omega)]
  cases BJ (t.take (t.length-2)) with
  | none=>rfl
  | some n =>
   simp only
   split <;> rfl
def MayW (w:World) (o:Option Wd) (e:Ending) (w':World):Prop:=∃ n d:Int,(∀ m,o=some m->(n,d)=m)/\e=.returned (.tuple #[.agg #[.int .i64 n,.int .i64 d],.bool o.isSome])/\Below w.heap.size w w'
theorem A1t (w:World) (x0 x1:Value) (t:TypeId):SU w w.heap.size x0 x1 (w.alloc (.cells #[x0,x1] t)):=by
 refine ⟨?_,?_,more (start _) _⟩
 all_goals (rw [World.cell?_alloc_at _ _ _ _ rfl];rfl)
theorem yJ (t:ByteArray) (w:World) (he:Env w) (ht:t.size<=100000) :
  Calls prog 278 #[.string t] w (MayW w (BH BJ t.data.toList)):=by
 have HE:=A5 he;clear he;have HW0:=A5 (A1t w (.int .i64 0) (.int .i64 0) 114);go_enter func278,ntmps278;go_wp2_with fail;refine (rQ _).mono ?_;rintro e w1 ⟨b,rfl,hr,hb⟩;have HT1:=A5 (HW0.out.keep hb);have HR:=A5 hr;have hz:w.heap.size<w1.heap.size:=by have:=hb.size;simp only [World.size_alloc] at this;omega
 have hf0:w1.frozen? ⟨w.heap.size,0,none⟩=false:=(hb.frozen (p:=⟨w.heap.size,0,none⟩) (by simp)).trans (by simp);have hf1:w1.frozen? ⟨w.heap.size,1,none⟩=false:=(hb.frozen (p:=⟨w.heap.size,1,none⟩) (by simp)).trans (by simp);have HF:=A5 (And.intro hf0 hf1);have hlen:BI.length=7:=rfl;rw [hlen];clear hr hf0 hf1 hb HW0;go_wp2_with fail
 go_loopw [11] (fun i wr=>∃ j:Nat,j<=7/\i=.int .i64 j/\Hid (∀ i (hi:i<BI.length),i<j->BI[i]≠LZ t.data.toList)/\Below w1.heap.size w1 wr) (fun i _=>7-(intOf i).toNat)
 case atStart=>exact ⟨0,Nat.zero_le _,rfl,A5 fun i hi h=>absurd h (Nat.not_lt_zero _),start _⟩
 case round =>
  obtain ⟨j,hj,rfl,HN0,hbw⟩:=hrel;have HBR:=A5 hbw
  by_cases hlt:j<7
  ·have c:=A9 hbw (A1p HR.out j hlt);have hi0:(0:Int)<=(j:Int):=by omega
   have hi1:(j:Int)<7:=by omega
   have hS:=A1q t.data.toList (BI[j]'hlt) (mT j hlt);replace HBR:=A5 (andthen (SU.keep HT1.out hbw).2.2 (start wr));have HTr:=A5 (SU.keep HT1.out hbw);have hfr0:wr.frozen? ⟨w.heap.size,0,none⟩=false:=(hbw.frozen (p:=⟨w.heap.size,0,none⟩) hz).trans HF.out.1;have hfr1:wr.frozen? ⟨w.heap.size,1,none⟩=false:=(hbw.frozen (p:=⟨w.heap.size,1,none⟩) hz).trans HF.out.2;have hzr:w.heap.size<wr.heap.size:=Nat.lt_of_lt_of_le hz hbw.size;have HEr:=A5 (HE.out.keep HTr.out.2.2)
   by_cases hq:LZ t.data.toList=BI[j]'hlt
   ·have HX:Hid (BH BJ t.data.toList=(RJ (t.data.toList.take (t.data.toList.length-2))).map fun n=>(n,(j:Int))):=A5 (A1s _ j (aC BI j hlt HN0.out hq.symm));rw [z0H hq] at hS;have hTr:Lib.trimSuffix t.data.toList (BI[j]'hlt)=t.data.toList.take (t.data.toList.length-2):=by unfold Lib.trimSuffix;rw [hS,if_pos rfl,mT j hlt]
    have HC:=A5 (fun w=>OX (BI[j]'hlt) (str (BI[j]'hlt)) rfl t w ht);rw [hS,hTr] at HC;have hP:(str (t.data.toList.take (t.data.toList.length-2))).size<=100000:=by rw [AB,List.length_take,AE];omega
    have hD:(str (t.data.toList.take (t.data.toList.length-2))).data.toList=t.data.toList.take (t.data.toList.length-2):=AD _;generalize BI[j]'hlt=D at *;generalize t.data.toList.take (t.data.toList.length-2)=P at *;clear hS hTr hq hbw;go_wp2_with fail;refine (HC.out _).mono ?_;rintro e v1 ⟨rfl,hb1⟩;go_wp2_with fail;refine (aG (str P) _ (HEr.out.keep hb1) hP).mono ?_;rintro e v2 ⟨n,hn,rfl,hb2⟩;rw [hD] at hn ⊢;have hb12:=andthen hb1 hb2;have HV:=A5 (SU.keep HTr.out hb12);have f0:v2.frozen? ⟨w.heap.size,0,none⟩=false:=(hb12.frozen (p:=⟨w.heap.size,0,none⟩) hzr).trans hfr0;have f1:v2.frozen? ⟨w.heap.size,1,none⟩=false:=(hb12.frozen (p:=⟨w.heap.size,1,none⟩) hzr).trans hfr1;have z2:w.heap.size<v2.heap.size:=Nat.lt_of_lt_of_le hzr hb12.size;have x0:=HV.out.1;have x1:=HV.out.2.1;have HNN:=A5 hn;obtain ⟨B,hB⟩:∃ B,(RJ P).isSome=B:=⟨_,rfl⟩;rw [hB];clear hn hb1 hb2 hb12 hfr0 hfr1 c;go_wp2_with fail;refine B6 (SU w w.heap.size (.int .i64 n) (.int .i64 j)) (mS HV.out) ?_;rintro WF ⟨c0,c1,hb⟩;refine bodyPost_ret (v:=.tuple #[.agg #[.int .i64 n,.int .i64 j],.bool B]) (by simp [results,Tryz.results278,go_sem,c0,c1]) rfl ⟨n,(j:Int),fun m hm=>?_,?_,hb⟩
    ·rw [HX.out,Option.map_eq_some_iff] at hm;obtain ⟨y,hy,rfl⟩:=hm;rw [HNN.out y hy]
    ·rw [HX.out,<- hB,Option.isSome_map]
   ·have HN:Hid (∀ i (hi:i<BI.length),i<j+1->BI[i]≠LZ t.data.toList):=A5 (fun i hi hij=>by
     rcases Nat.lt_or_ge i j with g|g
     ·exact HN0.out i hi g
     ·obtain rfl:i=j:=by omega
      exact fun e=>hq e.symm)
    rw [z0G hq] at hS;have HC:=A5 (fun w=>OX (BI[j]'hlt) (str (BI[j]'hlt)) rfl t w ht);rw [hS] at HC;generalize Lib.trimSuffix t.data.toList (BI[j]'hlt)=Z at *;generalize BI[j]'hlt=D at *;have HBW:=A5 hbw;clear hS hq hbw;go_wp2_with fail;refine (HC.out _).mono ?_;rintro e v1 ⟨rfl,hb1⟩;replace HBW:=A5 (andthen HBW.out hb1);clear hb1;go_wp2_with fail
    go_roundw
    case rel=>exact ⟨j+1,by omega,by go_num,HN,HBW.out⟩
    case measure=>simp [intOf];omega
  ·obtain rfl:j=7:=by omega
   have HX:=A5 (A1r _ (LR BI fun i hi=>HN0.out i hi hi));have HV:=A5 (SU.keep HT1.out hbw);have f0:wr.frozen? ⟨w.heap.size,0,none⟩=false:=(hbw.frozen (p:=⟨w.heap.size,0,none⟩) hz).trans HF.out.1;have f1:wr.frozen? ⟨w.heap.size,1,none⟩=false:=(hbw.frozen (p:=⟨w.heap.size,1,none⟩) hz).trans HF.out.2;have z2:w.heap.size<wr.heap.size:=Nat.lt_of_lt_of_le hz hbw.size;have x0:=HV.out.1;have x1:=HV.out.2.1;clear hbw HBR;go_wp2_with fail;refine B6 (SU w w.heap.size (.int .i64 0) (.int .i64 0)) (mS HV.out) ?_;rintro WF ⟨c0,c1,hb⟩;exact bodyPost_ret (v:=.tuple #[.agg #[.int .i64 0,.int .i64 0],.bool false]) (by simp [results,Tryz.results278,go_sem,c0,c1]) rfl ⟨0,0,fun m hm=>(by rw [HX.out] at hm;cases hm),by rw [HX.out];rfl,hb⟩
theorem VV (w:Wd) (h:EX w.1):(CC w).length<=40:=by
 unfold CC
 split
 ·rename_i hr
  have:∀ k:Nat,k<7->(BI.getD k []).length<=2:=by decide
  have h2:=this w.2.toNat (by omega);rw [z0J]
  split
  ·simp only [List.length_nil];omega
  ·have:=Lib.itoa_length_le w.1 h.1 h.2;omega
 ·simp
theorem kB (v:Tx) (h:EU v=true):∀ c∈v,digit c=true∨c=84:=by
 have hp:=OT v h;have h84:v.getD 8 0=84:=by
  unfold EU at h;simp only [Bool.and_eq_true,beq_iff_eq] at h;exact h.1.1.1.2
 intro c hc;have e:v=v.take 8++(v.getD 8 0 :: v.drop 9):=by
  have:v.drop 8=v.getD 8 0 :: v.drop 9:=by
   rw [List.drop_eq_getElem_cons (by omega),List.getD_eq_getElem?_getD,List.getElem?_eq_getElem (by omega)];rfl
  rw [<- this,List.take_append_drop]
 rw [e] at hc;have hd:∀ l:Tx,AT l=true->∀ c∈l,digit c=true:=fun l hl c hc=>List.all_eq_true.1 hl c hc
 rcases List.mem_append.1 hc with g|g
 ·exact Or.inl (hd _ hp.2.1 c g)
 ·rcases List.mem_cons.1 g with g|g
  ·exact Or.inr (g.trans h84)
  ·exact Or.inl (hd _ hp.2.2 c g)
theorem KT (v:Tx) (h:EU v=true) (c:UInt8) (h1:digit c=false) (h2:c≠84):c∉v:=fun g=>by
 rcases kB v h c g with e|e
 ·rw [h1] at e;cases e
 ·exact h2 e
theorem mU (v:Tx) (n:Int) (h:unE v=some n):EU v=true:=by
 unfold unE BZ at h
 cases hf:EU v with
 | true=>rfl
 | false=>rw [hf] at h;simp at h
theorem Y9 (n:Int) (h1:0<=n) (h2:n<52596000):EU (AZ n)=true:=by rw [RG n h1 h2];exact eT _ _ _ _ _ (XX n h1 h2)
def unU:Un where
 f:=unE
 text:=AZ
 noeq v n h:=KT v (mU v n h) 61 (by decide) (by decide)
 back n h1 h2:=by unfold unE;rw [jH n h1 h2];rfl
 free n:=by
  by_cases h:0<=n/\n<52596000
  ·have hf:=Y9 n h.1 h.2;exact ⟨KT _ hf 59 (by decide) (by decide),KT _ hf 61 (by decide) (by decide)⟩
  ·have:AZ n=[]:=if_neg h;rw [this];simp
 nil:=if_neg (by omega)
 some n h1 h2:=by rw [RG n h1 h2];unfold txt;simp
theorem IL (n:Int):(AZ n).length<=15:=by
 unfold AZ
 split
 ·exact Nat.le_refl 15
 ·simp
def RowP (w:World) (A:Option Addr) (l:List (Tx×Tx)):Prop :=
 l≠[]->∃ b off,A=some ⟨b,off,none⟩/\b<w.heap.size/\∀ i (h:i<l.length),w.cell? ⟨b,off+i*2,none⟩=some (.string (str l[i].1))/\w.cell? ⟨b,off+i*2+1,none⟩=some (.string (str l[i].2))
theorem YA (U:Un) (r:T) (h1:isB r=true) (h2:C9 r once=false):DU U r=AU 59 ((DF U r).map (ES U)):=by
 unfold DU;rw [h1,h2];rfl
theorem QA (U:Un) (r:T) (h:isB r=false∨C9 r once=true):DU U r=[]:=by
 unfold DU;rw [if_neg];rcases h with h|h <;> rw [h] <;> simp
theorem kC (fr ev ct un:Int) (D M Y:Option Addr) (dn dc mn mc yn yc:Nat) (ds:List Wd) (ms ys:List Int) (w:World) (hl:DS w D dn M mn Y yn ds ms ys) (ht:Tab w) (hi:isB ⟨fr,ev,ct,un,ds,ms,ys⟩=true) (hs:C9 ⟨fr,ev,ct,un,ds,ms,ys⟩ once=true) :
  Calls prog 59 #[.agg #[.int .i64 fr,.int .i64 ev,.int .i64 ct,.int .i64 un,.slice D dn dc,.slice M mn mc,.slice Y yn yc]] w (Ans w (.string (str []))):=by
 have HI:=A5 hi;have HS:Hid (C9 ⟨fr,ev,ct,un,ds,ms,ys⟩ ⟨0,0,0,-1,[],[],[]⟩=true):=A5 hs;clear hi hs;have hbox:=more (start w) (.cells #[.int .i64 fr,.int .i64 ev,.int .i64 ct,.int .i64 un,.slice D dn dc,.slice M mn mc,.slice Y yn yc] 44);have HLB:=A5 (hl.keep hbox);have HTB:=A5 (ht.below hbox (Nat.le_refl _));have HBX:=A5 hbox;have hAC:∀ i v,(#[.int .i64 fr,.int .i64 ev,.int .i64 ct,.int .i64 un,.slice D dn dc,.slice M mn mc,.slice Y yn yc]:Array Value)[i]?=some v->(w.alloc (.cells #[.int .i64 fr,.int .i64 ev,.int .i64 ct,.int .i64 un,.slice D dn dc,.slice M mn mc,.slice Y yn yc] 44)).cell? ⟨w.heap.size,i,none⟩=some v:=fun i v h=>by rw [World.cell?_alloc_at _ _ _ _ rfl];exact h
 have s0:=hAC 0 _ rfl;have s1:=hAC 1 _ rfl;have s2:=hAC 2 _ rfl;have s3:=hAC 3 _ rfl;have s4:=hAC 4 _ rfl;have s5:=hAC 5 _ rfl;have s6:=hAC 6 _ rfl;clear hAC;clear hl ht hbox;go_enter func59,ntmps59;go_wp2_with fail;have f0:=fun d os=>cell_regrown s0 d os
 have f1:=fun d os=>cell_regrown s1 d os
 have f2:=fun d os=>cell_regrown s2 d os
 have f3:=fun d os=>cell_regrown s3 d os
 have f4:=fun d os=>cell_regrown s4 d os
 have f5:=fun d os=>cell_regrown s5 d os
 have f6:=fun d os=>cell_regrown s6 d os
 have L1:=A5 (fun d os=>DS.keep HLB.out (below_regrown (w.alloc (.cells #[.int .i64 fr,.int .i64 ev,.int .i64 ct,.int .i64 un,.slice D dn dc,.slice M mn mc,.slice Y yn yc] 44)) d os));refine wp_region_quiet_below (by kernel_rfl) (by kernel_rfl) ?_
 repeat (first|go_big_quiet_step ((first|(go_at_call 88;exact Calls.regrown_of (AF (CY fr ev ct un D M Y dn dc mn mc yn yc ds ms ys _ (L1.out _ _)) HI.out))|(go_at_call 90;exact Calls.regrown_of (DE _))|(go_at_call 89;exact Calls.regrown_of (AF (E7 fr ev ct un D M Y dn dc mn mc yn yc 0 0 0 (-1) none none none 0 0 0 0 0 0 ds ms ys [] [] [] _ (L1.out _ _) (C7 _)) HS.out))))|quiet_step ((first|(go_at_call 88;exact Calls.regrown_of (AF (CY fr ev ct un D M Y dn dc mn mc yn yc ds ms ys _ (L1.out _ _)) HI.out))|(go_at_call 90;exact Calls.regrown_of (DE _))|(go_at_call 89;exact Calls.regrown_of (AF (E7 fr ev ct un D M Y dn dc mn mc yn yc 0 0 0 (-1) none none none 0 0 0 0 0 0 ds ms ys [] [] [] _ (L1.out _ _) (C7 _)) HS.out)))))
 refine wpQuiet_nil ?_;intro _ hw';obtain ⟨⟨nq,osq⟩,hw''⟩:=hw';subst hw'';replace HBX:=A5 (andthen HBX.out (below_regrown (w.alloc (.cells #[.int .i64 fr,.int .i64 ev,.int .i64 ct,.int .i64 un,.slice D dn dc,.slice M mn mc,.slice Y yn yc] 44)) nq osq));go_wp2_with fail;go_ret;exact ⟨rfl,HBX.out⟩
end Go.Proofs.YtfecnkhoojnkbaaGreatDoor

import Derived.Test.YtfecnkhoojnkbaaGreatDoorXEvA
import Derived.Test.YtfecnkhoojnkbaaGreatDoorXW6
import Derived.Test.YtfecnkhoojnkbaaGreatDoorXW7
set_option maxHeartbeats 8000000
set_option maxRecDepth 1000000
namespace Go.Proofs.YtfecnkhoojnkbaaGreatDoor
open Go.RowKit Rul Rt Fo Go.Sort Go.Shelf Tryz
theorem zF (t:ByteArray) (w:World) (he:Env w) (ht:t.size<=100000) :
  Calls prog 222 #[.string t] w (VT w (BJ t.data.toList)):=by
 have HE:=A5 he;clear he;have q2:=TO t;go_enter func222,ntmps222;go_wp2_with fail;refine (fN t _ HE.out ht).mono ?_;rintro e w1 ⟨hb,⟨n,ha,hin,rfl⟩|⟨ha,n,te,pe,rfl⟩⟩
 ·have HB:=A5 hb;have HT:=A5 ((HE.out.keep hb).tab);have q1:=AH (Lib.itoa n)
  by_cases hq:Lib.itoa n=t.data.toList
  ·have HN:Hid (BJ t.data.toList=some n):=A5 (by unfold BJ;rw [ha];simp only;rw [if_pos hq]);have q3:(Lib.itoa n==t.data.toList)=true:=by rw [AO,z0H hq]
   have HI:=A5 (fun w ht=>KS n w hin ht);generalize Lib.itoa n=L at *;clear hq ha hb hin;go_wp2_with fail;refine (HI.out _ HT.out).mono ?_;rintro e w2 ⟨rfl,hb2⟩;replace HB:=A5 (andthen HB.out hb2);clear hb2;go_wp2_with fail;go_ret2;exact ⟨n,fun m hm=>(by rw [HN.out] at hm;injection hm),by rw [HN.out];rfl,HB.out⟩
  ·have HN:Hid (BJ t.data.toList=none):=A5 (by unfold BJ;rw [ha];simp only;rw [if_neg hq]);have q3:(Lib.itoa n==t.data.toList)=false:=by rw [AO,z0G hq]
   have HI:=A5 (fun w ht=>KS n w hin ht);generalize Lib.itoa n=L at *;clear hq ha hb hin;go_wp2_with fail;refine (HI.out _ HT.out).mono ?_;rintro e w2 ⟨rfl,hb2⟩;replace HB:=A5 (andthen HB.out hb2);clear hb2;go_wp2_with fail;go_ret2;exact ⟨n,fun m hm=>(by rw [HN.out] at hm;cases hm),by rw [HN.out];rfl,HB.out⟩
 ·have HB:=A5 hb;have HN:Hid (BJ t.data.toList=none):=A5 (by
   unfold BJ
   split
   ·rename_i v hv;exact absurd hv (ha v)
   ·rfl)
  clear ha hb;go_wp2_with fail;go_ret2;exact ⟨n,fun m hm=>(by rw [HN.out] at hm;cases hm),by rw [HN.out];rfl,HB.out⟩
theorem QD (t:Tx) (o:Option Int) (w:World) (he:Env w) (ht:t.length<=100000) (h:BJ t=o) :
  Calls prog 222 #[.string (str t)] w (VT w o):=by
 have:=zF (str t) w he (by rw [AB];exact ht);rw [AD,h] at this;exact this
theorem zG (t:ByteArray) (w:World) :
  Calls prog 217 #[.string t] w (VT w (unU.f t.data.toList)):=by
 obtain ⟨n,e,h⟩:∃ n e,BZ t.data.toList=(n,e):=⟨_,_,rfl⟩;have H:=A5 h;have HU:Hid (unU.f t.data.toList=if e=0 then some n else none):=A5 (by show unE _=_;unfold unE;rw [h]);clear h;go_enter func217,ntmps217;go_wp2_with fail;refine (fU t n e _ H.out).mono ?_;rintro e1 w1 ⟨rfl,hb⟩;go_wp2_with fail;go_ret2;refine ⟨n,fun m hm=>?_,?_,hb⟩
 ·rw [HU.out] at hm;split at hm;injection hm;cases hm
 ·rw [HU.out]
  by_cases h0:e=0
  ·subst h0;rfl
  ·rw [if_neg h0,beq_eq_false_iff_ne.2 h0];rfl
theorem aZ (t:Tx) (o:Option Int) (w:World) (h:unU.f t=o) :
  Calls prog 217 #[.string (str t)] w (VT w o):=by
 have:=zG (str t) w;rw [AD,h] at this;exact this
theorem kO (t:ByteArray) (l:Tx) (w:World) :
  Calls prog 227 #[.string t,.string (str l)] w (Ans w (.tuple #[.string (str (Lib.trimPrefix t.data.toList l)),.bool (Lib.hasPrefix t.data.toList l)])):=by
 refine (Tryz.strings_CutPrefix t (str l) w).mono ?_;rintro e w' ⟨rfl,rfl⟩;exact ⟨by rw [AD];rfl,start _⟩
theorem gI (v:Tx):Lib.hasPrefix v Ev.wPT=decide (v.take 2=Ev.wPT):=by
 unfold Lib.hasPrefix;rw [Bool.eq_iff_iff,decide_eq_true_eq,List.isPrefixOf_iff_prefix,List.prefix_iff_eq_take];exact ⟨fun h=>h.symm,fun h=>h.symm⟩
theorem gJ (u:Tx) (h:u≠[]):Lib.hasSuffix u [77]=decide (u.getLast?=some 77):=by
 have e:=List.dropLast_concat_getLast h;rw [Bool.eq_iff_iff,decide_eq_true_eq,List.getLast?_eq_some_getLast h];unfold Lib.hasSuffix;rw [List.isSuffixOf_iff_suffix]
 constructor
 ·rintro ⟨p,hp⟩;have:u.getLast h=77:=by
   have:u.getLast?=some 77:=by rw [<- hp];simp
   rw [List.getLast?_eq_some_getLast h] at this;injection this
  rw [this]
 ·intro g;injection g with g;rw [g] at e;exact ⟨_,e⟩
theorem zH (v:Tx) (h:Ev.GK v=true):Lib.hasPrefix v Ev.wPT=true/\Lib.trimPrefix v Ev.wPT=v.drop 2/\Lib.hasSuffix (v.drop 2) [77]=true/\Lib.trimSuffix (v.drop 2) [77]=Ev.within v:=by
 unfold Ev.GK at h;simp only [Bool.and_eq_true,decide_eq_true_eq] at h;obtain ⟨h1,h2,h3⟩:=h;have hp:Lib.hasPrefix v Ev.wPT=true:=by rw [gI,z0H h1]
 have hne:v.drop 2≠[]:=fun g=>by
  have:=congrArg List.length g;rw [List.length_drop,List.length_nil] at this;omega
 have hl:(v.drop 2).getLast?=some 77:=by rw [List.getLast?_drop,if_neg (by omega)];exact h3
 have hs:Lib.hasSuffix (v.drop 2) [77]=true:=by rw [gJ _ hne,z0H hl]
 refine ⟨hp,?_,hs,?_⟩
 ·unfold Lib.trimPrefix;rw [if_pos hp];rfl
 ·unfold Lib.trimSuffix;rw [if_pos hs];unfold Ev.within;rw [List.dropLast_eq_take];rfl
theorem kP (v:Tx) (h:Ev.GK v=false):Lib.hasPrefix v Ev.wPT=false∨(Lib.hasPrefix v Ev.wPT=true/\Lib.trimPrefix v Ev.wPT=v.drop 2/\Lib.hasSuffix (v.drop 2) [77]=false):=by
 cases hp:Lib.hasPrefix v Ev.wPT with
 | false=>exact Or.inl rfl
 | true =>
  refine Or.inr ⟨rfl,by unfold Lib.trimPrefix;rw [if_pos hp];rfl,?_⟩;rw [gI,decide_eq_true_eq] at hp;rw [Bool.eq_false_iff];intro hs;have hne:v.drop 2≠[]:=fun g=>by rw [g] at hs;revert hs;decide
  rw [gJ _ hne,decide_eq_true_eq] at hs;have h3:3<=v.length:=Nat.lt_of_not_le fun g=>hne (List.drop_eq_nil_of_le g)
  have hl:v.getLast?=some 77:=by rw [List.getLast?_drop,if_neg (by omega)] at hs;exact hs
  rw [Bool.eq_false_iff] at h
  apply h
  unfold Ev.GK;rw [z0H hp,z0H h3,z0H hl];rfl
theorem n9 (u:Tx) (p:Tx) (b:Bool) (w:World) (ht:u.length<=100000) (h1:Lib.trimSuffix u [77]=p) (h2:Lib.hasSuffix u [77]=b) :
  Calls prog 228 #[.string (str u),.string (str [77])] w (Ans w (.tuple #[.string (str p),.bool b])):=by
 have:=OX [77] (str [77]) rfl (str u) w (by rw [AB];exact ht);rw [AD,h1,h2] at this;exact this
theorem nA (t:ByteArray) (l p:Tx) (b:Bool) (w:World) (h1:Lib.trimPrefix t.data.toList l=p) (h2:Lib.hasPrefix t.data.toList l=b) :
  Calls prog 227 #[.string t,.string (str l)] w (Ans w (.tuple #[.string (str p),.bool b])):=by
 subst h1 h2;exact kO t l w
theorem A1D (t:ByteArray) (w:World) (he:Env w) (ht:t.size<=100000) :
    Calls prog 218 #[.string t] w (VT w (Ev.G9 t.data.toList)):=by
  have HE:=A5 he;clear he;have hlen:t.data.toList.length<=100000:=by rw [AE];exact ht
  have hN:∀ (p q:Tx) (b1 b2:Bool),Lib.trimPrefix t.data.toList Ev.wPT=p->Lib.hasPrefix t.data.toList Ev.wPT=b1->Lib.trimSuffix p [77]=q->Lib.hasSuffix p [77]=b2->p.length<=100000->q.length<=100000->(b1&&b2)=false->Ev.G9 t.data.toList=none →
      Calls prog 218 #[.string t] w (VT w (Ev.G9 t.data.toList)):=by
    intro p q b1 b2 h1 h2 h3 h4 hp hq hb hL;have H1:=A5 (fun w=>nA t Ev.wPT p b1 w h1 h2);have H2:=A5 (fun w=>n9 p q b2 w hp h3 h4);have HL:=A5 hL;obtain ⟨o,ho⟩:∃ o,BJ q=o:=⟨_,rfl⟩;have H3:=A5 (fun w he=>QD q o w he hq ho);clear h1 h2 h3 h4 ho hL
    cases b1 <;> cases b2
    all_goals first
      | (exfalso;revert hb;decide)
      | (go_enter func218,ntmps218
         go_wp2_with fail;refine (H1.out _).mono ?_;rintro e w1 ⟨rfl,hb1⟩;have HB:=A5 hb1;clear hb1;go_wp2_with fail;refine (H2.out _).mono ?_;rintro e w2 ⟨rfl,hb1⟩;replace HB:=A5 (andthen HB.out hb1);clear hb1;go_wp2_with fail;refine (H3.out _ (HE.out.keep HB.out)).mono ?_;rintro e w3 ⟨n,_,rfl,hb1⟩;replace HB:=A5 (andthen HB.out hb1);clear hb1;go_wp2_with fail;go_ret2;exact ⟨n,fun m hm=>(by rw [HL.out] at hm;cases hm),by rw [HL.out];rfl,HB.out⟩)
  have hsub:∀ v:Tx,(Lib.trimPrefix v Ev.wPT).length<=v.length:=fun v=>by
    unfold Lib.trimPrefix;split
    · rw [List.length_drop];omega
    · exact Nat.le_refl _
  have hsub2:∀ v:Tx,(Lib.trimSuffix v [77]).length<=v.length:=fun v=>by
    unfold Lib.trimSuffix;split
    · rw [List.length_take];omega
    · exact Nat.le_refl _
  cases hf:Ev.GK t.data.toList with
  | false =>
    have hL:Ev.G9 t.data.toList=none:=by unfold Ev.G9;rw [hf];rfl
    rcases kP _ hf with h1|⟨h1,h2,h3⟩
    · exact hN _ _ false _ rfl h1 rfl rfl (Nat.le_trans (hsub _) hlen) (Nat.le_trans (hsub2 _) (Nat.le_trans (hsub _) hlen)) rfl hL
    · exact hN _ _ true false h2 h1 rfl h3 (by rw [List.length_drop];omega) (Nat.le_trans (hsub2 _) (by rw [List.length_drop];omega)) rfl hL
  | true =>
    obtain ⟨h1,h2,h3,h4⟩:=zH _ hf;have hw:(Ev.within t.data.toList).length<=100000:=by unfold Ev.within;rw [List.length_dropLast,List.length_drop];omega
    have H1:=A5 (fun w=>nA t Ev.wPT (t.data.toList.drop 2) true w h2 h1);have H2:=A5 (fun w=>n9 (t.data.toList.drop 2) (Ev.within t.data.toList) true w (by rw [List.length_drop];omega) h4 h3);have hL:Ev.G9 t.data.toList=Ev.PU Ev.lgB (BJ (Ev.within t.data.toList)):=by unfold Ev.G9;rw [if_pos hf]
    generalize t.data.toList.drop 2=p at *;generalize Ev.within t.data.toList=q at *
    cases ho:BJ q with
    | none =>
      have HL:Hid (Ev.G9 t.data.toList=none):=A5 (by rw [hL,ho];rfl);have H3:=A5 (fun w he=>QD q none w he hw ho);clear h1 h2 h3 h4 ho hL hf hN;go_enter func218,ntmps218;go_wp2_with fail;refine (H1.out _).mono ?_;rintro e w1 ⟨rfl,hb1⟩;have HB:=A5 hb1;clear hb1;go_wp2_with fail;refine (H2.out _).mono ?_;rintro e w2 ⟨rfl,hb1⟩;replace HB:=A5 (andthen HB.out hb1);clear hb1;go_wp2_with fail;refine (H3.out _ (HE.out.keep HB.out)).mono ?_;rintro e w3 ⟨n,_,rfl,hb1⟩;replace HB:=A5 (andthen HB.out hb1);clear hb1;simp only [Option.isSome_none];go_wp2_with fail;go_ret2;exact ⟨n,fun m hm=>(by rw [HL.out] at hm;cases hm),by rw [HL.out];rfl,HB.out⟩
    | some x =>
      have HX:=A5 (fun w=>U5 x w);have HL:Hid (Ev.G9 t.data.toList=if Ev.lgB x=true then some x else none):=A5 (by rw [hL,ho];rfl);have H3:=A5 (fun w he=>QD q (some x) w he hw ho);generalize Ev.lgB x=B at *;clear h1 h2 h3 h4 ho hL hf hN;go_enter func218,ntmps218;go_wp2_with fail;refine (H1.out _).mono ?_;rintro e w1 ⟨rfl,hb1⟩;have HB:=A5 hb1;clear hb1;go_wp2_with fail;refine (H2.out _).mono ?_;rintro e w2 ⟨rfl,hb1⟩;replace HB:=A5 (andthen HB.out hb1);clear hb1;go_wp2_with fail;refine (H3.out _ (HE.out.keep HB.out)).mono ?_;rintro e w3 ⟨n,hn,rfl,hb1⟩;obtain rfl:=hn x rfl;replace HB:=A5 (andthen HB.out hb1);clear hb1 hn;simp only [Option.isSome_some];go_wp2_with fail;refine (HX.out _).mono ?_;rintro e w4 ⟨rfl,rfl⟩;go_wp2_with fail;go_ret2
      cases B with
      | true=>exact ⟨n,fun m hm=>(by rw [HL.out] at hm;injection hm),by rw [HL.out];rfl,HB.out⟩
      | false=>exact ⟨n,fun m hm=>(by rw [HL.out] at hm;cases hm),by rw [HL.out];rfl,HB.out⟩
theorem A3b (t:Tx) (o:Option Int) (w:World) (he:Env w) (ht:t.length<=100000) (h:Ev.G9 t=o) :
  Calls prog 218 #[.string (str t)] w (VT w o):=by
 have:=A1D (str t) w he (by rw [AB];exact ht);rw [AD,h] at this;exact this
def MayT (w:World) (o:Option Tx) (e:Ending) (w':World):Prop:=∃ s:Tx,(∀ m,o=some m->s=m)/\e=.returned (.tuple #[.string (str s),.bool o.isSome])/\Below w.heap.size w w'
theorem gK (t:ByteArray) (w:World) (he:Env w) (ht:t.size<=100000) :
  Calls prog 223 #[.string t] w (MayT w (Ev.MI t.data.toList)):=by
 have HU:=A5 (aU t w he ht);have hlen:=Fo.TC t.data.toList.length t.data.toList;have hL:Ev.MI t.data.toList=match Fo.unE t.data.toList with
  | some s=>if Ev.E0 s=true then some s else none
  | none=>none:=rfl
 cases ho:Fo.unE t.data.toList with
 | none =>
  rw [ho] at HU hL;have HL:=A5 hL;clear hL ho hlen;unfold unA at HU;go_enter func223,ntmps223;go_wp2_with fail;refine (HU.out).mono ?_;rintro e w1 ⟨rfl,hb⟩;go_wp2_with fail;go_ret2;exact ⟨[],fun m hm=>(by rw [HL.out] at hm;cases hm),by rw [HL.out];rfl,hb⟩
 | some s =>
  have hs:=hlen s (Nat.le_refl _) ho;rw [AE] at hs;rw [ho] at HU hL;have HT:=A5 (fun w=>U4 (str s) w (by rw [AB];omega));rw [AD] at HT;have HL:Hid (Ev.MI t.data.toList=if Ev.E0 s=true then some s else none):=A5 hL;generalize Ev.E0 s=B at *;clear hL ho hlen;unfold unA at HU;go_enter func223,ntmps223;go_wp2_with fail;refine (HU.out).mono ?_;rintro e w1 ⟨rfl,hb⟩;have HB:=A5 hb;clear hb;go_wp2_with fail;refine (HT.out _).mono ?_;rintro e w2 ⟨rfl,rfl⟩;go_wp2_with fail;go_ret2
  cases B with
  | true=>exact ⟨s,fun m hm=>(by rw [HL.out] at hm;injection hm),by rw [HL.out];rfl,HB.out⟩
  | false=>exact ⟨s,fun m hm=>(by rw [HL.out] at hm;cases hm),by rw [HL.out];rfl,HB.out⟩
theorem gL (t:ByteArray) (w:World) (he:Env w) (ht:t.size<=100000) :
  Calls prog 221 #[.string t,.int .i64 12] w (TP w (Lib.splitN t.data.toList [44] 13)):=by
 have HE:=A5 he;clear he;go_enter func221,ntmps221;go_wp2_with fail;refine (LU 44 _ rfl 13 _ rfl t _ HE.out ht (by omega) (by omega)).mono ?_;rintro e w1 ⟨A,cap,rfl,hr,hb⟩;go_wp2_with fail;go_ret;exact ⟨A,cap,rfl,hr,hb⟩
theorem kQ (t:ByteArray) (w:World) (he:Env w) (ht:t.size<=100000) :
  Calls prog 221 #[.string t,.int .i64 4] w (TP w (Lib.splitN t.data.toList [44] 5)):=by
 have HE:=A5 he;clear he;go_enter func221,ntmps221;go_wp2_with fail;refine (LU 44 _ rfl 5 _ rfl t _ HE.out ht (by omega) (by omega)).mono ?_;rintro e w1 ⟨A,cap,rfl,hr,hb⟩;go_wp2_with fail;go_ret;exact ⟨A,cap,rfl,hr,hb⟩
theorem kR (l:List Int):weak AI (l.mergeSort fun x y=>decide (x<=y)):=by
 have:=List.pairwise_mergeSort (le:=fun x y:Int=>decide (x<=y)) (fun a b c h1 h2=>by
  rw [decide_eq_true_eq] at h1 h2 ⊢;omega) (fun a b=>by
  rw [Bool.or_eq_true,decide_eq_true_eq,decide_eq_true_eq];omega) l
 refine List.Pairwise.imp (fun {a b} g=>?_) this;unfold AI;rw [decide_eq_true_eq] at g;exact z0G (by omega)
theorem YF (B:Nat) (v:Value) (l:List Int) (w:World) (h:BV w B v l) (h0:l≠[]) (hn:l.length<=1000000) :
  Calls prog 230 #[v] w fun e w'=>e=.returned (.tuple #[])/\BV w' B v (srt AI l)/\w.grownBy w' v.ownBlock:=by
 have h2:=h.2;rcases h2 with ⟨rfl,hz⟩|⟨g,cap,cur,rfl,hb,hg,_⟩
 ·exact absurd (List.eq_nil_of_length_eq_zero hz) h0
 ·refine (Tryz.slices_Sort_int g 0 cap l w (VS h) (Array.getElem?_eq_some_iff.1 hg).1 (by omega)).mono ?_;rintro e w' ⟨he,n,os,rfl⟩;have hp:=List.mergeSort_perm l (fun x y=>decide (x<=y));have e2:=QS ID hp (kR l);have hso:=SO (k:=n) (os:=os) h hp.length_eq;rw [<- e2];exact ⟨he,hso.1,hso.2⟩
theorem gM (A:Option Addr) (n c:Nat) (l:List Tx) (w:World) (hl:BU w A l) (h0:l≠[]) (hn:n=l.length) (hsz:l.length<=1000) (hb:∀ p∈l,p.length<=100000) (he:Env w) :
  Calls prog 220 #[.func (.func 222) #[] #[],.slice A n c] w (kD w ((AK (BJ) l).map (srt AI))):=by
 subst hn;have HR:=A5 hl;have HE:=A5 he;have HB:=A5 hb;have H0:=A5 h0;clear hl he hb h0;go_enter func220,ntmps220;go_wp2_with (refine RL rfl _ _ rfl rfl (n:=l.length) rfl rfl (by omega) ?_;intro v0 w0 hown0 hb0);have HO0:=A5 hown0;have HB0:=A5 hb0;clear hown0 hb0;go_wp2_with fail
 go_loopw [6,8,9,10,16] (fun v _ _ _ i wr=>∃ (j:Nat) (acc:List Int),j<=l.length/\i=.int .i64 j/\BV wr w.heap.size v acc/\Hid (AK (BJ) (l.take j)=some acc)/\Below w.heap.size w wr) (fun _ _ _ _ i _=>l.length-(intOf i).toNat)
 case atStart=>exact ⟨0,[],Nat.zero_le _,rfl,HO0.out,A5 rfl,HB0.out⟩
 case round =>
  obtain ⟨j,acc,hj,rfl,hown,HA,hbw⟩:=hrel;have HO:=A5 hown;have HBR:=A5 hbw;clear hown hbw;have hacc:acc.length<=j:=by have:=BF HA.out;rw [List.length_take] at this;omega
  by_cases hlt:j<l.length
  ·obtain ⟨b1,o1,rfl,hb1,hc1⟩:=HR.out (by intro h0;rw [h0] at hlt;exact absurd hlt (Nat.not_lt_zero _));obtain ⟨T,hm⟩:∃ T,l[j]=T:=⟨_,rfl⟩;have hT:=HB.out l[j] (List.getElem_mem _);rw [hm] at hT;have p1:wr.cell? ⟨b1,o1+j,none⟩=some (.string (str T)):=by rw [<- hm];exact (HBR.out.cell (p:=⟨b1,_,none⟩) hb1).trans (hc1 j hlt)
   have hi0:(0:Int)<=(j:Int):=by omega
   have hi1:(j:Int)<(l.length:Int):=by omega
   clear hc1
   cases hx:BJ T with
   | none =>
    have HN:Hid ((AK (BJ) l).map (srt AI)=none):=A5 (by rw [NK hlt (by rw [hm];exact hx)];rfl);have HX:=A5 hx;clear hx hm;go_wp2_with fail;refine (QD T none _ (HE.out.below HBR.out (Nat.le_refl _)) hT HX.out).mono ?_;rintro e v1 ⟨n,hn,rfl,hbv⟩;clear hn;simp only [Option.isSome_none];go_wp2_with fail;go_ret2;exact ⟨andthen HBR.out hbv,Or.inl ⟨HN.out,rfl⟩⟩
   | some x =>
    have HN:=A5 (GB hlt HA.out (by rw [hm];exact hx));have HX:=A5 hx;clear hx hm;go_wp2_with fail;refine (QD T (some x) _ (HE.out.below HBR.out (Nat.le_refl _)) hT HX.out).mono ?_;rintro e v1 ⟨n,hn,rfl,hbv⟩;obtain rfl:=hn x rfl;clear hn;simp only [Option.isSome_some];replace HO:=A5 (HO.out.keep hbv);replace HBR:=A5 (andthen HBR.out hbv);have hz:=HBR.out.size;have hown:=HO.out;have hln:acc.length<=1000000:=by omega
    clear hbv;go_wp2_with (at_builtin;refine FR (l:=acc) (p:=n) rfl _ _ rfl rfl rfl rfl hown hz hln ?_;intro v3 w3 hown3 hb3);have HO3:=A5 hown3;have HB3:=A5 (HBR.out.trans hb3);clear hown hown3 hb3 hz hln;go_wp2_with fail
    go_roundw
    case rel=>exact ⟨j+1,acc++[n],by omega,by go_num,HO3.out,HN,HB3.out⟩
    case measure=>simp [intOf];omega
  ·obtain rfl:j=l.length:=by omega
   rw [List.take_length] at HA;have HF:Hid ((AK (BJ) l).map (srt AI)=some (srt AI acc)):=A5 (by rw [HA.out];rfl);have hne:acc≠[]:=fun g=>H0.out (by have:=BF HA.out;rw [g] at this;exact List.eq_nil_of_length_eq_zero this)
   go_wp2_with fail;refine (YF w.heap.size _ acc _ HO.out hne (by omega)).mono ?_;rintro e v1 ⟨rfl,hown2,hgr⟩;have HB2:=A5 (HBR.out.grown hgr HBR.out.size fun k hk=>(HO.out.lt k hk).1);have HO2:=A5 hown2;clear hgr hown2;go_wp2_with fail;go_ret2;exact ⟨HB2.out,Or.inr ⟨_,_,HF.out,rfl,HO2.out⟩⟩
theorem gN (A:Option Addr) (n c:Nat) (l:List Tx) (w:World) (hl:BU w A l) (h0:l≠[]) (hn:n=l.length) (hsz:l.length<=1000) (hb:∀ p∈l,p.length<=100000) (he:Env w) :
  Calls prog 220 #[.func (.func 217) #[] #[],.slice A n c] w (kD w ((AK (unU.f) l).map (srt AI))):=by
 subst hn;have HR:=A5 hl;have HE:=A5 he;have HB:=A5 hb;have H0:=A5 h0;clear hl he hb h0;go_enter func220,ntmps220;go_wp2_with (refine RL rfl _ _ rfl rfl (n:=l.length) rfl rfl (by omega) ?_;intro v0 w0 hown0 hb0);have HO0:=A5 hown0;have HB0:=A5 hb0;clear hown0 hb0;go_wp2_with fail
 go_loopw [6,8,9,10,16] (fun v _ _ _ i wr=>∃ (j:Nat) (acc:List Int),j<=l.length/\i=.int .i64 j/\BV wr w.heap.size v acc/\Hid (AK (unU.f) (l.take j)=some acc)/\Below w.heap.size w wr) (fun _ _ _ _ i _=>l.length-(intOf i).toNat)
 case atStart=>exact ⟨0,[],Nat.zero_le _,rfl,HO0.out,A5 rfl,HB0.out⟩
 case round =>
  obtain ⟨j,acc,hj,rfl,hown,HA,hbw⟩:=hrel;have HO:=A5 hown;have HBR:=A5 hbw;clear hown hbw;have hacc:acc.length<=j:=by have:=BF HA.out;rw [List.length_take] at this;omega
  by_cases hlt:j<l.length
  ·obtain ⟨b1,o1,rfl,hb1,hc1⟩:=HR.out (by intro h0;rw [h0] at hlt;exact absurd hlt (Nat.not_lt_zero _));obtain ⟨T,hm⟩:∃ T,l[j]=T:=⟨_,rfl⟩;have hT:=HB.out l[j] (List.getElem_mem _);rw [hm] at hT;have p1:wr.cell? ⟨b1,o1+j,none⟩=some (.string (str T)):=by rw [<- hm];exact (HBR.out.cell (p:=⟨b1,_,none⟩) hb1).trans (hc1 j hlt)
   have hi0:(0:Int)<=(j:Int):=by omega
   have hi1:(j:Int)<(l.length:Int):=by omega
   clear hc1
   cases hx:unU.f T with
   | none =>
    have HN:Hid ((AK (unU.f) l).map (srt AI)=none):=A5 (by rw [NK hlt (by rw [hm];exact hx)];rfl);have HX:=A5 hx;clear hx hm;go_wp2_with fail;refine (aZ T none _ HX.out).mono ?_;rintro e v1 ⟨n,hn,rfl,hbv⟩;clear hn;simp only [Option.isSome_none];go_wp2_with fail;go_ret2;exact ⟨andthen HBR.out hbv,Or.inl ⟨HN.out,rfl⟩⟩
   | some x =>
    have HN:=A5 (GB hlt HA.out (by rw [hm];exact hx));have HX:=A5 hx;clear hx hm;go_wp2_with fail;refine (aZ T (some x) _ HX.out).mono ?_;rintro e v1 ⟨n,hn,rfl,hbv⟩;obtain rfl:=hn x rfl;clear hn;simp only [Option.isSome_some];replace HO:=A5 (HO.out.keep hbv);replace HBR:=A5 (andthen HBR.out hbv);have hz:=HBR.out.size;have hown:=HO.out;have hln:acc.length<=1000000:=by omega
    clear hbv;go_wp2_with (at_builtin;refine FR (l:=acc) (p:=n) rfl _ _ rfl rfl rfl rfl hown hz hln ?_;intro v3 w3 hown3 hb3);have HO3:=A5 hown3;have HB3:=A5 (HBR.out.trans hb3);clear hown hown3 hb3 hz hln;go_wp2_with fail
    go_roundw
    case rel=>exact ⟨j+1,acc++[n],by omega,by go_num,HO3.out,HN,HB3.out⟩
    case measure=>simp [intOf];omega
  ·obtain rfl:j=l.length:=by omega
   rw [List.take_length] at HA;have HF:Hid ((AK (unU.f) l).map (srt AI)=some (srt AI acc)):=A5 (by rw [HA.out];rfl);have hne:acc≠[]:=fun g=>H0.out (by have:=BF HA.out;rw [g] at this;exact List.eq_nil_of_length_eq_zero this)
   go_wp2_with fail;refine (YF w.heap.size _ acc _ HO.out hne (by omega)).mono ?_;rintro e v1 ⟨rfl,hown2,hgr⟩;have HB2:=A5 (HBR.out.grown hgr HBR.out.size fun k hk=>(HO.out.lt k hk).1);have HO2:=A5 hown2;clear hgr hown2;go_wp2_with fail;go_ret2;exact ⟨HB2.out,Or.inr ⟨_,_,HF.out,rfl,HO2.out⟩⟩
theorem PL (n:Nat) (t:Tx):Lib.splitN t [44] (n+1)≠[]:=by
 rcases EY 44 n t with ⟨h,_⟩|⟨h,_⟩
 ·rw [h];exact JC 44 t
 ·intro g;rw [g,List.length_nil] at h;omega
def GX:List Tx:=[Ev.AP,Ev.ER,Ev.BR,Ev.CQ,Ev.DG,Ev.nEX,Ev.BP,Ev.DH,Ev.DD]
theorem gO (t:Tx) (w:World):Calls prog 204 #[.string (str t)] w fun e w'=>e=.returned (.bool (decide (t∈GX)))/\w=w':=by
 have q1:=AH t
 by_cases h0:t=Ev.AP
 ·have E:Hid (decide (t∈GX)=true):=A5 (z0H (by rw [h0];decide));have e0:(t==[66,69,71,73,78])=true:=by rw [AO];exact z0H h0
  clear h0;go_enter func204,ntmps204;go_wp2_with fail;go_ret;exact ⟨AA (by rw [E.out]),rfl⟩
 by_cases h1:t=Ev.ER
 ·have E:Hid (decide (t∈GX)=true):=A5 (z0H (by rw [h1];decide));have e0:(t==[66,69,71,73,78])=false:=by rw [AO];exact z0G h0
  have e1:(t==[85,73,68])=true:=by rw [AO];exact z0H h1
  clear h0 h1;go_enter func204,ntmps204;go_wp2_with fail;go_ret;exact ⟨AA (by rw [E.out]),rfl⟩
 by_cases h2:t=Ev.BR
 ·have E:Hid (decide (t∈GX)=true):=A5 (z0H (by rw [h2];decide));have e0:(t==[66,69,71,73,78])=false:=by rw [AO];exact z0G h0
  have e1:(t==[85,73,68])=false:=by rw [AO];exact z0G h1
  have e2:(t==[68,84,83,84,65,82,84])=true:=by rw [AO];exact z0H h2
  clear h0 h1 h2;go_enter func204,ntmps204;go_wp2_with fail;go_ret;exact ⟨AA (by rw [E.out]),rfl⟩
 by_cases h3:t=Ev.CQ
 ·have E:Hid (decide (t∈GX)=true):=A5 (z0H (by rw [h3];decide));have e0:(t==[66,69,71,73,78])=false:=by rw [AO];exact z0G h0
  have e1:(t==[85,73,68])=false:=by rw [AO];exact z0G h1
  have e2:(t==[68,84,83,84,65,82,84])=false:=by rw [AO];exact z0G h2
  have e3:(t==[68,85,82,65,84,73,79,78])=true:=by rw [AO];exact z0H h3
  clear h0 h1 h2 h3;go_enter func204,ntmps204;go_wp2_with fail;go_ret;exact ⟨AA (by rw [E.out]),rfl⟩
 by_cases h4:t=Ev.DG
 ·have E:Hid (decide (t∈GX)=true):=A5 (z0H (by rw [h4];decide));have e0:(t==[66,69,71,73,78])=false:=by rw [AO];exact z0G h0
  have e1:(t==[85,73,68])=false:=by rw [AO];exact z0G h1
  have e2:(t==[68,84,83,84,65,82,84])=false:=by rw [AO];exact z0G h2
  have e3:(t==[68,85,82,65,84,73,79,78])=false:=by rw [AO];exact z0G h3
  have e4:(t==[82,82,85,76,69])=true:=by rw [AO];exact z0H h4
  clear h0 h1 h2 h3 h4;go_enter func204,ntmps204;go_wp2_with fail;go_ret;exact ⟨AA (by rw [E.out]),rfl⟩
 by_cases h5:t=Ev.nEX
 ·have E:Hid (decide (t∈GX)=true):=A5 (z0H (by rw [h5];decide));have e0:(t==[66,69,71,73,78])=false:=by rw [AO];exact z0G h0
  have e1:(t==[85,73,68])=false:=by rw [AO];exact z0G h1
  have e2:(t==[68,84,83,84,65,82,84])=false:=by rw [AO];exact z0G h2
  have e3:(t==[68,85,82,65,84,73,79,78])=false:=by rw [AO];exact z0G h3
  have e4:(t==[82,82,85,76,69])=false:=by rw [AO];exact z0G h4
  have e5:(t==[69,88,68,65,84,69])=true:=by rw [AO];exact z0H h5
  clear h0 h1 h2 h3 h4 h5;go_enter func204,ntmps204;go_wp2_with fail;go_ret;exact ⟨AA (by rw [E.out]),rfl⟩
 by_cases h6:t=Ev.BP
 ·have E:Hid (decide (t∈GX)=true):=A5 (z0H (by rw [h6];decide));have e0:(t==[66,69,71,73,78])=false:=by rw [AO];exact z0G h0
  have e1:(t==[85,73,68])=false:=by rw [AO];exact z0G h1
  have e2:(t==[68,84,83,84,65,82,84])=false:=by rw [AO];exact z0G h2
  have e3:(t==[68,85,82,65,84,73,79,78])=false:=by rw [AO];exact z0G h3
  have e4:(t==[82,82,85,76,69])=false:=by rw [AO];exact z0G h4
  have e5:(t==[69,88,68,65,84,69])=false:=by rw [AO];exact z0G h5
  have e6:(t==[88,45,82,79,79,77,83])=true:=by rw [AO];exact z0H h6
  clear h0 h1 h2 h3 h4 h5 h6;go_enter func204,ntmps204;go_wp2_with fail;go_ret;exact ⟨AA (by rw [E.out]),rfl⟩
 by_cases h7:t=Ev.DH
 ·have E:Hid (decide (t∈GX)=true):=A5 (z0H (by rw [h7];decide));have e0:(t==[66,69,71,73,78])=false:=by rw [AO];exact z0G h0
  have e1:(t==[85,73,68])=false:=by rw [AO];exact z0G h1
  have e2:(t==[68,84,83,84,65,82,84])=false:=by rw [AO];exact z0G h2
  have e3:(t==[68,85,82,65,84,73,79,78])=false:=by rw [AO];exact z0G h3
  have e4:(t==[82,82,85,76,69])=false:=by rw [AO];exact z0G h4
  have e5:(t==[69,88,68,65,84,69])=false:=by rw [AO];exact z0G h5
  have e6:(t==[88,45,82,79,79,77,83])=false:=by rw [AO];exact z0G h6
  have e7:(t==[83,85,77,77,65,82,89])=true:=by rw [AO];exact z0H h7
  clear h0 h1 h2 h3 h4 h5 h6 h7;go_enter func204,ntmps204;go_wp2_with fail;go_ret;exact ⟨AA (by rw [E.out]),rfl⟩
 by_cases h8:t=Ev.DD
 ·have E:Hid (decide (t∈GX)=true):=A5 (z0H (by rw [h8];decide));have e0:(t==[66,69,71,73,78])=false:=by rw [AO];exact z0G h0
  have e1:(t==[85,73,68])=false:=by rw [AO];exact z0G h1
  have e2:(t==[68,84,83,84,65,82,84])=false:=by rw [AO];exact z0G h2
  have e3:(t==[68,85,82,65,84,73,79,78])=false:=by rw [AO];exact z0G h3
  have e4:(t==[82,82,85,76,69])=false:=by rw [AO];exact z0G h4
  have e5:(t==[69,88,68,65,84,69])=false:=by rw [AO];exact z0G h5
  have e6:(t==[88,45,82,79,79,77,83])=false:=by rw [AO];exact z0G h6
  have e7:(t==[83,85,77,77,65,82,89])=false:=by rw [AO];exact z0G h7
  have e8:(t==[69,78,68])=true:=by rw [AO];exact z0H h8
  clear h0 h1 h2 h3 h4 h5 h6 h7 h8;go_enter func204,ntmps204;go_wp2_with fail;go_ret;exact ⟨AA (by rw [E.out]),rfl⟩
 have E:Hid (decide (t∈GX)=false):=A5 (z0G (by simp [GX,h0,h1,h2,h3,h4,h5,h6,h7,h8]));have e0:(t==[66,69,71,73,78])=false:=by rw [AO];exact z0G h0
 have e1:(t==[85,73,68])=false:=by rw [AO];exact z0G h1
 have e2:(t==[68,84,83,84,65,82,84])=false:=by rw [AO];exact z0G h2
 have e3:(t==[68,85,82,65,84,73,79,78])=false:=by rw [AO];exact z0G h3
 have e4:(t==[82,82,85,76,69])=false:=by rw [AO];exact z0G h4
 have e5:(t==[69,88,68,65,84,69])=false:=by rw [AO];exact z0G h5
 have e6:(t==[88,45,82,79,79,77,83])=false:=by rw [AO];exact z0G h6
 have e7:(t==[83,85,77,77,65,82,89])=false:=by rw [AO];exact z0G h7
 have e8:(t==[69,78,68])=false:=by rw [AO];exact z0G h8
 clear h0 h1 h2 h3 h4 h5 h6 h7 h8;go_enter func204,ntmps204;go_wp2_with fail;go_ret;exact ⟨AA (by rw [E.out]),rfl⟩
end Go.Proofs.YtfecnkhoojnkbaaGreatDoor
namespace Go.Proofs.YtfecnkhoojnkbaaGreatDoor
open Go.RowKit Rul Rt Go.Sort Tryz
def G3 (w:World):Prop:=∀ c∈[86,69,78,84,67,65,76,68,82],w.cell? ⟨0,c,none⟩=some (.int .u16 ((c:Int)+32))/\w.cell? ⟨0,c+32,none⟩=some (.int .u16 (c:Int))
theorem G3.below {B:Nat} {w w':World} (h:G3 w) (hb:Below B w w') (hB:w.heap.size<=B):G3 w':=fun c hc =>
 ⟨(hb.cell (p:=⟨_,_,none⟩) (Nat.lt_of_lt_of_le (block_lt_of_cell (h c hc).1) hB)).trans (h c hc).1,(hb.cell (p:=⟨_,_,none⟩) (Nat.lt_of_lt_of_le (block_lt_of_cell (h c hc).2) hB)).trans (h c hc).2⟩
theorem G3.keep {w w':World} (h:G3 w) (hb:Below w.heap.size w w'):G3 w':=h.below hb (Nat.le_refl _)
theorem QE (c d:Nat) (w:World) (hc:c<128) (hd:d<128) (h:w.cell? ⟨0,c,none⟩=some (.int .u16 (d:Int))) :
  Calls prog 110 #[.int .i32 (c:Int)] w fun e w'=>e=.returned (.int .i32 (d:Int))/\w=w':=by
 have q1:decide ((c:Int)<0)=false:=z0G (by omega);have q2:decide (1114111<(c:Int))=false:=z0G (by omega);have q3:(c:Int)<128:=by omega
 have q4:(0:Int)<=(c:Int):=by omega
 have q5:(d:Int)<=127:=by omega
 have q6:(0:Int)<=(d:Int):=by omega
 go_enter func110,ntmps110;go_wp2_with fail;go_ret;exact ⟨rfl,rfl⟩
theorem YG (t:ByteArray) (d:Nat) (w:World) (h0:0<t.size) (hd:(t[0]'h0).toNat=d) (h1:d<128) :
  Calls prog 109 #[.string t] w fun e w'=>e=.returned (.tuple #[.int .i32 (d:Int),.int .i64 1])/\w=w':=by
 have q0:t.data.toList.isEmpty=false:=by
  have:t.data.toList≠[]:=fun g=>by have h2:=AE t;rw [g,List.length_nil] at h2;omega
  cases ht:t.data.toList with
  | nil=>exact absurd ht this
  | cons a b=>rfl
 have q1:=TO t;have q2:((t[0]'h0).toNat:Int)=(d:Int):=by rw [hd]
 have q3:(d:Int)<128:=by omega
 have q4:(0:Int)<(t.size:Int):=by omega
 go_enter func109,ntmps109;go_wp2_with fail;go_ret2;exact ⟨rfl,rfl⟩
def Pre (l:Tx) (k:Nat):Prop:=Li.AW (l.take k)=Ev.wEV.take k
theorem A3c (k:Nat) (h:k<6):(Ev.wEV[k]'h).toNat∈[86,69,78,84,67,65,76,68,82]:=by
 have:∀ k:Fin 6,(Ev.wEV[k.val]'k.isLt).toNat∈[86,69,78,84,67,65,76,68,82]:=by decide
 exact this ⟨k,h⟩
theorem kS (k:Nat) (h:k<6):65<=(Ev.wEV[k]'h).toNat/\(Ev.wEV[k]'h).toNat<=90:=by
 have:∀ k:Fin 6,65<=(Ev.wEV[k.val]'k.isLt).toNat/\(Ev.wEV[k.val]'k.isLt).toNat<=90:=by decide
 exact this ⟨k,h⟩
theorem zI {l:Tx} {k:Nat} (h:Pre l k) (hk:k<l.length) (h6:k<6) (hu:Li.up l[k]=Ev.wEV[k]'h6):Pre l (k+1):=by
 unfold Pre at h ⊢;unfold Li.AW at h ⊢;have e2:Ev.wEV.take (k+1)=Ev.wEV.take k++[Ev.wEV[k]'h6]:=List.take_succ_eq_append_getElem h6;rw [List.take_succ_eq_append_getElem hk,List.map_append,h,e2,List.map_singleton,hu]
theorem nB {l:Tx} {k:Nat} (hk:k<l.length) (h6:k<6) (hu:Li.up l[k]≠Ev.wEV[k]'h6):Li.AW l≠Ev.wEV:=fun g=>by
 apply hu
 have hk2:k<(Li.AW l).length:=by rw [Li.DZ];exact hk
 have:(Li.AW l)[k]'hk2=Li.up l[k]:=by simp [Li.AW]
 rw [<- this];simp only [g];rfl
theorem A1E {l:Tx} (h:Pre l 6) (hl:l.length=6):Li.AW l=Ev.wEV:=by
 unfold Pre at h;rw [List.take_of_length_le (by omega)] at h;exact h
theorem A1F {l:Tx} (hl:l.length≠6):Li.AW l≠Ev.wEV:=fun g=>hl (by have:=congrArg List.length g;rw [Li.DZ] at this;exact this)
theorem YH (c:UInt8) (d:UInt8) (hd:65<=d.toNat/\d.toNat<=90):Li.up c=d↔c=d∨c.toNat=d.toNat+32:=by
 constructor
 ·intro h
  by_cases hs:97<=c.toNat/\c.toNat<=122
  ·rw [Li.PM c hs.1 hs.2] at h
   right
   have:=Li.lR c hs.1;rw [h] at this;omega
  ·rw [Li.KJ c hs] at h;exact Or.inl h
 ·rintro (rfl|h)
  ·exact Li.KJ c (by omega)
  ·rw [Li.PM c (by omega) (by omega)]
   apply UInt8.toNat_inj.1
   rw [Li.lR c (by omega)];omega
structure Odd (s:ByteArray) (k:Nat):Prop where
 k6:k<6
 ks:k<s.size
 high:128<=(s[k]'ks).toNat
theorem Odd.no {s:ByteArray} {k:Nat} (h:Odd s k):Li.AW s.data.toList≠Ev.wEV:=by
 have hk:k<s.data.toList.length:=by rw [AE];exact h.ks
 refine nB hk h.k6 ?_;rw [E9 s k h.ks hk];intro g;have hb:=kS k h.k6;rcases (YH _ _ hb).1 g with e|e
 ·have:=h.high;rw [e] at this;omega
 ·have:=h.high;omega
theorem T_at (k:Nat) (h6:k<6) (h:k<(str Ev.wEV).size):(str Ev.wEV)[k]'h=Ev.wEV[k]'h6:=by
 have:=E9 (str Ev.wEV) k h (by rw [AE];exact h);rw [<- this];simp only [AD];rfl
def FF (s T:ByteArray) (k:Int) (u:Nat->Value):Act:={ tmps:=#[.string s,.string T,u 2,u 3,u 4,.int .i64 k,u 6,u 7,u 8,u 9,u 10,u 11,u 12,u 13,u 14,u 15,u 16,u 17,u 18,u 19,u 20,u 21,u 22,u 23,u 24,u 25,u 26,u 27,u 28,u 29,u 30,u 31,u 32,u 33,u 34,u 35,u 36,u 37,u 38,u 39,u 40,u 41,u 42,u 43,u 44,u 45,u 46,u 47,u 48,u 49,u 50,u 51,u 52,u 53,u 54,u 55,u 56,u 57,u 58,u 59,u 60,u 61,u 62,u 63,u 64,u 65,u 66,u 67,u 68,u 69,u 70,u 71,u 72,u 73,u 74,u 75,u 76,u 77,u 78,u 79,u 80,u 81,u 82,u 83,u 84,u 85,u 86,u 87,u 88,u 89,u 90,u 91,u 92,u 93,u 94,u 95,u 96,u 97,u 98,u 99,u 100,u 101,u 102,u 103,u 104,u 105,u 106,u 107,u 108,u 109,u 110,u 111,u 112,u 113,u 114,u 115,u 116,u 117,u 118,u 119,u 120,u 121,u 122],defers:=[] }
theorem A1W {s T:ByteArray} {k:Int} {a:Act} (h:a=FF s T k (fun n=>a.tmps.getD n undef)):∃ u,a=FF s T k u:=⟨_,h⟩
theorem sD (s:ByteArray) (w:World) (hf:G3 w) (hs:s.size<=100000) :
    Calls prog 75 #[.string s,.string (str Ev.wEV)] w (Ans w (.bool (decide (Li.AW s.data.toList=Ev.wEV)))):=by
  have HF:=A5 hf;obtain ⟨T,hT⟩:∃ T,str Ev.wEV=T:=⟨_,rfl⟩;have hTs:T.size=6:=by rw [<- hT];rfl
  have HT:=A5 hT;rw [hT];clear hT hf;obtain ⟨M,hM⟩:∃ M:Nat,min (s.size:Int) 6=(M:Int):=⟨min s.size 6,by omega⟩;have hMs:M<=s.size:=by omega
  have hMt:M<=6:=by omega
  have hMe:M=s.size∨M=6:=by omega
  go_enter func75,ntmps75;go_wp2_with fail;refine wp_scope_jumps 0 (fun a' w'=>w'=w/\∃ k:Nat,Odd s k/\∃ u,a'=FF s T k u) (fun _ _=>0) rfl ?_ ?_
  · go_wp2_with fail
    go_loopg [5] M (fun g s5 wx=>w=wx/\∃ i:Nat,i+g=M/\s5=.int .i64 i/\Hid (Pre s.data.toList i))
    case atStart=>exact ⟨rfl,0,by omega,rfl,A5 rfl⟩
    case round =>
      obtain ⟨rfl,i,hig,rfl,HP⟩:=hrel
      cases gk with
      | zero =>
        have hiM:¬ ((i:Int)<(M:Int)):=by omega
        obtain rfl:i=M:=by omega
        by_cases hst:s.size=6
        · have hb:((s.size:Int)==6)=true:=beq_iff_eq.2 (by omega)
          have HE:Hid (decide (Li.AW s.data.toList=Ev.wEV)=true):=A5 (z0H (by
            have h6:i=6:=by omega
            have:=HP.out;rw [h6] at this;exact A1E this (by rw [AE];omega)))
          go_wp2_with fail;simp only [Exit.jump];go_ret;exact ⟨by rw [HE.out];rfl,start _⟩
        · have hb:((s.size:Int)==6)=false:=beq_eq_false_iff_ne.2 (by omega)
          have HE:Hid (decide (Li.AW s.data.toList=Ev.wEV)=false):=A5 (z0G (A1F (by rw [AE];omega)));go_wp2_with fail;simp only [Exit.jump];go_ret;exact ⟨by rw [HE.out];rfl,start _⟩
      | succ g =>
        have hiM:(i:Int)<(M:Int):=by omega
        have hisz:(i:Int)<(s.size:Int):=by omega
        have hitz:(i:Int)<6:=by omega
        have hin:i<s.size:=by omega
        have h6:i<6:=by omega
        obtain ⟨x,hx⟩:∃ x:UInt8,s[i]'hin=x:=⟨_,rfl⟩;obtain ⟨y,hy⟩:∃ y:UInt8,T[i]'(by omega)=y:=⟨_,rfl⟩;have hyw:y=Ev.wEV[i]'h6:=by
          rw [<- hy];have:=HT.out;subst this;exact T_at i h6 _
        have hyb:=kS i h6;rw [<- hyw] at hyb;have hxl:i<s.data.toList.length:=by rw [AE];exact hin
        have hxd:s.data.toList[i]=x:=by rw [E9 s i hin,hx]
        have hor:bits .or .u8 (x.toNat:Int) (y.toNat:Int)=((x.toNat ||| y.toNat:Nat):Int):=u8_or_nat _ _ (by have:=x.toNat_lt;omega) (by omega)
        by_cases hx128:x.toNat<128
        · have hor128:¬ ((128:Int)<=((x.toNat ||| y.toNat:Nat):Int)):=by have:=Nat.or_lt_two_pow (n:=7) hx128 (show y.toNat<2 ^ 7 by omega);omega
          by_cases hu:x=y∨x.toNat=y.toNat+32
          · have HN:=A5 (zI HP.out hxl h6 (by rw [hxd,<- hyw];exact (YH x y hyb).2 hu))
            clear hyw hxd hxl;go_wp2_with fail
            all_goals (try simp only [beq_iff_eq,beq_eq_false_iff_ne,ne_eq] at *)
            all_goals first
              | (go_roundg g
                 case measure=>omega
                 case rel=>exact ⟨rfl,i+1,by omega,by first|rfl|simp,HN⟩)
              | (exfalso;rcases hu with rfl | hu <;> omega)
          · have HE:Hid (decide (Li.AW s.data.toList=Ev.wEV)=false):=A5 (z0G (nB hxl h6 (by rw [hxd,<- hyw];exact fun g=>hu ((YH x y hyb).1 g))))
            have hu1:x.toNat≠y.toNat:=fun g=>hu (Or.inl (UInt8.toNat_inj.1 g))
            have hu2:x.toNat≠y.toNat+32:=fun g=>hu (Or.inr g)
            clear hyw hxd hxl hu;go_wp2_with fail
            all_goals (try simp only [beq_eq_false_iff_ne,ne_eq] at *)
            all_goals first
              | (simp only [Exit.jump]
                 go_ret;exact ⟨by rw [HE.out];rfl,start _⟩)
              | (exfalso;omega)
        · have hor128:(128:Int)<=((x.toNat ||| y.toNat:Nat):Int):=by have:x.toNat<=x.toNat ||| y.toNat:=Nat.left_le_or;omega
          have HO:Hid (Odd s i):=A5 ⟨h6,hin,by rw [hx];omega⟩;clear hyw hxd hxl;go_wp2_with fail
          go_step3
          exact ⟨rfl,rfl,i,HO.out,A1W rfl⟩
  · rintro a' w' ⟨rfl,k,ho,u,rfl⟩
    unfold FF;have hk6:=ho.k6;have hks:=ho.ks;have HE:Hid (decide (Li.AW s.data.toList=Ev.wEV)=false):=A5 (z0G ho.no);have k0:(0:Int)<=(k:Int):=by omega
    have k1:(k:Int)<=(s.size:Int):=by omega
    have k2:(k:Int)<=6:=by omega
    have hTk:=HT.out;go_wp2_with fail;have hz1:0<(s.extract k s.size).size:=by rw [ByteArray.size_extract];omega
    have hz2:(s.extract k s.size)[0]'hz1=s[k]'hks:=by rw [ByteArray.getElem_extract];simp
    have hz3:128<=((s.extract k s.size)[0]'hz1).toNat:=by rw [hz2];exact ho.high
    have hy1:0<(T.extract k 6).size:=by rw [ByteArray.size_extract];omega
    have hy2:((T.extract k 6)[0]'hy1).toNat=(Ev.wEV[k]'hk6).toNat:=by
      subst hTk;rw [ByteArray.getElem_extract];simp only [Nat.add_zero];rw [T_at k hk6]
    have hd:=A3c k hk6;have hdb:=kS k hk6;generalize s.extract k s.size=S2 at *;generalize T.extract k 6=T2 at *;generalize (Ev.wEV[k]'hk6).toNat=d at *;have hdh:=(decode_high S2 0 hz1 hz3).1;have hdl:=decode_le S2 0;have hnx:=fun ty=>run_next_any (P:=prog) w' S2 0 ty hz1
    have hbit:Below w'.heap.size w' (w'.iter S2 (0+(Utf8.decode S2 0).2)):=by exact more (start w') _
    generalize (Utf8.decode S2 0).2=n2 at *;generalize (Utf8.decode S2 0).1=R at *;rw [Nat.zero_add] at hbit;have t0:((T2.size:Int)==0)=false:=by rw [beq_eq_false_iff_ne];omega
    have t1:(1:Int)<=(T2.size:Int):=by omega
    have t2:((d:Int)==R)=false:=by rw [beq_eq_false_iff_ne];omega
    have t3:(d:Int)<R:=by omega
    have t4:¬ R<128:=by omega
    have t5:(((d:Int)+32) != (d:Int))=true:=by rw [bne_iff_ne];omega
    have t6:(d:Int)+32<R:=by omega
    have t7:((d:Int) != (d:Int))=false:=by simp
    have hF1:=(HF.out d hd).1;have hF2:=(HF.out d hd).2;have hG1:=A5 (QE d (d+32) (w'.iter S2 n2) (by omega) (by omega) (A9 hbit hF1));have hG2:=A5 (QE (d+32) d (w'.iter S2 n2) (by omega) (by omega) (A9 hbit hF2));have hG3:=A5 (YG T2 d (w'.iter S2 n2) hy1 hy2 (by omega));clear hF1 hF2 hTk hz2 hy2 hd hz3 hdl;refine wp_loop_rounds 1 ?_;rw [rounds_succ];go_wp2_with fail;refine (hG3.out).mono ?_;rintro e w1 ⟨rfl,rfl⟩;go_wp2_with fail;refine (hG1.out).mono ?_;rintro e w1 ⟨rfl,rfl⟩;go_wp2_with fail;refine wp_loop_rounds 2 ?_;rw [rounds_succ];go_wp2_with fail;refine (hG2.out).mono ?_;rintro e w1 ⟨rfl,rfl⟩;go_wp2_with fail;rw [rounds_succ];go_wp2_with fail;simp only [Exit.jump];go_ret;exact ⟨by rw [HE.out];rfl,hbit⟩
theorem W9 (t:Tx) (w:World) (hf:G3 w) (ht:t.length<=100000) :
  Calls prog 216 #[.string (str t)] w (Ans w (.bool (decide (Li.AW t=Ev.wEV)))):=by
 have H:=A5 (sD (str t) w hf (by rw [AB];exact ht));rw [AD] at H;generalize decide (Li.AW t=Ev.wEV)=B at *;generalize str t=S at *;clear hf;go_enter func216,ntmps216;go_wp2_with fail;refine (H.out).mono ?_;rintro e w1 ⟨rfl,hb⟩;go_wp2_with fail;go_ret;exact ⟨rfl,hb⟩
theorem sE (t:Tx) (b:Bool) (w:World) (hf:G3 w) (ht:t.length<=100000) (h:decide (Li.AW t=Ev.wEV)=b) :
  Calls prog 216 #[.string (str t)] w (Ans w (.bool b)):=by subst h;exact W9 t w hf ht
end Go.Proofs.YtfecnkhoojnkbaaGreatDoor

import Derived.Test.YtfecnkhoojnkbaaGreatDoorXM2
namespace Go.Proofs.YtfecnkhoojnkbaaGreatDoor.Rt
open Go.Proofs.YtfecnkhoojnkbaaGreatDoor Rul
def seg (k:Bool) (n v:Tx):Tx:=if k=true then 59 :: (n++61 :: v) else []
theorem IY {k:Bool} (n v:Tx) (h:k=true):seg k n v=59 :: (n++61 :: v):=if_pos h
theorem LC {k:Bool} (n v:Tx) (h:k=false):seg k n v=[]:=by unfold seg;rw [h];rfl
theorem XP (c:UInt8) (x:Tx):∀ l:List Tx,AU c (x :: l)=x++l.flatMap (c :: ·)
 | []=>by simp [AU]
 | y :: l=>by rw [AU,XP c y l,List.flatMap_cons];simp
def p1 (r:T):Tx:=IE++61 :: IU r.fr
def p2 (r:T):Tx:=p1 r++seg (decide (r.ev≠1)) BW (Lib.itoa r.ev)
def p3 (r:T):Tx:=p2 r++seg (decide (0<r.ct)) EA (Lib.itoa r.ct)
def p4 (U:Un) (r:T):Tx:=p3 r++seg (decide (0<=r.un)) EC (U.text r.un)
def p5 (U:Un) (r:T):Tx:=p4 U r++seg (decide (r.ys≠[])) CI (AR Lib.itoa r.ys)
def p6 (U:Un) (r:T):Tx:=p5 U r++seg (decide (r.ms≠[])) BA (AR Lib.itoa r.ms)
def p7 (U:Un) (r:T):Tx:=p6 U r++seg (decide (r.ds≠[])) ED (AR CC r.ds)
theorem KK (U:Un) (p:Part) (ps:List Part):((((p :: ps).filter fun p=>decide (FG U p≠[])).map (ES U)).flatMap (59 :: ·))=seg (decide (FG U p≠[])) (nameOf p) (FG U p)++(((ps.filter fun p=>decide (FG U p≠[])).map (ES U)).flatMap (59 :: ·)):=by
 by_cases h:FG U p=[]
 ·have h2:decide (FG U p≠[])=false:=z0G (fun k=>k h);rw [List.filter_cons_of_neg (by rw [h2];decide),LC _ _ h2];rfl
 ·have h2:decide (FG U p≠[])=true:=z0H h;rw [List.filter_cons_of_pos (p:=fun p=>decide (FG U p≠[])) h2,IY _ _ h2];rfl
theorem wG (n:Int) (h1:1<=n) (h2:n<=4):IU n≠[]:=by
 rcases (by omega:n=1∨n=2∨n=3∨n=4) with rfl|rfl|rfl|rfl <;> decide
theorem XQ {k k2:Bool} (n v v2:Tx) (hk:k=k2) (hv:k=true->v=v2):seg k n v=seg k2 n v2:=by
 subst hk
 cases k with
 | true=>rw [hv rfl]
 | false=>rw [LC _ _ rfl,LC _ _ rfl]
theorem eB (U:Un) (r:T) (h:Rec r):AU 59 ((DF U r).map (ES U))=p7 U r:=by
 have h0:FG U (.fr r.fr)≠[]:=wG _ h.f1 h.f2;have e0:decide (FG U (.fr r.fr)≠[])=true:=z0H h0;have hd:∀ x∈r.ds,CC x≠[]:=fun x hx=>by
  obtain ⟨_,hall,_⟩:=(CX UD (0,0) r.ds).1 h.ds;exact lK x (hall x hx)
 have k1:decide (FG U (.ev r.ev)≠[])=decide (r.ev≠1):=by
  show decide ((if r.ev=1 then [] else Lib.itoa r.ev)≠[])=_
  by_cases g:r.ev=1
  ·rw [if_pos g];simp [g]
  ·rw [if_neg g];simp [g,I2]
 have k2:decide (FG U (.ct r.ct)≠[])=decide (0<r.ct):=by
  have:=h.c1
  show decide ((if r.ct=0 then [] else Lib.itoa r.ct)≠[])=_
  by_cases g:r.ct=0
  ·rw [if_pos g];simp [g]
  ·rw [if_neg g];rw [z0H (I2 r.ct),z0H (by omega)]
 have k3:decide (FG U (.un r.un)≠[])=decide (0<=r.un):=by
  have h1:=h.u1;have h2:=h.u2
  show decide (U.text r.un≠[])=_
  by_cases g:0<=r.un
  ·rw [z0H g,z0H (U.some r.un g (by omega))]
  ·obtain e:r.un=-1:=by omega
   rw [z0G g,z0G];intro k;apply k;rw [e];exact U.nil
 have kl:∀ {α:Type} [DecidableEq α] (f:α->Tx) (l:List α),(∀ x∈l,f x≠[])->decide (AR f l≠[])=decide (l≠[]):=fun f l hf=>by
  have:AR f l=[]↔l=[]:=by
   unfold AR
   match l with
   | []=>simp [AU]
   | [x]=>have:=hf x (by simp);simp [AU,this]
   | x :: y :: r=>simp [AU]
  by_cases g:l=[]
  ·rw [z0G (fun k=>k (this.2 g)),z0G (fun k=>k g)]
  ·have g2:AR f l≠[]:=fun k=>g (this.1 k)
   rw [z0H g2,z0H g]
 have k4:decide (FG U (.ys r.ys)≠[])=decide (r.ys≠[]):=kl Lib.itoa r.ys (fun x _=>I2 x);have k5:decide (FG U (.ms r.ms)≠[])=decide (r.ms≠[]):=kl Lib.itoa r.ms (fun x _=>I2 x);have k6:decide (FG U (.ds r.ds)≠[])=decide (r.ds≠[]):=kl CC r.ds hd;have v1:decide (r.ev≠1)=true->FG U (.ev r.ev)=Lib.itoa r.ev:=fun g=>by
  exact if_neg (of_decide_eq_true g)
 have v2:decide (0<r.ct)=true->FG U (.ct r.ct)=Lib.itoa r.ct:=fun g=>by
  have:=of_decide_eq_true g;exact if_neg (by omega)
 unfold DF UL;rw [List.filter_cons_of_pos (p:=fun p=>decide (FG U p≠[])) e0,List.map_cons,XP,KK,KK,KK,KK,KK,KK];rw [XQ _ _ _ k1 (fun g=>v1 (k1▸g)),XQ _ _ _ k2 (fun g=>v2 (k2▸g)),k3,k4,k5,k6];unfold p7 p6 p5 p4 p3 p2 p1;simp [ES,nameOf,FG,List.append_assoc]
structure DJ {α:Type} (lt:α->α->Bool) (x:α) (l:List α) (j:Nat) (out:List α) (d:Bool):Prop where
 no:x∉l.take j
 rest:(d=false/\out=l.take j/\l.take j++KE lt x (l.drop j)=KE lt x l)∨(d=true/\out++l.drop j=KE lt x l)
variable {α:Type} {lt:α->α->Bool} {x:α} {l:List α} {j:Nat} {out:List α} {d:Bool}
theorem DJ.zero (lt:α->α->Bool) (x:α) (l:List α):DJ lt x l 0 [] false:=⟨by simp,Or.inl ⟨rfl,rfl,rfl⟩⟩
theorem DJ.ahead (h:DJ lt x l j out false) (hj:j<l.length) (hne:l[j]≠x) (hl:lt x l[j]=true):DJ lt x l (j+1) ((out++[x])++[l[j]]) true:=by
 refine ⟨?_,Or.inr ⟨rfl,?_⟩⟩
 ·rw [List.take_succ_eq_append_getElem hj,List.mem_append,List.mem_singleton];rintro (g|g)
  ·exact h.no g
  ·exact hne g.symm
 ·rcases h.rest with ⟨_,rfl,e⟩|⟨e,_⟩
  ·rw [List.drop_eq_getElem_cons hj] at e;rw [<- e];unfold KE;rw [if_pos hl];simp
  ·cases e
theorem DJ.skip (h:DJ lt x l j out false) (hj:j<l.length) (hne:l[j]≠x) (hl:lt x l[j]=false):DJ lt x l (j+1) (out++[l[j]]) false:=by
 refine ⟨?_,Or.inl ⟨rfl,?_,?_⟩⟩
 ·rw [List.take_succ_eq_append_getElem hj,List.mem_append,List.mem_singleton];rintro (g|g)
  ·exact h.no g
  ·exact hne g.symm
 ·rcases h.rest with ⟨_,rfl,e⟩|⟨e,_⟩
  ·rw [List.take_succ_eq_append_getElem hj]
  ·cases e
 ·rcases h.rest with ⟨_,rfl,e⟩|⟨e,_⟩
  ·rw [<- e,List.drop_eq_getElem_cons hj,KE,if_neg (by rw [hl];decide),List.take_succ_eq_append_getElem hj,List.append_assoc];rfl
  ·cases e
theorem DJ.past (h:DJ lt x l j out true) (hj:j<l.length) (hne:l[j]≠x):DJ lt x l (j+1) (out++[l[j]]) true:=by
 refine ⟨?_,Or.inr ⟨rfl,?_⟩⟩
 ·rw [List.take_succ_eq_append_getElem hj,List.mem_append,List.mem_singleton];rintro (g|g)
  ·exact h.no g
  ·exact hne g.symm
 ·rcases h.rest with ⟨e,_⟩|⟨_,e⟩
  ·cases e
  ·rw [<- e,List.drop_eq_getElem_cons hj];simp
theorem DJ.last (h:DJ lt x l l.length out false):out++[x]=KE lt x l/\x∉l:=by
 have hn:=h.no;rw [List.take_length] at hn;rcases h.rest with ⟨_,rfl,e⟩|⟨e,_⟩
 ·rw [List.take_length,List.drop_length] at e;rw [List.take_length];exact ⟨e,hn⟩
 ·cases e
theorem DJ.done (h:DJ lt x l l.length out true):out=KE lt x l/\x∉l:=by
 have hn:=h.no;rw [List.take_length] at hn;rcases h.rest with ⟨e,_⟩|⟨_,e⟩
 ·cases e
 ·rw [List.drop_length,List.append_nil] at e;exact ⟨e,hn⟩
def PZ [DecidableEq α] (lt:α->α->Bool) (x:α) (l:List α):Option (List α):=if x∈l then none else some (KE lt x l)
theorem KM [DecidableEq α] (h:x∉l):PZ lt x l=some (KE lt x l):=if_neg h
theorem ZH [DecidableEq α] (h:x∈l):PZ lt x l=none:=if_pos h
theorem wH (lt:α->α->Bool) (x:α) (l:List α):(KE lt x l).length=l.length+1:=(J4 lt x l).length_eq
theorem GA {β:Type} [DecidableEq β] {lt:β->β->Bool} {f:α->Option β}:∀ (ts:List α) (t:α) (acc:List β) {k:List β},CG lt f ts acc=some k->CG lt f (ts++[t]) acc=match f t with
  | none=>none
  | some x=>PZ lt x k
 | [],t,acc,k,h=>by
  injection h with h;subst h;simp only [List.nil_append,CG,PZ]
  cases f t with
  | none=>rfl
  | some x=>rfl
 | u :: ts,t,acc,k,h=>by
  rw [List.cons_append];unfold CG at h ⊢
  cases hu:f u with
  | none=>rw [hu] at h;cases h
  | some y =>
   rw [hu] at h;simp only at h ⊢
   split at h
   ·cases h
   ·rename_i hy
    rw [if_neg hy];exact GA ts t _ h
theorem SI {β:Type} [DecidableEq β] {lt:β->β->Bool} {f:α->Option β}:∀ (ts us:List α) (acc:List β),CG lt f ts acc=none->CG lt f (ts++us) acc=none
 | [],us,acc,h=>by cases h
 | u :: ts,us,acc,h=>by
  rw [List.cons_append];unfold CG at h ⊢
  cases hu:f u with
  | none=>rfl
  | some y =>
   rw [hu] at h;simp only at h ⊢
   split
   ·rfl
   ·rename_i hy
    rw [if_neg hy] at h;exact SI ts us _ h
theorem EK {β:Type} [DecidableEq β] {lt:β->β->Bool} {f:α->Option β} {ts:List α} {k:List β} {j:Nat} (hj:j<ts.length) (h:CG lt f (ts.take j) []=some k) (hn:(match f ts[j] with|none=>none|some x=>PZ lt x k)=none):CG lt f ts []=none:=by
 have e:=GA (ts.take j) ts[j] [] h;rw [hn,<- List.take_succ_eq_append_getElem hj] at e;have:=SI _ (ts.drop (j+1)) _ e
 rwa [List.take_append_drop] at this
theorem JJ {β:Type} [DecidableEq β] {lt:β->β->Bool} {f:α->Option β}:∀ (ts:List α) (acc k:List β),CG lt f ts acc=some k->k.length=acc.length+ts.length
 | [],acc,k,h=>by injection h with h;subst h;rfl
 | u :: ts,acc,k,h=>by
  unfold CG at h
  cases hu:f u with
  | none=>rw [hu] at h;cases h
  | some y =>
   rw [hu] at h;simp only at h
   split at h
   ·cases h
   ·rw [JJ ts _ _ h,wH,List.length_cons];omega
end Go.Proofs.YtfecnkhoojnkbaaGreatDoor.Rt

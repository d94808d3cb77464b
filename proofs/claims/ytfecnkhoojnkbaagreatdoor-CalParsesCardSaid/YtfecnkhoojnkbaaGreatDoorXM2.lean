import Derived.Lib.ItoaNum
import Derived.Lib.AtoiAllCases
import Derived.Lib.SplitLaws
import Derived.Lib.Join
import Derived.Test.YtfecnkhoojnkbaaGreatDoorXM1
namespace Go.Proofs.YtfecnkhoojnkbaaGreatDoor.Rt
open Go.Proofs.YtfecnkhoojnkbaaGreatDoor Rul
abbrev Tx:=List UInt8
def dgt (c:UInt8):Bool:=decide (48<=c.toNat/\c.toNat<=57)
def vl (l:Tx):Nat:=l.foldl (fun a c=>10*a+(c.toNat-48)) 0
theorem IV (l:Tx) (c:UInt8):vl (l++[c])=10*vl l+(c.toNat-48):=by simp [vl,List.foldl_append]
theorem IW (c:UInt8):dgt c=true↔48<=c.toNat/\c.toNat<=57:=by simp [dgt]
theorem T9 (d:Nat) (h:d<10):(UInt8.ofNat (48+d)).toNat=48+d:=by rw [UInt8.toNat_ofNat'];omega
theorem byte_back (c:UInt8) (h:dgt c=true):UInt8.ofNat (48+(c.toNat-48))=c:=by
 rw [IW] at h
 apply UInt8.toNat_inj.1
 rw [T9 _ (by omega)];omega
structure Canon (l:Tx):Prop where
 ne:l≠[]
 all:l.all dgt=true
 head:l.head?=some 48->l.length=1
theorem EI (u:Nat) (h:u<10):Lib.decDigits u=[UInt8.ofNat (48+u)]:=by rw [Lib.decDigits,dif_pos h]
theorem L8 (u:Nat) (h:¬ u<10):Lib.decDigits u=Lib.decDigits (u / 10)++[UInt8.ofNat (48+u % 10)]:=by rw [Lib.decDigits,dif_neg h]
theorem OA (u:Nat):Lib.decDigits u≠[]:=by
 by_cases h:u<10
 ·rw [EI u h];simp
 ·rw [L8 u h];simp
theorem N0:∀ u:Nat,(Lib.decDigits u).all dgt=true
 | u=>by
  by_cases h:u<10
  ·rw [EI u h];simp [IW];omega
  ·rw [L8 u h,List.all_append,N0 (u / 10)];simp [IW];omega
 termination_by u=>u
 decreasing_by omega
theorem UA:∀ u:Nat,1<=u->(Lib.decDigits u).head?≠some 48
 | u,h1=>by
  by_cases h:u<10
  ·rw [EI u h];intro e;simp only [List.head?_cons,Option.some.injEq] at e;have:=T9 u h;rw [e] at this;have e2:(48:UInt8).toNat=48:=rfl;omega
  ·rw [L8 u h];have:=UA (u / 10) (by omega);rw [List.head?_append]
   cases hd:(Lib.decDigits (u / 10)).head? with
   | none=>exact absurd (List.head?_eq_none_iff.1 hd) (OA _)
   | some x=>rw [hd] at this;simpa using this
 termination_by u=>u
 decreasing_by omega
theorem X3 (u:Nat):Canon (Lib.decDigits u):=by
 refine ⟨OA u,N0 u,fun h=>?_⟩;rcases Nat.eq_zero_or_pos u with rfl|h1
 ·rw [EI 0 (by omega)];rfl
 ·exact absurd h (UA u h1)
theorem YX:∀ u:Nat,vl (Lib.decDigits u)=u
 | u=>by
  by_cases h:u<10
  ·rw [EI u h]
   show 10*0+((UInt8.ofNat (48+u)).toNat-48)=u
   rw [T9 u h];omega
  ·rw [L8 u h,IV,YX (u / 10),T9 _ (by omega)];omega
 termination_by u=>u
 decreasing_by omega
theorem iM:∀ (k:Nat) (l:Tx),l.length=k->Canon l->Lib.decDigits (vl l)=l
 | 0,l,hk,h=>absurd (List.eq_nil_of_length_eq_zero hk) h.ne
 | k+1,l,hk,h=>by
  rcases List.eq_nil_or_concat l with rfl|⟨m,c,rfl⟩
  ·simp at hk
  rw [List.concat_eq_append] at *;have hall:=h.all;rw [List.all_append,Bool.and_eq_true] at hall;have hc:dgt c=true:=by simpa using hall.2
  have hcb:=(IW c).1 hc;rw [IV]
  by_cases hm:m=[]
  ·subst hm;have:vl []=0:=rfl;rw [this,EI _ (by omega),Nat.mul_zero,Nat.zero_add,byte_back c hc];rfl
  ·have hlm:m.length=k:=by simpa using hk
   have hmp:0<m.length:=List.length_pos_iff.2 hm;have hhead:m.head?≠some 48:=fun e=>by
    have:=h.head (by rw [List.head?_append,e];rfl);rw [z0J,List.length_singleton] at this;omega
   have ih:=iM k m hlm ⟨hm,hall.1,fun e=>absurd e hhead⟩;have hpos:1<=vl m:=by
    rcases Nat.eq_zero_or_pos (vl m) with e|e
    ·rw [e,EI 0 (by omega)] at ih;exact absurd (by rw [<- ih];rfl) hhead
    ·exact e
   rw [L8 _ (by omega)];have e1:(10*vl m+(c.toNat-48)) / 10=vl m:=by omega
   have e2:(10*vl m+(c.toNat-48)) % 10=c.toNat-48:=by omega
   rw [e1,e2,ih,byte_back c hc]
theorem lF:∀ (k:Nat) (l:Tx),l.length=k->l.all dgt=true->vl l<10 ^ k
 | 0,l,hk,_=>by rw [List.eq_nil_of_length_eq_zero hk];decide
 | k+1,l,hk,h=>by
  rcases List.eq_nil_or_concat l with rfl|⟨m,c,rfl⟩
  ·simp at hk
  rw [List.concat_eq_append] at *;rw [List.all_append,Bool.and_eq_true] at h;have hc:dgt c=true:=by simpa using h.2
  have hcb:=(IW c).1 hc;have ih:=lF k m (by simpa using hk) h.1;rw [IV,Nat.pow_succ];omega
theorem PA:∀ (k u:Nat),u<10 ^ (k+1)->(Lib.decDigits u).length<=k+1
 | 0,u,h=>by rw [EI u (by simpa using h)];simp
 | k+1,u,h=>by
  by_cases hu:u<10
  ·rw [EI u hu];simp
  ·rw [L8 u hu,z0J];have:=PA k (u / 10) (by rw [Nat.pow_succ] at h;omega);simp only [List.length_cons,List.length_nil];omega
def cL (c:UInt8):Bool:=dgt c||c==45
theorem A02 (u:Nat):Lib.itoa (u:Int)=Lib.decDigits u:=by unfold Lib.itoa;rw [if_neg (by omega)];simp
theorem TA (n:Int) (h:n<0):Lib.itoa n=45 :: Lib.decDigits n.natAbs:=by unfold Lib.itoa;rw [if_pos h]
theorem IA (n:Int) (h:0<=n):Lib.itoa n=Lib.decDigits n.toNat:=by unfold Lib.itoa;rw [if_neg (by omega)]
theorem I2 (n:Int):Lib.itoa n≠[]:=by unfold Lib.itoa;split;simp;exact OA _
theorem L9 (n:Int):(Lib.itoa n).all cL=true:=by
 have h:∀ u,(Lib.decDigits u).all cL=true:=fun u=>by
  rw [List.all_eq_true];intro c hc;have:=List.all_eq_true.1 (N0 u) c hc;simp [cL,this]
 unfold Lib.itoa;split
 ·rw [List.all_cons,h];rfl
 ·exact h _
theorem A2j (c:UInt8) (h:dgt c=true):c≠45:=by intro e;subst e;revert h;decide
def BJ (t:Tx):Option Int:=match Lib.atoiAll t with
 | .ok v=>if Lib.itoa v=t then some v else none
 | _=>none
def EX (n:Int):Prop:=-9223372036854775808<=n/\n<=9223372036854775807
theorem X4 {t:Tx} {n:Int} (h:BJ t=some n):t=Lib.itoa n/\EX n/\Lib.atoiAll t=.ok n:=by
 unfold BJ at h
 split at h
 ·rename_i v hv
  split at h
  ·rename_i he
   injection h with h;subst h;exact ⟨he.symm,Lib.atoiAll_bounds hv,hv⟩
  ·cases h
 ·cases h
theorem lG:∀ (l:Tx) (a:Nat),l.all dgt=true->l.foldl (fun a c=>10*a+(c.toNat-48)) a<18446744073709551616->Lib.parseUint10 a l=.ok (l.foldl (fun a c=>10*a+(c.toNat-48)) a)
 | [],a,_,_=>rfl
 | c :: r,a,h,hl=>by
  rw [List.all_cons,Bool.and_eq_true] at h;have hc:=(IW c).1 h.1;have hmono:∀ (l:Tx) (a:Nat),a<=l.foldl (fun a c=>10*a+(c.toNat-48)) a:=fun l=>by
   induction l with
   | nil=>intro a;exact Nat.le_refl _
   | cons d l ih=>intro a;have:=ih (10*a+(d.toNat-48));rw [List.foldl_cons];omega
  have hm:=hmono r (10*a+(c.toNat-48));rw [List.foldl_cons] at hl ⊢;unfold Lib.parseUint10;rw [if_pos hc,if_neg (by omega),if_neg (by omega),Nat.mul_comm a 10];exact lG r _ h.2 hl
theorem lH (u:Nat) (h:u<18446744073709551616):Lib.parseMag (Lib.decDigits u)=.ok u:=by
 unfold Lib.parseMag;rw [if_neg (OA u)];have e:(Lib.decDigits u).foldl (fun a c=>10*a+(c.toNat-48)) 0=u:=YX u;have:=lG (Lib.decDigits u) 0 (N0 u) (by rw [e];exact h);rw [e] at this;exact this
theorem oK (n:Int) (h:EX n):Lib.atoiAll (Lib.itoa n)=.ok n:=by
 obtain ⟨h1,h2⟩:=h
 by_cases hn:n<0
 ·rw [TA n hn,Lib.atoiAll_minus,lH _ (by omega)];simp only [Lib.signed];rw [if_neg (by omega)]
  congr 1;omega
 ·rw [IA n (by omega)];obtain ⟨c,r,e⟩:∃ c r,Lib.decDigits n.toNat=c :: r:=List.exists_cons_of_ne_nil (OA _);have ha:=N0 n.toNat
  rw [e,List.all_cons,Bool.and_eq_true] at ha;have hc:=(IW c).1 ha.1;rw [e,Lib.atoiAll_plain c r (by omega) (by omega),<- e,lH _ (by omega)];simp only [Lib.signless];rw [if_neg (by omega)]
  congr 1;omega
theorem KC (n:Int) (h:EX n):BJ (Lib.itoa n)=some n:=by
 unfold BJ;rw [oK n h];simp
theorem JB (t:Tx) (n:Int):BJ t=some n↔t=Lib.itoa n/\EX n :=
 ⟨fun h=>⟨(X4 h).1,(X4 h).2.1⟩,fun ⟨h1,h2⟩=>h1▸KC n h2⟩
def FN (t:Tx) (neg:Bool):Bool:=decide (1<=t.length)&&(decide (t.length<=8)&&(!(t.head?==some 48&&(decide (1<t.length)||neg))&&t.all dgt))
def G6 (t:Tx) (below:Bool):Bool:=below&&(decide (1<t.length)&&t.head?==some 45)
def B8 (t:Tx) (below:Bool):Option Int :=
 if G6 t below then (if FN t.tail true then some (-(vl t.tail:Int)) else none)
 else if FN t false then some (vl t:Int) else none
theorem PB (t:Tx) (neg:Bool):FN t neg=true↔Canon t/\t.length<=8/\(neg=true->t.head?≠some 48):=by
 unfold FN;simp only [Bool.and_eq_true,decide_eq_true_eq,Bool.not_eq_true',Bool.and_eq_false_iff,beq_eq_false_iff_ne,Bool.or_eq_false_iff,decide_eq_false_iff_not]
 constructor
 ·rintro ⟨h1,h2,h3,h4⟩;refine ⟨⟨fun e=>by rw [e] at h1;simp at h1,h4,fun e=>?_⟩,h2,fun e=>?_⟩
  ·rcases h3 with h3|h3
   ·exact absurd e h3
   ·omega
  ·rcases h3 with h3|h3
   ·exact h3
   ·rw [e] at h3;cases h3.2
 ·rintro ⟨h,h2,h3⟩;refine ⟨List.length_pos_iff.2 h.ne,h2,?_,h.all⟩
  by_cases e:t.head?=some 48
  ·refine Or.inr ⟨by rw [h.head e];omega,?_⟩
   cases neg
   ·rfl
   ·exact absurd e (h3 rfl)
  ·exact Or.inl e
theorem IB (t:Tx) (b:Bool) (n:Int):B8 t b=some n↔t=Lib.itoa n/\(-100000000<n/\n<100000000)/\(b=false->0<=n):=by
 unfold B8
 constructor
 ·intro h
  split at h
  ·rename_i hm
   split at h
   ·rename_i hg
    injection h with h;obtain ⟨hc,h8,hz⟩:=(PB _ _).1 hg;have e:=iM _ _ rfl hc;have hlt:=lF _ _ rfl hc.all;have hp:(10:Nat) ^ t.tail.length<=10 ^ 8:=Nat.pow_le_pow_right (by omega) h8;have h1:1<=vl t.tail:=by
     rcases Nat.eq_zero_or_pos (vl t.tail) with g|g
     ·rw [g,EI 0 (by omega)] at e;exact absurd (by rw [<- e];rfl) (hz rfl)
     ·exact g
    unfold G6 at hm;simp only [Bool.and_eq_true,decide_eq_true_eq,beq_iff_eq] at hm;obtain ⟨hb,hl,hh⟩:=hm;obtain ⟨c,r,rfl⟩:∃ c r,t=c :: r:=List.exists_cons_of_ne_nil (fun e=>by rw [e] at hl;simp at hl);simp only [List.head?_cons,Option.some.injEq,List.tail_cons] at *;subst h hh;refine ⟨?_,by omega,fun e=>by rw [e] at hb;cases hb⟩;rw [TA _ (by omega),show (-(vl r:Int)).natAbs=vl r by omega,e]
   ·cases h
  ·split at h
   ·rename_i hg
    injection h with h;obtain ⟨hc,h8,hz⟩:=(PB _ _).1 hg;have e:=iM _ _ rfl hc;have hlt:=lF _ _ rfl hc.all;have hp:(10:Nat) ^ t.length<=10 ^ 8:=Nat.pow_le_pow_right (by omega) h8;subst h;exact ⟨by rw [A02,e],by omega,fun _=>by omega⟩
   ·cases h
 ·rintro ⟨rfl,⟨h1,h2⟩,h3⟩
  by_cases hn:n<0
  ·have hb:b=true:=by cases b;exact absurd (h3 rfl) (by omega);rfl
   have hl:=PA 7 n.natAbs (by omega);rw [TA n hn];have hm:G6 (45 :: Lib.decDigits n.natAbs) b=true:=by
    unfold G6;have:=List.length_pos_iff.2 (OA n.natAbs);simp [hb];omega
   rw [if_pos hm,List.tail_cons,if_pos ((PB _ _).2 ⟨X3 _,hl,fun _=>UA _ (by omega)⟩),YX]
   congr 1;omega
  ·have hl:=PA 7 n.toNat (by omega);rw [IA n (by omega)];have hm:G6 (Lib.decDigits n.toNat) b=false:=by
    unfold G6;obtain ⟨c,r,e⟩:∃ c r,Lib.decDigits n.toNat=c :: r:=List.exists_cons_of_ne_nil (OA _);have ha:=N0 n.toNat
    rw [e,List.all_cons,Bool.and_eq_true] at ha;rw [e];simp [A2j c ha.1]
   rw [if_neg (by rw [hm];simp),if_pos ((PB _ _).2 ⟨X3 _,hl,fun e=>by cases e⟩),YX]
   congr 1;omega
end Go.Proofs.YtfecnkhoojnkbaaGreatDoor.Rt
namespace Go.Proofs.YtfecnkhoojnkbaaGreatDoor.Rt
open Go.Proofs.YtfecnkhoojnkbaaGreatDoor Rul
def cutAt (c:UInt8):Tx->List Tx
 | []=>[[]]
 | b :: l=>if b=c then [] :: cutAt c l else match cutAt c l with
  | []=>[[b]]
  | p :: r=>(b :: p) :: r
theorem JC (c:UInt8):∀ l,cutAt c l≠[]
 | []=>by simp [cutAt]
 | b :: l=>by
  unfold cutAt
  split
  ·simp
  ·split <;> simp
theorem GU (c:UInt8):∀ l:Tx,c∉l->cutAt c l=[l]
 | [],_=>rfl
 | b :: l,h=>by
  have hb:b≠c:=fun e=>h (e▸List.mem_cons_self)
  unfold cutAt;rw [if_neg hb,GU c l fun g=>h (List.mem_cons_of_mem _ g)]
theorem KD (c:UInt8) (q:Tx):∀ p:Tx,c∉p->cutAt c (p++c :: q)=p :: cutAt c q
 | [],_=>by rw [List.nil_append,cutAt,if_pos rfl]
 | b :: p,h=>by
  have hb:b≠c:=fun e=>h (e▸List.mem_cons_self)
  rw [List.cons_append,cutAt,if_neg hb,KD c q p fun g=>h (List.mem_cons_of_mem _ g)]
theorem OB (c b:UInt8):∀ l:Tx,cutAt c (l++[b])=if b=c then cutAt c l++[[]] else (cutAt c l).dropLast++[(cutAt c l).getLastD []++[b]]
 | []=>by
  rw [List.nil_append]
  by_cases h:b=c
  ·simp [cutAt,h]
  ·simp [cutAt,h]
 | a :: l=>by
  have ih:=OB c b l;obtain ⟨p,r,e⟩:=List.exists_cons_of_ne_nil (JC c l)
  by_cases ha:a=c
  ·rw [List.cons_append,cutAt,if_pos ha,ih];have e2:cutAt c (a :: l)=[] :: cutAt c l:=by rw [cutAt,if_pos ha]
   rw [e2,e]
   split <;> simp
  ·have e2:cutAt c (a :: l)=(a :: p) :: r:=by rw [cutAt,if_neg ha,e]
   rw [List.cons_append,cutAt,if_neg ha,ih,e2,e]
   by_cases hb:b=c
   ·rw [if_pos hb,if_pos hb];rfl
   ·rw [if_neg hb,if_neg hb]
    cases r with
    | nil=>rfl
    | cons x r=>simp
def AU (c:UInt8):List Tx->Tx
 | []=>[]
 | [p]=>p
 | p :: q :: r=>p++c :: AU c (q :: r)
theorem RU (c:UInt8) (p:Tx) (r:List Tx) (h:r≠[]):AU c (p :: r)=p++c :: AU c r:=by
 cases r with
 | nil=>exact absurd rfl h
 | cons q r=>rfl
theorem ME (c:UInt8):∀ ps:List Tx,ps≠[]->(∀ p∈ps,c∉p)->cutAt c (AU c ps)=ps
 | [],h,_=>absurd rfl h
 | [p],_,h=>GU c p (h p (by simp))
 | p :: q :: r,_,h=>by
  rw [AU,KD c _ p (h p (by simp)),ME c (q :: r) (by simp) fun x hx=>h x (List.mem_cons_of_mem _ hx)]
theorem PC (c:UInt8):∀ l:Tx,AU c (cutAt c l)=l
 | []=>rfl
 | b :: l=>by
  have ih:=PC c l;obtain ⟨x,r,e⟩:=List.exists_cons_of_ne_nil (JC c l);unfold cutAt
  by_cases hb:b=c
  ·rw [if_pos hb,RU c _ _ (JC c l),ih,hb];rfl
  ·rw [if_neg hb,e];rw [e] at ih
   cases r with
   | nil=>simpa [AU] using congrArg (b :: ·) ih
   | cons y r=>simpa [AU] using congrArg (b :: ·) ih
theorem cM (c:UInt8):∀ ps:List Tx,Lib.join ps [c]=AU c ps
 | []=>rfl
 | [p]=>Lib.join_one p _
 | p :: q :: r=>by
  rw [AU,<- cM c (q :: r),Lib.join_cons,Lib.join_cons];simp [Lib.joinTail]
theorem QO (c:UInt8) (p:Tx):∀ ps:List Tx,ps≠[]->AU c (ps++[p])=AU c ps++c :: p
 | [],h=>absurd rfl h
 | [q],_=>rfl
 | q :: x :: r,_=>by
  rw [List.cons_append,RU c q _ (by simp),QO c p (x :: r) (by simp),AU];simp
theorem index_hit (c:UInt8) (q:Tx):∀ p:Tx,c∉p->Lib.index (p++c :: q) [c]=(p.length:Int)
 | [],_=>by rw [List.nil_append,Lib.index];simp [List.isPrefixOf]
 | b :: p,h=>by
  have hb:b≠c:=fun e=>h (e▸List.mem_cons_self)
  have hp:([c]:Tx).isPrefixOf (b :: (p++c :: q))=false:=by simp [List.isPrefixOf,Ne.symm hb]
  have ih:=index_hit c q p fun g=>h (List.mem_cons_of_mem _ g)
  rw [List.cons_append,Lib.index,hp,ih];simp only [Bool.false_eq_true,if_false];rw [if_neg (by rw [beq_iff_eq];omega)];simp
theorem OC (c:UInt8):∀ l:Tx,c∉l->Lib.index l [c]=-1
 | [],_=>by simp [Lib.index]
 | b :: l,h=>by
  have hb:b≠c:=fun e=>h (e▸List.mem_cons_self)
  have hp:([c]:Tx).isPrefixOf (b :: l)=false:=by simp [List.isPrefixOf,Ne.symm hb]
  rw [Lib.index,hp,OC c l fun g=>h (List.mem_cons_of_mem _ g)];simp
theorem IC (c:UInt8):∀ l:Tx,c∈l->∃ p q,l=p++c :: q/\c∉p
 | [],h=>by simp at h
 | b :: l,h=>by
  by_cases hb:b=c
  ·exact ⟨[],l,by rw [hb];rfl,by simp⟩
  ·obtain ⟨p,q,e,hp⟩:=IC c l (by rcases List.mem_cons.1 h with g|g;exact absurd g.symm hb;exact g);exact ⟨b :: p,q,by rw [e];rfl,by intro g;rcases List.mem_cons.1 g with g|g;exact hb g.symm;exact hp g⟩
theorem YY (c:UInt8) (p q:Tx) (h:c∉p):Lib.cut (p++c :: q) [c]=(p,q,true):=by
 unfold Lib.cut;rw [index_hit c q p h,if_pos (by omega),Int.toNat_natCast];simp
theorem cN (c:UInt8) (l:Tx) (h:c∉l):Lib.cut l [c]=(l,[],false):=by
 unfold Lib.cut;rw [OC c l h,if_neg (by omega)]
theorem UB (c:UInt8) (k:Nat) (p q:Tx) (h:c∉p):Lib.splitK [c] 0 (k+1) (p++c :: q)=p :: Lib.splitK [c] 0 k q:=by
 rw [Lib.splitK,index_hit c q p h,if_neg (by rw [beq_iff_eq];omega),Int.toNat_natCast];simp
theorem RV (c:UInt8) (k:Nat) (l:Tx) (h:c∉l):Lib.splitK [c] 0 k l=[l]:=by
 cases k with
 | zero=>rfl
 | succ k=>rw [Lib.splitK,OC c l h];rfl
theorem UC (c:UInt8):∀ (k:Nat) (l:Tx),(Lib.splitK [c] 0 k l=cutAt c l/\(cutAt c l).length<=k+1)∨((Lib.splitK [c] 0 k l).length=k+1/\k+1<(cutAt c l).length/\∃ p∈Lib.splitK [c] 0 k l,c∈p)
 | 0,l=>by
  by_cases h:c∈l
  ·refine Or.inr ⟨rfl,?_,l,by simp [Lib.splitK],h⟩;obtain ⟨p,q,rfl,hp⟩:=IC c l h;rw [KD c q p hp,List.length_cons];have:=List.length_pos_iff.2 (JC c q);omega
  ·exact Or.inl (by rw [GU c l h];exact ⟨rfl,Nat.le_refl _⟩)
 | k+1,l=>by
  by_cases h:c∈l
  ·obtain ⟨p,q,rfl,hp⟩:=IC c l h;rw [UB c k p q hp,KD c q p hp];rcases UC c k q with ⟨h1,h2⟩|⟨h1,h2,x,hx,hc⟩
   ·exact Or.inl ⟨by rw [h1],by rw [List.length_cons];omega⟩
   ·exact Or.inr ⟨by rw [List.length_cons,h1],by rw [List.length_cons];omega,x,List.mem_cons_of_mem _ hx,hc⟩
  ·exact Or.inl (by rw [RV c _ l h,GU c l h];exact ⟨rfl,by simp⟩)
theorem G8 (c:UInt8):∀ l:Tx,(cutAt c l).length<=l.length+1
 | []=>Nat.le_refl _
 | b :: l=>by
  have ih:=G8 c l;unfold cutAt
  split
  ·simp only [List.length_cons];omega
  ·split
   ·simp
   ·rename_i e;rw [e] at ih;simp only [List.length_cons] at *;omega
end Go.Proofs.YtfecnkhoojnkbaaGreatDoor.Rt
namespace Go.Proofs.YtfecnkhoojnkbaaGreatDoor.Rt
open Go.Proofs.YtfecnkhoojnkbaaGreatDoor Rul
section
variable {α β:Type}
def AK (f:α->Option β):List α->Option (List β)
 | []=>some []
 | a :: l=>match f a with
  | none=>none
  | some b=>match AK f l with
   | none=>none
   | some bs=>some (b :: bs)
theorem CW (f:α->Option β):∀ (l:List α) (bs:List β),AK f l=some bs↔l.map f=bs.map some
 | [],bs=>by cases bs <;> simp [AK]
 | a :: l,bs=>by
  unfold AK;have ih:=CW f l
  cases ha:f a with
  | none=>cases bs <;> simp [ha]
  | some b =>
   cases hl:AK f l with
   | none =>
    simp only [List.map_cons,ha]
    constructor
    ·intro h;cases h
    ·intro h
     cases bs with
     | nil=>cases h
     | cons c bs =>
      simp only [List.map_cons,List.cons.injEq] at h;rw [(ih bs).2 h.2] at hl;cases hl
   | some cs =>
    have e:=(ih cs).1 hl
    cases bs with
    | nil=>simp
    | cons c bs =>
     simp only [List.map_cons,ha,List.cons.injEq,Option.some.injEq]
     constructor
     ·rintro ⟨rfl,rfl⟩;exact ⟨rfl,e⟩
     ·rintro ⟨h1,h2⟩;exact ⟨h1,by have:=(ih bs).2 h2;rw [hl] at this;injection this⟩
theorem BF {f:α->Option β} {l:List α} {bs:List β} (h:AK f l=some bs):l.length=bs.length:=by
 have:=congrArg List.length ((CW f l bs).1 h)
 simpa using this
theorem JV {f:α->Option β} {l:List α} {bs:List β} (h:AK f l=some bs) {a:α} (ha:a∈l):∃ b∈bs,f a=some b:=by
 have e:=(CW f l bs).1 h;have:f a∈l.map f:=List.mem_map.2 ⟨a,ha,rfl⟩;rw [e,List.mem_map] at this;obtain ⟨b,hb,g⟩:=this;exact ⟨b,hb,g.symm⟩
theorem DQ {f g:α->Option β}:∀ {l:List α} {bs:List β},AK f l=some bs->(∀ a∈l,∀ b∈bs,f a=some b->g a=some b)->AK g l=some bs
 | [],bs,h,_=>by simpa [AK] using h
 | a :: l,bs,h,k=>by
  rw [CW] at h ⊢
  cases bs with
  | nil=>cases h
  | cons c bs =>
   simp only [List.map_cons,List.cons.injEq] at h ⊢;refine ⟨k a (by simp) c (by simp) h.1,?_⟩;rw [<- CW] at h ⊢;exact DQ h.2 fun x hx b hb=>k x (List.mem_cons_of_mem _ hx) b (List.mem_cons_of_mem _ hb)
theorem YZ (f:α->Option β) (l:List α) (a:α) {bs:List β} (h:AK f l=some bs) {b:β} (hb:f a=some b):AK f (l++[a])=some (bs++[b]):=by
 rw [CW] at *;simp [h,hb]
theorem Z0 (f:α->Option β) {l:List α} {a:α} (ha:a∈l) (h:f a=none):AK f l=none:=by
 cases e:AK f l with
 | none=>rfl
 | some bs =>
  obtain ⟨b,_,g⟩:=JV e ha;rw [h] at g;cases g
structure Ord (lt:α->α->Bool):Prop where
 irr:∀ a,lt a a=false
 tr:∀ a b c,lt a b=true->lt b c=true->lt a c=true
 tot:∀ a b,lt a b=false->lt b a=false->a=b
def weak (lt:α->α->Bool) (l:List α):Prop:=l.Pairwise fun a b=>lt b a=false
def strict (lt:α->α->Bool) (l:List α):Prop:=l.Pairwise fun a b=>lt a b=true
theorem Ord.asym {lt:α->α->Bool} (o:Ord lt) (a b:α) (h:lt a b=true):lt b a=false:=by
 rw [Bool.eq_false_iff];intro h2;have:=o.tr a b a h h2;rw [o.irr] at this;cases this
theorem strict.weak {lt:α->α->Bool} (o:Ord lt) {l:List α} (h:strict lt l):weak lt l:=List.Pairwise.imp (fun {a b} g=>o.asym a b g) h
theorem RW {lt:α->α->Bool} (o:Ord lt) {l k:List α} (h1:weak lt l) (h2:weak lt k) (hp:l.Perm k):l=k :=
 List.Perm.eq_of_pairwise (le:=fun a b=>lt b a=false) (fun a b _ _ x y=>o.tot a b y x) h1 h2 hp
theorem IX {lt:α->α->Bool} (o:Ord lt) {l:List α} (h:strict lt l):l.Nodup:=List.Pairwise.imp (fun {a b} g e=>by subst e;rw [o.irr] at g;cases g) h
def KE (lt:α->α->Bool) (x:α):List α->List α
 | []=>[x]
 | y :: l=>if lt x y then x :: y :: l else y :: KE lt x l
theorem J4 (lt:α->α->Bool) (x:α):∀ l,(KE lt x l).Perm (x :: l)
 | []=>List.Perm.refl _
 | y :: l=>by
  unfold KE
  split
  ·exact List.Perm.refl _
  ·exact ((J4 lt x l).cons y).trans (List.Perm.swap x y l)
theorem N1 {lt:α->α->Bool} (o:Ord lt) (x:α):∀ l,weak lt l->weak lt (KE lt x l)
 | [],_=>by simp [KE,weak]
 | y :: l,h=>by
  have hc:=List.pairwise_cons.1 h;unfold KE
  split
  ·rename_i hx
   refine List.pairwise_cons.2 ⟨fun z hz=>?_,h⟩;rcases List.mem_cons.1 hz with rfl|hz
   ·exact o.asym _ _ hx
   ·rw [Bool.eq_false_iff];intro g;have:=o.tr z x y g hx;rw [hc.1 z hz] at this;cases this
  ·rename_i hx
   refine List.pairwise_cons.2 ⟨fun z hz=>?_,N1 o x l hc.2⟩;rcases List.mem_cons.1 ((J4 lt x l).mem_iff.1 hz) with rfl|hz
   ·simpa using hx
   ·exact hc.1 z hz
def srt (lt:α->α->Bool) (l:List α):List α:=l.foldr (KE lt) []
theorem GI (lt:α->α->Bool):∀ l,(srt lt l).Perm l
 | []=>List.Perm.refl _
 | x :: l=>(J4 lt x _).trans ((GI lt l).cons x)
theorem cO {lt:α->α->Bool} (o:Ord lt):∀ l,weak lt (srt lt l)
 | []=>List.Pairwise.nil
 | x :: l=>N1 o x _ (cO o l)
theorem QS {lt:α->α->Bool} (o:Ord lt) {l d:List α} (hp:d.Perm l) (hw:weak lt d):d=srt lt l :=
 RW o hw (cO o l) (hp.trans (GI lt l).symm)
theorem uC {lt:α->α->Bool} (o:Ord lt) {l:List α} (h:strict lt l):srt lt l=l:=(QS o (List.Perm.refl l) (h.weak o)).symm
theorem MF {lt:α->α->Bool} (o:Ord lt):∀ {l:List α},weak lt l->l.Nodup->strict lt l
 | [],_,_=>List.Pairwise.nil
 | x :: l,h,hn=>by
  have h1:=List.pairwise_cons.1 h;have h2:=List.nodup_cons.1 hn;refine List.pairwise_cons.2 ⟨fun y hy=>?_,MF o h1.2 h2.2⟩
  cases hxy:lt x y
  ·exact absurd (o.tot x y hxy (h1.1 y hy)) (fun e=>h2.1 (e▸hy))
  ·rfl
def CG [DecidableEq β] (lt:β->β->Bool) (f:α->Option β):List α->List β->Option (List β)
 | [],acc=>some acc
 | t :: r,acc=>match f t with
  | none=>none
  | some x=>if x∈acc then none else CG lt f r (KE lt x acc)
theorem KF [DecidableEq β] {lt:β->β->Bool} (o:Ord lt) (f:α->Option β):∀ (ts:List α) (acc l:List β),strict lt acc->CG lt f ts acc=some l->∃ xs,AK f ts=some xs/\strict lt l/\l.Perm (acc++xs)
 | [],acc,l,ha,h=>by
  injection h with h;subst h;exact ⟨[],rfl,ha,by simp⟩
 | t :: r,acc,l,ha,h=>by
  unfold CG at h
  split at h
  ·cases h
  ·rename_i x hx
   split at h
   ·cases h
   ·rename_i hm
    have hp:=J4 lt x acc;have hs:strict lt (KE lt x acc):=MF o (N1 o x acc (ha.weak o)) (hp.symm.nodup (List.nodup_cons.2 ⟨hm,IX o ha⟩));obtain ⟨xs,h1,h2,h3⟩:=KF o f r _ l hs h;refine ⟨x :: xs,by unfold AK;rw [hx,h1],h2,h3.trans ((hp.append_right xs).trans ?_)⟩;rw [List.cons_append];exact (List.perm_middle (l₁:=acc) (l₂:=xs) (a:=x)).symm
theorem QT [DecidableEq β] {lt:β->β->Bool} (o:Ord lt) (f:α->Option β):∀ (ts:List α) (acc l xs:List β),strict lt acc->AK f ts=some xs->strict lt l->l.Perm (acc++xs)->CG lt f ts acc=some l
 | [],acc,l,xs,ha,h,hl,hp=>by
  injection h with h;subst h;rw [List.append_nil] at hp;rw [RW o (hl.weak o) (ha.weak o) hp];rfl
 | t :: r,acc,l,xs,ha,h,hl,hp=>by
  unfold AK at h
  split at h
  ·cases h
  ·rename_i x hx
   split at h
   ·cases h
   ·rename_i ys hy
    injection h with h;subst h;have hn:=hp.nodup (IX o hl);have hp2:l.Perm (x :: (acc++ys)):=hp.trans List.perm_middle;have hm:x∉acc:=fun g=>by
     have:=hp2.nodup (IX o hl);exact (List.nodup_cons.1 this).1 (List.mem_append.2 (Or.inl g))
    have hip:=J4 lt x acc;have hs:strict lt (KE lt x acc):=MF o (N1 o x acc (ha.weak o)) (hip.symm.nodup (List.nodup_cons.2 ⟨hm,IX o ha⟩));unfold CG;rw [hx];simp only;rw [if_neg hm];exact QT o f r _ l ys hs hy hl (hp2.trans (hip.append_right ys).symm)
theorem CX {p:α->Bool} {lt:α->α->Bool} (o:Ord lt) (d:α) (l:List α):C0 p lt d l=true↔l.length<=12/\(∀ x∈l,p x=true)/\strict lt l:=by
 unfold C0;rw [Bool.and_eq_true,decide_eq_true_eq,GG]
 constructor
 ·rintro ⟨h1,h2⟩;have hp:∀ x∈l,p x=true:=fun x hx=>by
   obtain ⟨i,hi,rfl⟩:=List.mem_iff_getElem.1 hx;have:=h2 i hi;rw [G7 _ _ _ _ _ hi,Bool.and_eq_true] at this;exact this.1
  have hs:∀ i (hi:i+1<l.length),lt l[i] l[i+1]=true:=fun i hi=>by
   have:=h2 (i+1) hi;rw [DP _ _ _ _ _ hi,Bool.and_eq_true] at this;exact this.2
  refine ⟨h1,hp,List.pairwise_iff_getElem.2 fun i j hi hj hij=>?_⟩;obtain ⟨k,rfl⟩:∃ k,j=i+1+k:=⟨j-(i+1),by omega⟩;clear hij
  induction k with
  | zero=>exact hs i hj
  | succ k ih=>exact o.tr _ _ _ (ih (by omega)) (hs (i+1+k) hj)
 ·rintro ⟨h1,h2,h3⟩;refine ⟨h1,fun i hi=>?_⟩;rw [G7 _ _ _ _ _ hi,h2 _ (List.getElem_mem _),Bool.true_and]
  cases i with
  | zero=>rfl
  | succ i =>
   have:=List.pairwise_iff_getElem.1 h3 i (i+1) (by omega) hi (by omega);rw [show i+1-1=i from rfl,getD_at d l i (by omega),this];simp
end
theorem ID:Ord AI where
 irr a:=by simp [AI]
 tr a b c h k:=by simp only [AI,decide_eq_true_eq] at *;omega
 tot a b h k:=by simp only [AI,decide_eq_false_iff_not] at *;omega
theorem UD:Ord BO where
 irr a:=by simp [BO]
 tr a b c h k:=by simp only [BO,decide_eq_true_eq] at *;omega
 tot a b h k:=by
  simp only [BO,decide_eq_false_iff_not] at *;have:a.1=b.1/\a.2=b.2:=by omega
  exact Prod.ext this.1 this.2
end Go.Proofs.YtfecnkhoojnkbaaGreatDoor.Rt
namespace Go.Proofs.YtfecnkhoojnkbaaGreatDoor.Rt
open Go.Proofs.YtfecnkhoojnkbaaGreatDoor Rul
structure Un where
 f:Tx->Option Int
 text:Int->Tx
 noeq:∀ v n,f v=some n->(61:UInt8)∉v
 back:∀ n,0<=n->n<52596000->f (text n)=some n
 free:∀ n,(59:UInt8)∉text n/\(61:UInt8)∉text n
 nil:text (-1)=[]
 some:∀ n,0<=n->n<52596000->text n≠[]
inductive Part where
 | fr (n:Int)
 | ev (n:Int)
 | ct (n:Int)
 | un (n:Int)
 | ys (l:List Int)
 | ms (l:List Int)
 | ds (l:List Wd)
def tag:Part->Nat
 | .fr _=>0
 | .ev _=>1
 | .ct _=>2
 | .un _=>3
 | .ys _=>4
 | .ms _=>5
 | .ds _=>6
def IE:Tx:=[70,82,69,81]
def BW:Tx:=[73,78,84,69,82,86,65,76]
def EA:Tx:=[67,79,85,78,84]
def EC:Tx:=[85,78,84,73,76]
def CI:Tx:=[66,89,77,79,78,84,72]
def BA:Tx:=[66,89,77,79,78,84,72,68,65,89]
def ED:Tx:=[66,89,68,65,89]
def nameOf:Part->Tx
 | .fr _=>IE
 | .ev _=>BW
 | .ct _=>EA
 | .un _=>EC
 | .ys _=>CI
 | .ms _=>BA
 | .ds _=>ED
theorem A2k (p:Part):tag p<7:=by cases p <;> simp [tag]
theorem UE (p q:Part):nameOf p=nameOf q↔tag p=tag q:=by cases p <;> cases q <;> simp [nameOf,tag] <;> decide
def Part.set (r:T):Part->T
 | .fr n=>{ r with fr:=n }
 | .ev n=>{ r with ev:=n }
 | .ct n=>{ r with ct:=n }
 | .un n=>{ r with un:=n }
 | .ys l=>{ r with ys:=l }
 | .ms l=>{ r with ms:=l }
 | .ds l=>{ r with ds:=l }
def r0:T:=⟨0,1,0,-1,[],[],[]⟩
def fold (ps:List Part):T:=ps.foldl Part.set r0
def QU (r:T):Part->Prop
 | .fr n=>r.fr=n
 | .ev n=>r.ev=n
 | .ct n=>r.ct=n
 | .un n=>r.un=n
 | .ys l=>r.ys=l
 | .ms l=>r.ms=l
 | .ds l=>r.ds=l
theorem uD (r:T) (p:Part):QU (Part.set r p) p:=by cases p <;> rfl
theorem X5 (r:T) (p q:Part) (h:tag p≠tag q) (k:QU r p):QU (Part.set r q) p:=by cases p <;> cases q <;> first|exact k|exact absurd rfl h
theorem UF (p:Part):∀ (ps:List Part) (r:T),(∀ q∈ps,tag p≠tag q)->QU r p->QU (ps.foldl Part.set r) p
 | [],_,_,h=>h
 | q :: ps,r,h,k=>UF p ps _ (fun x hx=>h x (List.mem_cons_of_mem _ hx)) (X5 r p q (h q (by simp)) k)
theorem QV:∀ (ps:List Part) (r:T) (p:Part),(ps.map tag).Nodup->p∈ps->QU (ps.foldl Part.set r) p
 | [],_,_,_,h=>by simp at h
 | q :: ps,r,p,hn,h=>by
  rw [List.map_cons,List.nodup_cons] at hn;rcases List.mem_cons.1 h with rfl|h
  ·exact UF p ps _ (fun x hx e=>hn.1 (e▸List.mem_map.2 ⟨x,hx,rfl⟩)) (uD r p)
  ·exact QV ps _ p hn.2 h
theorem set_comm (r:T) (p q:Part) (h:tag p≠tag q):Part.set (Part.set r p) q=Part.set (Part.set r q) p:=by cases p <;> cases q <;> first|rfl|exact absurd rfl h
theorem lI:∀ (ps:List Part),(ps.map tag).Nodup->∀ p∈ps,∀ q∈ps,tag p=tag q->p=q
 | [],_,p,h,_,_,_=>by simp at h
 | x :: ps,hn,p,hp,q,hq,e=>by
  rw [List.map_cons,List.nodup_cons] at hn;rcases List.mem_cons.1 hp with g|g <;> rcases List.mem_cons.1 hq with k|k
  ·rw [g,k]
  ·exact absurd (List.mem_map.2 ⟨q,k,by rw [<- e,g]⟩) hn.1
  ·exact absurd (List.mem_map.2 ⟨p,g,by rw [e,k]⟩) hn.1
  ·exact lI ps hn.2 p g q k e
theorem oL {ps qs:List Part} (hn:(ps.map tag).Nodup) (h:ps.Perm qs):fold ps=fold qs:=by
 refine List.Perm.foldl_eq' h (fun x hx y hy z=>?_) r0
 by_cases e:tag x=tag y
 ·rw [lI ps hn x hx y hy e]
 ·exact set_comm z x y e
theorem Z1 {ps:List Part} (hn:(ps.map tag).Nodup):ps.length<=7:=by
 have:=List.Nodup.length_le_of_subset (l₂:=List.range 7) hn fun x hx=>by
  obtain ⟨p,_,rfl⟩:=List.mem_map.1 hx;exact List.mem_range.2 (A2k p)
 simpa using this
structure Rd where
 pos:Tx->Option Int
 nums:Bool->Tx->Option (List Int)
 wds:Tx->Option (List Wd)
def F2 (ws:List Tx) (w:Tx):Option Nat:=match ws with
 | []=>none
 | x :: r=>if x=w then some 0 else (F2 r w).map (·+1)
def C8:List Tx:=[[68,65,73,76,89],[87,69,69,75,76,89],[77,79,78,84,72,76,89],[89,69,65,82,76,89]]
def BI:List Tx:=[[77,79],[84,85],[87,69],[84,72],[70,82],[83,65],[83,85]]
theorem FO:∀ {ws:List Tx} {w:Tx} {k:Nat},F2 ws w=some k->ws[k]?=some w
 | [],_,_,h=>by simp [F2] at h
 | x :: r,w,k,h=>by
  unfold F2 at h
  split at h
  ·rename_i e;injection h with h;subst h;rw [e];rfl
  ·cases hr:F2 r w with
   | none=>rw [hr] at h;cases h
   | some j=>rw [hr] at h;injection h with h;subst h;simpa using FO hr
theorem X6:∀ {ws:List Tx} {w:Tx},F2 ws w=none->w∉ws
 | [],_,_=>by simp
 | x :: r,w,h=>by
  unfold F2 at h
  split at h
  ·cases h
  ·rename_i e
   cases hr:F2 r w with
   | some j=>rw [hr] at h;cases h
   | none =>
    intro g;rcases List.mem_cons.1 g with g|g
    ·exact e g.symm
    ·exact X6 hr g
def valOf (U:Un) (R:Rd) (name v:Tx):Option Part :=
 if name=IE then (F2 C8 v).map fun k=>.fr (k+1:Nat)
 else if name=BW then (R.pos v).map .ev
 else if name=EA then (R.pos v).map .ct
 else if name=EC then (U.f v).map .un
 else if name=CI then (R.nums false v).map .ys
 else if name=BA then (R.nums true v).map .ms
 else if name=ED then (R.wds v).map .ds
 else none
theorem PD {U:Un} {R:Rd} {name v:Tx} {p:Part} (h:valOf U R name v=some p):name=nameOf p:=by
 unfold valOf at h
 repeat' split at h
 all_goals first
  | (rename_i e;rw [Option.map_eq_some_iff] at h;obtain ⟨x,_,rfl⟩:=h;exact e)
  | cases h
def BH (f:Tx->Option Int) (t:Tx):Option Wd:=match F2 BI (t.drop (t.length-2)) with
 | none=>none
 | some d=>if t.length=2 then some (0,(d:Int)) else match f (t.take (t.length-2)) with
  | none=>none
  | some n=>if n=0 then none else some (n,(d:Int))
def posOf (f:Tx->Option Int) (t:Tx):Option Int:=match f t with
 | none=>none
 | some n=>if 0<n then some n else none
def PE {α:Type} (lt:α->α->Bool) (f:Tx->Option α) (t:Tx):Option (List α):=(AK f (Lib.splitN t [44] 13)).map (srt lt)
def FD {α:Type} [DecidableEq α] (lt:α->α->Bool) (f:Tx->Option α) (t:Tx):Option (List α):=CG lt f (cutAt 44 t) []
def rdC:Rd:=⟨posOf BJ,fun _=>PE AI BJ,PE BO (BH BJ)⟩
def rdR:Rd:=⟨posOf (B8 · false),fun b=>FD AI (B8 · b),FD BO (BH (B8 · true))⟩
def GJ (U:Un) (t:Tx):Option Part:=if (Lib.cut t [61]).2.2=true then valOf U rdC (Lib.cut t [61]).1 (Lib.cut t [61]).2.1 else none
def FJ (U:Un) (t:Tx):Option Part:=match cutAt 61 t with
 | [n,v]=>valOf U rdR n v
 | _=>none
def ans (ps:Option (List Part)):Option T:=match ps with
 | none=>none
 | some ps=>if (ps.map tag).Nodup/\isB (fold ps)=true then some (fold ps) else none
def IM (U:Un) (s:Tx):Option T:=ans (AK (GJ U) (Lib.splitN s [59] 8))
def UG (U:Un) (s:Tx):Option T:=ans (AK (FJ U) (cutAt 59 s))
def good:Part->Prop
 | .ev n=>1<=n/\n<=100
 | .ct n=>0<=n/\n<=40
 | .ys l=>C0 GS AI 0 l=true
 | .ms l=>C0 G5 AI 0 l=true
 | .ds l=>C0 EF BO (0,0) l=true
 | _=>True
theorem X7 (r:T) (h:GH r=true) (p:Part) (k:QU r p):good p:=by
 unfold GH at h;rw [Bool.and_eq_true,Bool.and_eq_true] at h;obtain ⟨h1,h2,h3⟩:=h;unfold CF at h1;unfold lD at h2;simp only [Bool.and_eq_true,AY] at h1 h2
 cases p <;> simp only [QU] at k <;> simp only [good] <;> subst k
 ·exact h1.2.1
 ·exact h1.2.2.1
 ·exact h2.2.2
 ·exact h2.2.1
 ·exact h2.1
theorem A2l {ps:List Part} (h:∀ p∈ps,∀ n,p=.ev n->0<n):∀ r:T,0<r.ev->0<(ps.foldl Part.set r).ev:=by
 induction ps with
 | nil=>exact fun r hr=>hr
 | cons p ps ih =>
  intro r hr;refine ih (fun q hq=>h q (List.mem_cons_of_mem _ hq)) _ ?_
  cases p with
  | ev n=>exact h (.ev n) (by simp) n rfl
  | _=>exact hr
theorem X8 (c:UInt8) (n:Nat) (t:Tx):Lib.splitN t [c] (n+1)=Lib.splitK [c] 0 (min n t.length) t:=by
 unfold Lib.splitN
 congr 1
 omega
theorem EY (c:UInt8) (n:Nat) (t:Tx):(Lib.splitN t [c] (n+1)=cutAt c t/\(cutAt c t).length<=n+1)∨((Lib.splitN t [c] (n+1)).length=n+1/\n+1<(cutAt c t).length/\∃ p∈Lib.splitN t [c] (n+1),c∈p):=by
 rw [X8];have hl:=G8 c t;rcases UC c (min n t.length) t with ⟨h1,h2⟩|⟨h1,h2,h3⟩
 ·exact Or.inl ⟨h1,by omega⟩
 ·have:min n t.length=n:=by omega
  rw [this] at h1 h2 h3 ⊢;exact Or.inr ⟨h1,h2,h3⟩
theorem KG {t:Tx} {n:Int} (h:BJ t=some n) (c:UInt8) (hc:cL c=false):c∉t:=by
 intro g;obtain ⟨e,_⟩:=(JB t n).1 h;have:=List.all_eq_true.1 (L9 n) c (e▸g);rw [hc] at this;cases this
theorem PF {t:Tx} {b:Bool} {n:Int} (h:B8 t b=some n) (c:UInt8) (hc:cL c=false):c∉t:=by
 intro g;obtain ⟨e,_⟩:=(IB t b n).1 h;have:=List.all_eq_true.1 (L9 n) c (e▸g);rw [hc] at this;cases this
theorem UH:∀ w∈BI,(44:UInt8)∉w/\(61:UInt8)∉w/\(59:UInt8)∉w:=by decide
theorem lJ {f:Tx->Option Int} {t:Tx} {x:Wd} (c:UInt8) (hw:∀ w∈BI,c∉w) (hf:∀ t n,f t=some n->c∉t) (h:BH f t=some x):c∉t:=by
 unfold BH at h
 split at h
 ·cases h
 ·rename_i d hd
  have hm:t.drop (t.length-2)∈BI:=List.mem_of_getElem? (FO hd);have hdr:=hw _ hm
  split at h
  ·rename_i h2
   rw [h2] at hdr;exact hdr
  ·split at h
   ·cases h
   ·rename_i n hn
    intro g;rw [<- List.take_append_drop (t.length-2) t] at g;rcases List.mem_append.1 g with g|g
    ·exact hf _ _ hn g
    ·exact hdr g
theorem GV {α:Type} [DecidableEq α] {lt:α->α->Bool} (o:Ord lt) (d:α) (fC fR:Tx->Option α) (ok:α->Bool) (hok:∀ t x,ok x=true->(fC t=some x↔fR t=some x)) (hfree:∀ t x,fC t=some x->(44:UInt8)∉t)
  (t:Tx) (l:List α) (hl:C0 ok lt d l=true):PE lt fC t=some l↔FD lt fR t=some l:=by
 obtain ⟨h12,hall,hs⟩:=(CX o d l).1 hl;unfold PE FD;rw [Option.map_eq_some_iff]
 constructor
 ·rintro ⟨xs,hx,rfl⟩;have hp:=GI lt xs;have hlen:=BF hx;rcases EY 44 12 t with ⟨h1,_⟩|⟨_,_,p,hp2,hc⟩
  ·rw [h1] at hx;refine QT o fR _ [] _ xs List.Pairwise.nil (DQ hx fun a _ b hb h=>?_) hs hp;exact (hok a b (hall b (hp.mem_iff.2 hb))).1 h
  ·obtain ⟨b,_,hb⟩:=JV hx hp2;exact absurd hc (hfree _ _ hb)
 ·intro h;obtain ⟨xs,hx,_,hp⟩:=KF o fR _ [] l List.Pairwise.nil h;rw [List.nil_append] at hp;have hlen:=BF hx;have hxl:=hp.length_eq;have hC:AK fC (cutAt 44 t)=some xs:=DQ hx fun a _ b hb h=>(hok a b (hall b (hp.mem_iff.2 hb))).2 h
  rcases EY 44 12 t with ⟨h1,_⟩|⟨_,h2,_⟩
  ·exact ⟨xs,by rw [h1];exact hC,(QS o hp (hs.weak o)).symm⟩
  ·omega
theorem N2 (t:Tx) (n:Int) (h:n<=100):posOf BJ t=some n↔posOf (B8 · false) t=some n:=by
 have key:∀ (f:Tx->Option Int),posOf f t=some n↔f t=some n/\0<n:=fun f=>by
  unfold posOf
  cases hf:f t with
  | none=>simp
  | some m =>
   simp only [Option.some.injEq]
   split
   ·rename_i hm;constructor
    ·intro g;injection g with g;subst g;exact ⟨rfl,hm⟩
    ·rintro ⟨rfl,_⟩;rfl
   ·rename_i hm;constructor
    ·intro g;cases g
    ·rintro ⟨rfl,g⟩;exact absurd g hm
 rw [key,key,JB,IB]
 constructor
 ·rintro ⟨⟨h1,h2⟩,h3⟩;exact ⟨⟨h1,by omega,fun _=>by omega⟩,h3⟩
 ·rintro ⟨⟨h1,h2,_⟩,h3⟩;exact ⟨⟨h1,by unfold EX;omega⟩,h3⟩
theorem uE (t:Tx) (x:Wd) (h:-5<=x.1/\x.1<=5):BH BJ t=some x↔BH (B8 · true) t=some x:=by
 unfold BH
 cases hd:F2 BI (t.drop (t.length-2)) with
 | none=>simp
 | some d =>
  simp only
  split
  ·exact Iff.rfl
  ·have key:∀ (f:Tx->Option Int) (u:Tx),(match f u with|none=>none|some n=>if n=0 then none else some (n,(d:Int)):Option Wd)=some x↔f u=some x.1/\x.1≠0/\x.2=d:=fun f u=>by
    cases hf:f u with
    | none=>simp
    | some m =>
     simp only [Option.some.injEq]
     split
     ·rename_i hm;constructor
      ·intro g;cases g
      ·rintro ⟨g,g2,_⟩;exact absurd (g▸hm) g2
     ·rename_i hm;constructor
      ·intro g;injection g with g;subst g;exact ⟨rfl,hm,rfl⟩
      ·rintro ⟨g,_,g2⟩;rw [g,<- g2]
   rw [key,key (B8 · true),JB,IB]
   constructor
   ·rintro ⟨⟨h1,h2⟩,h3⟩;exact ⟨⟨h1,by omega,fun e=>by cases e⟩,h3⟩
   ·rintro ⟨⟨h1,h2,_⟩,h3⟩;exact ⟨⟨h1,by unfold EX;omega⟩,h3⟩
theorem oM (U:Un) (name v:Tx) (p:Part) (h:good p):valOf U rdC name v=some p↔valOf U rdR name v=some p:=by
 unfold valOf
 repeat' split
 ·exact Iff.rfl
 ·rw [Option.map_eq_some_iff,Option.map_eq_some_iff]
  constructor <;> rintro ⟨x,hx,rfl⟩
  ·exact ⟨x,(N2 v x h.2).1 hx,rfl⟩
  ·exact ⟨x,(N2 v x h.2).2 hx,rfl⟩
 ·rw [Option.map_eq_some_iff,Option.map_eq_some_iff]
  constructor <;> rintro ⟨x,hx,rfl⟩
  ·exact ⟨x,(N2 v x (by have:=h.2;omega)).1 hx,rfl⟩
  ·exact ⟨x,(N2 v x (by have:=h.2;omega)).2 hx,rfl⟩
 ·exact Iff.rfl
 ·have hok:∀ t x,GS x=true->(BJ t=some x↔B8 t false=some x):=fun t x hx=>by
   rw [GS,AY] at hx;rw [JB,IB];exact ⟨fun ⟨a,b⟩=>⟨a,by omega,fun _=>by omega⟩,fun ⟨a,b,_⟩=>⟨a,by unfold EX;omega⟩⟩
  rw [Option.map_eq_some_iff,Option.map_eq_some_iff]
  constructor <;> rintro ⟨x,hx,rfl⟩
  ·exact ⟨x,(GV ID 0 BJ (B8 · false) GS hok (fun t x hx=>KG hx 44 (by decide)) v x h).1 hx,rfl⟩
  ·exact ⟨x,(GV ID 0 BJ (B8 · false) GS hok (fun t x hx=>KG hx 44 (by decide)) v x h).2 hx,rfl⟩
 ·have hok:∀ t x,G5 x=true->(BJ t=some x↔B8 t true=some x):=fun t x hx=>by
   rw [G5,Bool.and_eq_true,AY] at hx;rw [JB,IB];exact ⟨fun ⟨a,b⟩=>⟨a,by omega,fun e=>by cases e⟩,fun ⟨a,b,_⟩=>⟨a,by unfold EX;omega⟩⟩
  rw [Option.map_eq_some_iff,Option.map_eq_some_iff]
  constructor <;> rintro ⟨x,hx,rfl⟩
  ·exact ⟨x,(GV ID 0 BJ (B8 · true) G5 hok (fun t x hx=>KG hx 44 (by decide)) v x h).1 hx,rfl⟩
  ·exact ⟨x,(GV ID 0 BJ (B8 · true) G5 hok (fun t x hx=>KG hx 44 (by decide)) v x h).2 hx,rfl⟩
 ·have hok:∀ t x,EF x=true->(BH BJ t=some x↔BH (B8 · true) t=some x):=fun t x hx=>by
   rw [EF,Bool.and_eq_true,AY] at hx;exact uE t x hx.1
  have hfree:∀ t x,BH BJ t=some x->(44:UInt8)∉t:=fun t x hx=>lJ 44 (fun w hw=>(UH w hw).1) (fun t n hn=>KG hn 44 (by decide)) hx
  rw [Option.map_eq_some_iff,Option.map_eq_some_iff]
  constructor <;> rintro ⟨x,hx,rfl⟩
  ·exact ⟨x,(GV UD (0,0) _ _ EF hok hfree v x h).1 hx,rfl⟩
  ·exact ⟨x,(GV UD (0,0) _ _ EF hok hfree v x h).2 hx,rfl⟩
 ·exact Iff.rfl
theorem UI (c x:UInt8):∀ ps:List Tx,x∈AU c ps->x=c∨∃ p∈ps,x∈p
 | [],h=>by simp [AU] at h
 | [p],h=>Or.inr ⟨p,by simp,h⟩
 | p :: q :: r,h=>by
  rw [AU,List.mem_append,List.mem_cons] at h;rcases h with h|h|h
  ·exact Or.inr ⟨p,by simp,h⟩
  ·exact Or.inl h
  ·rcases UI c x (q :: r) h with h|⟨y,hy,h⟩
   ·exact Or.inl h
   ·exact Or.inr ⟨y,List.mem_cons_of_mem _ hy,h⟩
theorem QW {α:Type} [DecidableEq α] {lt:α->α->Bool} (o:Ord lt) (f:Tx->Option α) (hf:∀ t x,f t=some x->(61:UInt8)∉t) {t:Tx} {l:List α} (h:FD lt f t=some l):(61:UInt8)∉t:=by
 intro g;obtain ⟨xs,hx,_⟩:=KF o f _ [] l List.Pairwise.nil h;rw [<- PC 44 t] at g;rcases UI 44 61 _ g with g|⟨p,hp,g⟩
 ·revert g;decide
 ·obtain ⟨b,_,hb⟩:=JV hx hp;exact hf _ _ hb g
theorem oN:∀ w∈C8,(61:UInt8)∉w/\(59:UInt8)∉w:=by decide
theorem uF {U:Un} {name v:Tx} {p:Part} (h:valOf U rdR name v=some p):(61:UInt8)∉v:=by
 have hpos:∀ n,posOf (B8 · false) v=some n->(61:UInt8)∉v:=fun n hn=>by
  unfold posOf at hn
  split at hn
  ·cases hn
  ·rename_i m hm;exact PF hm 61 (by decide)
 unfold valOf at h
 repeat' split at h
 ·rw [Option.map_eq_some_iff] at h;obtain ⟨x,hx,rfl⟩:=h;exact (oN _ (List.mem_of_getElem? (FO hx))).1
 ·rw [Option.map_eq_some_iff] at h;obtain ⟨x,hx,rfl⟩:=h;exact hpos x hx
 ·rw [Option.map_eq_some_iff] at h;obtain ⟨x,hx,rfl⟩:=h;exact hpos x hx
 ·rw [Option.map_eq_some_iff] at h;obtain ⟨x,hx,rfl⟩:=h;exact U.noeq _ _ hx
 ·rw [Option.map_eq_some_iff] at h;obtain ⟨x,hx,rfl⟩:=h;exact QW ID _ (fun t n hn=>PF hn 61 (by decide)) hx
 ·rw [Option.map_eq_some_iff] at h;obtain ⟨x,hx,rfl⟩:=h;exact QW ID _ (fun t n hn=>PF hn 61 (by decide)) hx
 ·rw [Option.map_eq_some_iff] at h;obtain ⟨x,hx,rfl⟩:=h;exact QW UD _ (fun t n hn=>lJ 61 (fun w hw=>(UH w hw).2.1) (fun t n hn=>PF hn 61 (by decide)) hn) hx
 ·cases h
theorem UJ (U:Un) (t:Tx) (p:Part) (h:good p):GJ U t=some p↔FJ U t=some p:=by
 unfold GJ FJ
 by_cases hm:(61:UInt8)∈t
 ·obtain ⟨a,v,rfl,ha⟩:=IC 61 t hm;rw [YY 61 a v ha,KD 61 v a ha];simp only [if_true];rw [oM U a v p h]
  constructor
  ·intro g;rw [GU 61 v (uF g)];exact g
  ·intro g;obtain ⟨x,r,e⟩:=List.exists_cons_of_ne_nil (JC 61 v);rw [e] at g
   cases r with
   | nil =>
    simp only at g;have:v=x:=by have:=PC 61 v;rw [e] at this;exact this.symm
    rw [this];exact g
   | cons y r=>cases g
 ·rw [cN 61 t hm,GU 61 t hm];simp
theorem A03 (r:T) (h:isB r=true) (he:0<r.ev):GH r=true:=by
 unfold isB at h;rw [Bool.or_eq_true] at h;rcases h with h|h
 ·rw [EH] at h;rw [h] at he;exact absurd he (by decide)
 ·exact h
theorem uG {U:Un} {t:Tx} {n:Int} (h:GJ U t=some (.ev n)):0<n:=by
  unfold GJ at h
  split at h
  · unfold valOf at h
    repeat' split at h
    all_goals first
      | (rw [Option.map_eq_some_iff] at h;obtain ⟨x,hx,e⟩:=h;cases e)
      | skip
    all_goals first
      | cases h
      | (unfold rdC posOf at hx
         simp only at hx
         split at hx
         · cases hx
         · split at hx
           · injection hx with hx;omega
           · cases hx)
  · cases h
theorem cQ {U:Un} {t:Tx} {n:Int} (h:FJ U t=some (.ev n)):0<n:=by
  unfold FJ at h
  split at h
  · unfold valOf at h
    repeat' split at h
    all_goals first
      | (rw [Option.map_eq_some_iff] at h;obtain ⟨x,hx,e⟩:=h;cases e)
      | skip
    all_goals first
      | cases h
      | (unfold rdR posOf at hx
         simp only at hx
         split at hx
         · cases hx
         · split at hx
           · injection hx with hx;omega
           · cases hx)
  · cases h
theorem PG {ps:Option (List Part)} {r:T}:ans ps=some r↔∃ l,ps=some l/\(l.map tag).Nodup/\isB (fold l)=true/\fold l=r:=by
 unfold ans
 cases ps with
 | none=>simp
 | some l =>
  simp only [Option.some.injEq,exists_eq_left']
  split
  ·rename_i h
   simp only [Option.some.injEq];exact ⟨fun e=>⟨h.1,h.2,e⟩,fun e=>e.2.2⟩
  ·rename_i h
   constructor
   ·intro e;cases e
   ·rintro ⟨a,b,_⟩;exact absurd ⟨a,b⟩ h
theorem UK {ps:List Part} (hn:∀ p∈ps,∀ n,p=.ev n->0<n) (hb:isB (fold ps)=true):GH (fold ps)=true:=A03 _ hb (A2l hn r0 (by decide))
theorem evs {f:Tx->Option Part} (hf:∀ t n,f t=some (.ev n)->0<n) {ts:List Tx} {ps:List Part} (h:AK f ts=some ps):∀ p∈ps,∀ n,p=.ev n->0<n:=fun p hp n e=>by
 have h1:=(CW f ts ps).1 h;have:some p∈ts.map f:=by rw [h1];exact List.mem_map.2 ⟨p,hp,rfl⟩
 obtain ⟨t,_,g⟩:=List.mem_map.1 this;exact hf t n (e▸g)
theorem X9 (U:Un) (s:Tx):IM U s=UG U s:=by
 apply Option.ext
 intro r;unfold IM UG;rw [PG,PG]
 constructor
 ·rintro ⟨ps,h1,hn,hb,rfl⟩;have hl:=Z1 hn;have hlen:=BF h1;have hrec:=UK (evs (fun t n=>uG) h1) hb;rcases EY 59 7 s with ⟨g,_⟩|⟨g,_,_⟩
  ·rw [g] at h1;exact ⟨ps,DQ h1 fun a _ b hbm h=>(UJ U a b (X7 _ hrec b (QV ps r0 b hn hbm))).1 h,hn,hb,rfl⟩
  ·have g2:(Lib.splitN s [59] 8).length=8:=g;omega
 ·rintro ⟨ps,h1,hn,hb,rfl⟩;have hl:=Z1 hn;have hlen:=BF h1;have hrec:=UK (evs (fun t n=>cQ) h1) hb;rcases EY 59 7 s with ⟨g,_⟩|⟨_,g,_⟩
  ·refine ⟨ps,?_,hn,hb,rfl⟩;rw [g];exact DQ h1 fun a _ b hbm h=>(UJ U a b (X7 _ hrec b (QV ps r0 b hn hbm))).2 h
  ·omega
end Go.Proofs.YtfecnkhoojnkbaaGreatDoor.Rt
namespace Go.Proofs.YtfecnkhoojnkbaaGreatDoor.Rt
open Go.Proofs.YtfecnkhoojnkbaaGreatDoor Rul
def CC (w:Wd):Tx:=if 0<=w.2/\w.2<7 then (if w.1=0 then [] else Lib.itoa w.1)++BI.getD w.2.toNat [] else []
def IU (n:Int):Tx:=C8.getD (n.toNat-1) []
def I3 (usual n:Int):Tx:=if n=usual then [] else Lib.itoa n
def AR {α:Type} (f:α->Tx) (l:List α):Tx:=AU 44 (l.map f)
def FG (U:Un):Part->Tx
 | .fr n=>IU n
 | .ev n=>I3 1 n
 | .ct n=>I3 0 n
 | .un n=>U.text n
 | .ys l=>AR Lib.itoa l
 | .ms l=>AR Lib.itoa l
 | .ds l=>AR CC l
def ES (U:Un) (p:Part):Tx:=nameOf p++61 :: FG U p
def UL (r:T):List Part:=[.fr r.fr,.ev r.ev,.ct r.ct,.un r.un,.ys r.ys,.ms r.ms,.ds r.ds]
def DF (U:Un) (r:T):List Part:=(UL r).filter fun p=>decide (FG U p≠[])
def DU (U:Un) (r:T):Tx:=if (isB r&&!C9 r once)=true then AU 59 ((DF U r).map (ES U)) else []
theorem QX {α:Type} (f:α->Tx) (hf:∀ x,f x≠[]) (l:List α):AR f l=[]↔l=[]:=by
 unfold AR
 match l with
 | []=>simp [AU]
 | [x]=>simp [AU,hf x]
 | x :: y :: r=>simp [AU]
theorem uH {r:T} (h:isB r=true) (h0:r≠once):GH r=true:=by
 unfold isB at h;rw [Bool.or_eq_true] at h;rcases h with h|h
 ·exact absurd ((EH r once).1 h) h0
 ·exact h
structure Rec (r:T):Prop where
 f1:1<=r.fr
 f2:r.fr<=4
 e1:1<=r.ev
 e2:r.ev<=100
 c1:0<=r.ct
 c2:r.ct<=40
 u1:-1<=r.un
 u2:r.un<=52595999
 cu:r.ct=0∨r.un=-1
 ds:C0 EF BO (0,0) r.ds=true
 ms:C0 G5 AI 0 r.ms=true
 ys:C0 GS AI 0 r.ys=true
theorem FP {r:T} (h:GH r=true):Rec r:=by
 unfold GH CF lD at h;simp only [Bool.and_eq_true,AY,Bool.or_eq_true,decide_eq_true_eq] at h;obtain ⟨⟨⟨h1,h2⟩,⟨h3,h4⟩,⟨h5,h6⟩,⟨h7,h8⟩,h9⟩,⟨ha,hb,hc⟩,_⟩:=h;exact ⟨h1,h2,h3,h4,h5,h6,h7,h8,h9,ha,hb,hc⟩
theorem lK (w:Wd) (h:EF w=true):CC w≠[]:=by
 rw [EF,Bool.and_eq_true,AY,AY] at h;have hd:w.2.toNat<7:=by omega
 unfold CC;rw [if_pos (by omega)];have:∀ k:Nat,k<7->BI.getD k []≠[]:=by decide
 have g:=this _ hd;intro e;exact g (List.append_eq_nil_iff.1 e).2
theorem A04 (f:Tx->Option Int) (hf:∀ n,-5<=n->n<=5->f (Lib.itoa n)=some n) (w:Wd) (h:EF w=true):BH f (CC w)=some w:=by
 rw [EF,Bool.and_eq_true,AY,AY] at h;obtain ⟨⟨h1,h2⟩,h3,h4⟩:=h;obtain ⟨d,hd⟩:∃ d:Nat,w.2=d:=⟨w.2.toNat,by omega⟩;have hd7:d<7:=by omega
 have hw:CC w=(if w.1=0 then [] else Lib.itoa w.1)++BI.getD d []:=by
  unfold CC;rw [if_pos (by omega),hd,Int.toNat_natCast]
 have hlen:∀ k:Nat,k<7->(BI.getD k []).length=2/\F2 BI (BI.getD k [])=some k:=by decide
 obtain ⟨g1,g2⟩:=hlen d hd7;rw [hw];generalize BI.getD d []=D at *;generalize hN:(if w.1=0 then [] else Lib.itoa w.1)=N;unfold BH;have e1:(N++D).length-2=N.length:=by rw [z0J];omega
 rw [e1,List.drop_left,List.take_left,g2];simp only
 by_cases h0:w.1=0
 ·rw [if_pos h0] at hN;subst hN;rw [if_pos (by simpa using g1)];exact congrArg some (Prod.ext h0.symm hd.symm)
 ·rw [if_neg h0] at hN;subst hN;have hp:=List.length_pos_iff.2 (I2 w.1);rw [if_neg (by rw [z0J];omega),hf w.1 h1 h2];simp only;rw [if_neg h0];exact congrArg some (Prod.ext rfl hd.symm)
theorem XA (w:Wd) (c:UInt8) (hc:cL c=false) (hw:∀ w∈BI,c∉w):c∉CC w:=by
 unfold CC
 split
 ·rename_i hr
  intro g;rcases List.mem_append.1 g with g|g
  ·split at g
   ·simp at g
   ·have:=List.all_eq_true.1 (L9 w.1) c g;rw [hc] at this;cases this
  ·refine hw _ ?_ g;have:w.2.toNat<BI.length:=by
    have:BI.length=7:=rfl;omega
   rw [List.getD_eq_getElem?_getD,List.getElem?_eq_getElem this];exact List.getElem_mem _
 ·simp
theorem KH (n:Int) (c:UInt8) (hc:cL c=false):c∉Lib.itoa n:=fun g=>by
 have:=List.all_eq_true.1 (L9 n) c g;rw [hc] at this;cases this
theorem QY {α:Type} {lt:α->α->Bool} (o:Ord lt) (d:α) (f:Tx->Option α) (g:α->Tx) (ok:α->Bool) (hg:∀ x,ok x=true->f (g x)=some x) (hfree:∀ x,(44:UInt8)∉g x) (l:List α) (hl:C0 ok lt d l=true) (hne:l≠[]):PE lt f (AR g l)=some l:=by
 obtain ⟨h12,hall,hs⟩:=(CX o d l).1 hl;unfold PE AR;have hc:cutAt 44 (AU 44 (l.map g))=l.map g:=ME 44 _ (by simpa using hne) (fun p hp=>by
  obtain ⟨x,_,rfl⟩:=List.mem_map.1 hp;exact hfree x)
 rcases EY 44 12 (AU 44 (l.map g)) with ⟨h1,_⟩|⟨_,h2,_⟩
 ·rw [h1,hc];have:AK f (l.map g)=some l:=by
   rw [CW,List.map_map];exact List.map_congr_left fun x hx=>hg x (hall x hx)
  rw [this,Option.map_some,uC o hs]
 ·rw [hc,List.length_map] at h2;omega
theorem OD {α:Type} (g:α->Tx) (c:UInt8) (hc:c≠44) (hg:∀ x,c∉g x) (l:List α):c∉AR g l:=fun h=>by
 rcases UI 44 c _ h with h|⟨p,hp,h⟩
 ·exact hc h
 ·obtain ⟨x,_,rfl⟩:=List.mem_map.1 hp;exact hg x h
theorem uI (U:Un) (p:Part) (c:UInt8) (h:c=59∨c=61):c∉FG U p:=by
 have hc:cL c=false:=by rcases h with rfl|rfl <;> decide
 have h44:c≠44:=by rcases h with rfl|rfl <;> decide
 have hd:∀ w∈BI,c∉w:=by rcases h with rfl|rfl <;> decide
 have hf:∀ w∈C8,c∉w:=by rcases h with rfl|rfl <;> decide
 have hu:∀ a n,c∉I3 a n:=fun a n=>by
  unfold I3;split
  ·simp
  ·exact KH n c hc
 cases p with
 | fr n =>
  show c∉C8.getD (n.toNat-1) []
  rw [List.getD_eq_getElem?_getD]
  cases hk:C8[n.toNat-1]? with
  | none=>simp
  | some w=>exact hf w (List.mem_of_getElem? hk)
 | ev n=>exact hu _ _
 | ct n=>exact hu _ _
 | un n=>rcases h with rfl | rfl;exact (U.free n).1;exact (U.free n).2
 | ys l=>exact OD _ c h44 (fun x=>KH x c hc) l
 | ms l=>exact OD _ c h44 (fun x=>KH x c hc) l
 | ds l=>exact OD _ c h44 (fun x=>XA x c hc hd) l
theorem XB (p:Part):(59:UInt8)∉nameOf p/\(61:UInt8)∉nameOf p:=by cases p <;> simp only [nameOf] <;> decide
theorem QZ (U:Un) (p:Part):(59:UInt8)∉ES U p:=fun h=>by
 unfold ES at h;rcases List.mem_append.1 h with h|h
 ·exact (XB p).1 h
 ·rcases List.mem_cons.1 h with h|h
  ·revert h;decide
  ·exact uI U p 59 (Or.inl rfl) h
theorem uJ (U:Un) (p:Part):GJ U (ES U p)=valOf U rdC (nameOf p) (FG U p):=by
 unfold GJ ES;rw [YY 61 _ _ (XB p).2];rfl
theorem oP (U:Un) (r:T) (h:GH r=true) (p:Part) (hp:p∈DF U r):GJ U (ES U p)=some p:=by
 have k:=FP h;rw [uJ];unfold DF UL at hp;rw [List.mem_filter,decide_eq_true_eq] at hp;obtain ⟨hp,hne⟩:=hp;have hposE:∀ n,0<n->n<=100->posOf BJ (Lib.itoa n)=some n:=fun n h1 h2=>by
  unfold posOf;rw [KC n (by unfold EX;omega)];simp only;rw [if_pos h1]
 simp only [List.mem_cons,List.not_mem_nil,or_false] at hp;rcases hp with rfl|rfl|rfl|rfl|rfl|rfl|rfl
 ·have:∀ n:Nat,n<4->valOf U rdC IE (C8.getD n [])=some (.fr (n+1:Nat)):=fun n hn=>by
   unfold valOf;rw [if_pos rfl];have:∀ n:Nat,n<4->F2 C8 (C8.getD n [])=some n:=by decide
   rw [this n hn];rfl
  have h2:=this (r.fr.toNat-1) (by have:=k.f1;have:=k.f2;omega);rw [show ((r.fr.toNat-1+1:Nat):Int)=r.fr by have:=k.f1;omega] at h2;exact h2
 ·have hv:FG U (.ev r.ev)=Lib.itoa r.ev:=by
   simp only [FG,I3] at hne ⊢
   split
   ·rename_i e;rw [if_pos e] at hne;exact absurd rfl hne
   ·rfl
  rw [hv]
  show valOf U rdC BW _=_
  unfold valOf;rw [if_neg (by decide),if_pos rfl]
  show (posOf BJ _).map _=_
  rw [hposE _ k.e1 k.e2];rfl
 ·have hv:r.ct≠0/\FG U (.ct r.ct)=Lib.itoa r.ct:=by
   simp only [FG,I3] at hne ⊢
   split
   ·rename_i e;rw [if_pos e] at hne;exact absurd rfl hne
   ·rename_i e;exact ⟨e,rfl⟩
  rw [hv.2]
  show valOf U rdC EA _=_
  unfold valOf;rw [if_neg (by decide),if_neg (by decide),if_pos rfl]
  show (posOf BJ _).map _=_
  rw [hposE _ (by have:=hv.1;have:=k.c1;omega) (by have:=k.c2;omega)];rfl
 ·have hu:0<=r.un:=by
   have:=k.u1;rcases (by omega:r.un=-1∨0<=r.un) with e|e
   ·have:FG U (.un r.un)=[]:=by rw [e];exact U.nil
    exact absurd this hne
   ·exact e
  show valOf U rdC EC _=_
  unfold valOf;rw [if_neg (by decide),if_neg (by decide),if_neg (by decide),if_pos rfl]
  show (U.f (U.text r.un)).map _=_
  rw [U.back _ hu (by have:=k.u2;omega)];rfl
 ·have hn:r.ys≠[]:=fun e=>hne (by show AR _ r.ys=[];rw [e];rfl)
  show valOf U rdC CI _=_
  unfold valOf;rw [if_neg (by decide),if_neg (by decide),if_neg (by decide),if_neg (by decide),if_pos rfl]
  show (PE AI BJ (AR Lib.itoa r.ys)).map _=_
  rw [QY ID 0 BJ Lib.itoa GS (fun x hx=>KC x (by rw [GS,AY] at hx;unfold EX;omega)) (fun x=>KH x 44 (by decide)) r.ys k.ys hn];rfl
 ·have hn:r.ms≠[]:=fun e=>hne (by show AR _ r.ms=[];rw [e];rfl)
  show valOf U rdC BA _=_
  unfold valOf;rw [if_neg (by decide),if_neg (by decide),if_neg (by decide),if_neg (by decide),if_neg (by decide),if_pos rfl]
  show (PE AI BJ (AR Lib.itoa r.ms)).map _=_
  rw [QY ID 0 BJ Lib.itoa G5 (fun x hx=>KC x (by rw [G5,Bool.and_eq_true,AY] at hx;unfold EX;omega)) (fun x=>KH x 44 (by decide)) r.ms k.ms hn];rfl
 ·have hn:r.ds≠[]:=fun e=>hne (by show AR _ r.ds=[];rw [e];rfl)
  show valOf U rdC ED _=_
  unfold valOf;rw [if_neg (by decide),if_neg (by decide),if_neg (by decide),if_neg (by decide),if_neg (by decide),if_neg (by decide),if_pos rfl]
  show (PE BO (BH BJ) (AR CC r.ds)).map _=_
  rw [QY UD (0,0) (BH BJ) CC EF (fun x hx=>A04 BJ (fun n h1 h2=>KC n (by unfold EX;omega)) x hx) (fun x=>XA x 44 (by decide) (fun w hw=>(UH w hw).1)) r.ds k.ds hn];rfl
theorem cR (r:T):((UL r).map tag).Nodup:=by
 have:(UL r).map tag=[0,1,2,3,4,5,6]:=rfl;rw [this];decide
theorem cS (U:Un) (r:T):((DF U r).map tag).Nodup:=by
 unfold DF;exact List.Sublist.nodup (List.Sublist.map tag List.filter_sublist) (cR r)
theorem uK {r:T} {p:Part} (h:QU r p):Part.set r p=r:=by
 obtain ⟨a,b,c,d,x,y,z⟩:=r
 cases p <;> simp only [QU] at h <;> subst h <;> rfl
theorem RX (U:Un) (r:T) (h:GH r=true):fold (DF U r)=r:=by
 have k:=FP h;have hd0:∀ w∈r.ds,EF w=true:=((CX UD (0,0) r.ds).1 k.ds).2.1;have key:∀ p∈UL r,FG U p=[]->QU r0 p:=by
  intro p hp hv;simp only [UL,List.mem_cons,List.not_mem_nil,or_false] at hp;rcases hp with rfl|rfl|rfl|rfl|rfl|rfl|rfl
  ·have:∀ n:Nat,n<4->C8.getD n []≠[]:=by decide
   exact absurd hv (this (r.fr.toNat-1) (by have:=k.f1;have:=k.f2;omega))
  ·simp only [FG,I3] at hv
   split at hv
   ·rename_i e;exact e.symm
   ·exact absurd hv (I2 _)
  ·simp only [FG,I3] at hv
   split at hv
   ·rename_i e;exact e.symm
   ·exact absurd hv (I2 _)
  ·have:=k.u1;rcases (by omega:r.un=-1∨0<=r.un) with e|e
   ·exact e.symm
   ·exact absurd hv (U.some _ e (by have:=k.u2;omega))
  ·exact ((QX _ I2 r.ys).1 hv).symm
  ·exact ((QX _ I2 r.ms).1 hv).symm
  ·show []=r.ds
   cases hds:r.ds with
   | nil=>rfl
   | cons w l =>
    have hw:=lK w (hd0 w (by rw [hds];simp));have hv2:AR CC r.ds=[]:=hv;rw [hds] at hv2;unfold AR at hv2
    cases l with
    | nil=>exact absurd hv2 hw
    | cons x l=>simp [AU] at hv2
 have gen:∀ (ps:List Part) (q:T),(ps.map tag).Nodup->(∀ p∈ps,FG U p=[]->QU q p)->(ps.filter fun p=>decide (FG U p≠[])).foldl Part.set q=ps.foldl Part.set q:=by
  intro ps
  induction ps with
  | nil=>intro q _ _;rfl
  | cons p ps ih =>
   intro q hn hq;rw [List.map_cons,List.nodup_cons] at hn;have hrest:∀ x∈ps,tag x≠tag p:=fun x hx e=>hn.1 (List.mem_map.2 ⟨x,hx,e⟩)
   by_cases hv:FG U p=[]
   ·rw [List.filter_cons_of_neg (by simpa using hv),List.foldl_cons,uK (hq p (by simp) hv)];exact ih q hn.2 fun x hx=>hq x (List.mem_cons_of_mem _ hx)
   ·rw [List.filter_cons_of_pos (by simpa using hv),List.foldl_cons,List.foldl_cons];exact ih _ hn.2 fun x hx g=>X5 q x p (hrest x hx) (hq x (List.mem_cons_of_mem _ hx) g)
 have e:=gen (UL r) r0 (cR r) key;unfold fold DF;rw [e];rfl
theorem N3 (U:Un) (r:T) (h:GH r=true):DF U r≠[]:=by
 intro e;have:=RX U r h;rw [e] at this;have k:=FP h;rw [<- this] at k;have:=k.f1
 revert this;decide
theorem XC (U:Un) (r:T) (h:GH r=true) (ps:List Part) (hp:ps.Perm (DF U r)):IM U (AU 59 (ps.map (ES U)))=some r:=by
 have hn:(ps.map tag).Nodup:=(hp.map tag).symm.nodup (cS U r);have hl:=Z1 hn;have hne:ps≠[]:=fun e=>N3 U r h (List.perm_nil.1 (by rw [e] at hp;exact hp.symm))
 have hc:cutAt 59 (AU 59 (ps.map (ES U)))=ps.map (ES U):=ME 59 _ (by simpa using hne) (fun p hpp=>by
  obtain ⟨x,_,rfl⟩:=List.mem_map.1 hpp;exact QZ U x)
 have hf:fold ps=r:=by rw [oL hn hp,RX U r h]
 unfold IM;rw [PG];refine ⟨ps,?_,hn,by rw [hf];unfold isB;rw [h,Bool.or_true],hf⟩;rcases EY 59 7 (AU 59 (ps.map (ES U))) with ⟨g,_⟩|⟨_,g,_⟩
 ·rw [g,hc,CW,List.map_map];exact List.map_congr_left fun p hpp=>oP U r h p (hp.mem_iff.1 hpp)
 ·rw [hc,List.length_map] at g;omega
theorem cT {U:Un} {s:Tx} (h:∀ ps,AK (FJ U) (cutAt 59 s)=some ps->(ps.map tag).Nodup->False):IM U s=none:=by
 rw [X9];unfold UG
 cases hr:ans (AK (FJ U) (cutAt 59 s)) with
 | none=>rfl
 | some r =>
  obtain ⟨l,h1,h2,_⟩:=PG.1 hr;exact absurd h2 (fun g=>h l h1 g)
theorem iN (U:Un) (ts:List Tx) (hts:ts≠[]) (hfree:∀ t∈ts,(59:UInt8)∉t) (x:Tx) (hx:x∈ts):IM U (AU 59 ts++59 :: x)=none:=by
 refine cT fun ps h hn=>?_
 rw [<- QO 59 x ts hts,ME 59 _ (by simp) (fun p hp=>by
  rcases List.mem_append.1 hp with g|g
  ·exact hfree p g
  ·rw [List.mem_singleton.1 g];exact hfree x hx)] at h
 rw [CW,List.map_append] at h;obtain ⟨as,bs,e,h1,h2⟩:=List.map_eq_append_iff.1 h.symm;obtain ⟨p,hp,g⟩:∃ p∈as,FJ U x=some p:=by
  have:FJ U x∈ts.map (FJ U):=List.mem_map.2 ⟨x,hx,rfl⟩;rw [<- h1] at this;obtain ⟨p,hp,g⟩:=List.mem_map.1 this;exact ⟨p,hp,g.symm⟩
 have hb:bs=[p]:=by
  rw [List.map_singleton,g] at h2
  cases bs with
  | nil=>cases h2
  | cons b bs =>
   simp only [List.map_cons,List.cons.injEq,List.map_eq_nil_iff,Option.some.injEq] at h2;rw [h2.1,h2.2]
 subst e hb;rw [List.map_append,List.nodup_append] at hn;exact hn.2.2 (tag p) (List.mem_map.2 ⟨p,hp,rfl⟩) (tag p) (by simp) rfl
end Go.Proofs.YtfecnkhoojnkbaaGreatDoor.Rt
namespace Go.Proofs.YtfecnkhoojnkbaaGreatDoor.Fo
open Go.Proofs.YtfecnkhoojnkbaaGreatDoor Rul Rt
def pc (r:Nat) (s:Tx):List Tx:=if s.length<=r∨r=0 then [s] else s.take r :: pc 74 (s.drop r)
 termination_by s.length
 decreasing_by simp only [List.length_drop];omega
theorem Z2 (r:Nat) (s:Tx) (h:s.length<=r):pc r s=[s]:=by rw [pc,if_pos (Or.inl h)]
theorem TB (r:Nat) (s:Tx) (h:r<s.length) (hr:r≠0):pc r s=s.take r :: pc 74 (s.drop r):=by
 rw [pc,if_neg (by omega)]
def PI:Tx:=[13,10,32]
def tlE (s:Tx):Tx:=if s.length=0 then [] else PI++(s.take 74++tlE (s.drop 74))
 termination_by s.length
 decreasing_by simp only [List.length_drop];omega
theorem JW:tlE []=[]:=by rw [tlE,if_pos List.length_nil]
theorem MG (s:Tx) (h:0<s.length):tlE s=PI++(s.take 74++tlE (s.drop 74)):=by
 rw [tlE,if_neg (by omega)]
def DT (s:Tx):Tx:=s.take 75++tlE (s.drop 75)
theorem IF (s:Tx) (h:s.length<=75):DT s=s:=by
 unfold DT;rw [List.take_of_length_le h,List.drop_eq_nil_of_le h,JW,List.append_nil]
theorem lM:∀ (k:Nat) (s:Tx),s.length<=k->0<s.length->Lib.joinTail PI (pc 74 s)=tlE s
 | 0,s,hk,h0=>by omega
 | k+1,s,hk,h0=>by
  by_cases h:s.length<=74
  ·rw [Z2 74 s h,MG s h0,List.take_of_length_le h,List.drop_eq_nil_of_le h,JW,List.append_nil];simp [Lib.joinTail]
  ·rw [TB 74 s (by omega) (by decide),MG s h0];have ih:=lM k (s.drop 74) (by rw [List.length_drop];omega) (by rw [List.length_drop];omega);rw [<- ih];simp [Lib.joinTail]
theorem lN (s:Tx):Lib.join (pc 75 s) PI=DT s:=by
 unfold DT
 by_cases h:s.length<=75
 ·rw [Z2 75 s h,Lib.join_one,List.take_of_length_le h,List.drop_eq_nil_of_le h,JW,List.append_nil]
 ·rw [TB 75 s (by omega) (by decide),Lib.join_cons,lM _ (s.drop 75) (Nat.le_refl _) (by rw [List.length_drop];omega)]
theorem uL:∀ (k:Nat) (r:Nat) (s:Tx),s.length<=k->(pc r s).length<=s.length+1
 | 0,r,s,hk=>by rw [Z2 r s (by omega)];simp
 | k+1,r,s,hk=>by
  by_cases h:s.length<=r∨r=0
  ·rw [pc,if_pos h];simp
  ·rw [TB r s (by omega) (by omega)];have ih:=uL k 74 (s.drop r) (by rw [List.length_drop];omega);rw [List.length_drop] at ih;simp only [List.length_cons];omega
theorem lP:∀ (k:Nat) (s:Tx),s.length<=k->(tlE s).length=s.length+3*((s.length+73) / 74)
 | 0,s,hk=>by
  have:s=[]:=List.eq_nil_of_length_eq_zero (by omega);subst this;rw [JW];rfl
 | k+1,s,hk=>by
  by_cases h:s.length=0
  ·have:s=[]:=List.eq_nil_of_length_eq_zero h;subst this;rw [JW];rfl
  ·have ih:=lP k (s.drop 74) (by rw [List.length_drop];omega);rw [MG s (by omega),z0J,z0J,ih,List.length_take,List.length_drop];simp only [PI,List.length_cons,List.length_nil];omega
theorem N4 (s:Tx):(DT s).length=s.length+3*((s.length-75+73) / 74):=by
 unfold DT;rw [z0J,lP _ _ (Nat.le_refl _),List.length_take,List.length_drop];omega
def cU (c:UInt8):Tx:=if c=92∨c=59∨c=44 then [92,c] else if c=10 then [92,110] else [c]
def DV (s:Tx):Tx:=s.flatMap cU
theorem R1 (s:Tx) (c:UInt8):DV (s++[c])=DV s++cU c:=by simp [DV]
theorem uM (c:UInt8):(cU c).length<=2:=by
 unfold cU
 split
 ·simp
 ·split <;> simp
theorem PJ (s:Tx):(DV s).length<=2*s.length:=by
 induction s with
 | nil=>simp [DV]
 | cons c t ih =>
  have:=uM c;simp only [DV,List.flatMap_cons,z0J,List.length_cons] at *;omega
def KI (d:UInt8):Option UInt8:=if d=92∨d=59∨d=44 then some d else if d=110∨d=78 then some 10 else none
def bad (c:UInt8):Bool:=c==59||c==44||c==10
def unE:Tx->Option Tx
 | []=>some []
 | c :: t=>if c=92 then (match t with
   | []=>none
   | d :: u=>match KI d with
    | none=>none
    | some b=>(unE u).map (b :: ·))
  else if bad c=true then none else (unE t).map (c :: ·)
theorem Z3:unE [92]=none:=rfl
theorem JD (d:UInt8) (u:Tx):unE (92 :: d :: u)=match KI d with
  | none=>none
  | some b=>(unE u).map (b :: ·):=by rw [unE,if_pos rfl]
theorem Z4 (c:UInt8) (t:Tx) (h:c≠92) (hb:bad c=true):unE (c :: t)=none:=by
 rw [unE.eq_def];simp only [if_neg h,if_pos hb]
theorem N5 (c:UInt8) (t:Tx) (h:c≠92) (hb:bad c=false):unE (c :: t)=(unE t).map (c :: ·):=by
 rw [unE.eq_def];simp only [if_neg h,hb,Bool.false_eq_true,if_false]
theorem map_nil (o:Option Tx):o.map (([]:Tx)++·)=o:=by cases o <;> rfl
theorem lQ (x:Tx):∀ s:Tx,unE (DV s++x)=(unE x).map (s++·)
 | []=>by rw [map_nil];rfl
 | c :: t=>by
  have ih:=lQ x t;have e2:DV (c :: t)++x=cU c++(DV t++x):=by simp [DV]
  have hm:(unE x).map ((c :: t)++·)=((unE x).map (t++·)).map (c :: ·):=by cases unE x <;> simp
  rw [e2,hm,<- ih];unfold cU
  by_cases h1:c=92∨c=59∨c=44
  ·rw [if_pos h1]
   show unE (92 :: c :: (DV t++x))=_
   rw [JD,KI,if_pos h1]
  ·rw [if_neg h1]
   by_cases h2:c=10
   ·subst h2;rw [if_pos rfl]
    show unE (92 :: 110 :: (DV t++x))=_
    rw [JD];rfl
   ·rw [if_neg h2]
    show unE (c :: (DV t++x))=_
    exact N5 c _ (fun e=>h1 (Or.inl e)) (by simp [bad,h2];exact ⟨fun e=>h1 (Or.inr (Or.inl e)),fun e=>h1 (Or.inr (Or.inr e))⟩)
theorem uN (s:Tx):unE (DV s)=some s:=by
 have:=lQ [] s;rw [List.append_nil] at this;rw [this];simp [unE]
theorem PK (x:Tx):∀ p:Tx,92∉p->unE (p++x)=if p.any bad=true then none else (unE x).map (p++·)
 | [],_=>by rw [map_nil];rfl
 | c :: t,h=>by
  have hc:c≠92:=fun e=>h (e▸List.mem_cons_self)
  have ih:=PK x t fun g=>h (List.mem_cons_of_mem _ g)
  rw [List.cons_append]
  cases hb:bad c with
  | true=>rw [Z4 c _ hc hb,List.any_cons,hb];rfl
  | false =>
   rw [N5 c _ hc hb,ih,List.any_cons,hb,Bool.false_or]
   split
   ·rfl
   ·cases unE x <;> simp
theorem A05 (p:Tx) (h:92∉p):unE p=if p.any bad=true then none else some p:=by
 have:=PK [] p h;rw [List.append_nil] at this;rw [this];simp [unE]
theorem TC:∀ (k:Nat) (s t:Tx),s.length<=k->unE s=some t->t.length<=s.length
 | _,[],t,_,h=>by simp [unE] at h;subst h;simp
 | 0,c :: s,t,hk,_=>by simp at hk
 | k+1,c :: s,t,hk,h=>by
  by_cases hc:c=92
  ·subst hc
   cases s with
   | nil=>simp [unE] at h
   | cons d u =>
    rw [JD] at h
    cases hm:KI d with
    | none=>rw [hm] at h;cases h
    | some b =>
     rw [hm] at h;simp only [Option.map_eq_some_iff] at h;obtain ⟨v,hv,rfl⟩:=h;have:=TC k u v (by simp at hk;omega) hv;simp only [List.length_cons];omega
  ·cases hb:bad c with
   | true=>rw [Z4 c s hc hb] at h;cases h
   | false =>
    rw [N5 c s hc hb,Option.map_eq_some_iff] at h;obtain ⟨v,hv,rfl⟩:=h;have:=TC k s v (by simp at hk;omega) hv;simp only [List.length_cons];omega
def crlf:Tx:=[13,10]
theorem uO:crlf.length=2:=rfl
theorem uP (s:Tx):Lib.occAt s crlf s.length=false:=by simp [Lib.occAt,crlf]
theorem UM (s:Tx) (h:Lib.NoOcc s crlf s.length):Lib.split s crlf=[s]:=by
 have hi:Lib.index s crlf=-1:=by
  rcases Lib.index_spec s crlf with ⟨h1,_⟩|⟨i,h1,h2,h3,_⟩
  ·exact h1
  ·rcases Nat.lt_or_ge i s.length with g|g
   ·rw [h i g] at h3;cases h3
   ·have:i=s.length:=by omega
    subst this;rw [uP] at h3;cases h3
 unfold Lib.split;rw [Lib.count_miss hi];rfl
theorem XD (s:Tx) (i:Nat) (h:Lib.NoOcc s crlf i) (hi:i<=s.length) (ho:Lib.occAt s crlf i=true):Lib.split s crlf=s.take i :: Lib.split (s.drop (i+2)) crlf:=by
 have hx:Lib.index s crlf=i:=Lib.index_hit h hi ho;unfold Lib.split;rw [Lib.count_hit (by decide) hx,Nat.add_comm 1,Lib.splitK,if_neg (by rw [beq_iff_eq];omega),hx,uO];simp
theorem UN (p q:Tx) (h:(13:UInt8)∉p):Lib.NoOcc (p++q) crlf p.length:=fun j hj=>by
 unfold Lib.occAt;rw [List.drop_append_of_le_length (Nat.le_of_lt hj),List.drop_eq_getElem_cons hj];have:p[j]≠13:=fun e=>h (e▸List.getElem_mem hj)
 show List.isPrefixOf (13 :: [10]) (p[j] :: (p.drop (j+1)++q))=false
 rw [List.isPrefixOf];rw [Bool.and_eq_false_iff];left;exact beq_eq_false_iff_ne.2 (Ne.symm this)
theorem iO (p:Tx) (h:(13:UInt8)∉p):Lib.split p crlf=[p]:=by
 have:=UN p [] h;rw [List.append_nil] at this;exact UM p this
theorem R2 (p q:Tx) (h:(13:UInt8)∉p):Lib.split (p++crlf++q) crlf=p :: Lib.split q crlf:=by
 rw [List.append_assoc];have h1:=UN p (crlf++q) h;have h2:Lib.occAt (p++(crlf++q)) crlf p.length=true:=by
  unfold Lib.occAt;rw [List.drop_left' rfl];simp [crlf]
 rw [XD _ p.length h1 (by simp) h2,List.take_left' rfl]
 congr 2
 rw [List.drop_append];simp [crlf]
theorem PL (s:Tx):Lib.split s crlf≠[]:=by
 intro e;unfold Lib.split at e
 cases h:Lib.count s crlf with
 | zero=>rw [h] at e;simp [Lib.splitK] at e
 | succ k =>
  rw [h,Lib.splitK] at e
  split at e <;> simp at e
def fin (l:List Tx):List Tx:=if l.getLast?=some [] then l.dropLast else l
theorem UO (l:List Tx):fin (l++[[]])=l:=by simp [fin]
theorem cV (l:List Tx) (p:Tx) (h:p≠[]):fin (l++[p])=l++[p]:=by
 simp [fin,h]
def snoc (out:List Tx) (p:Tx):List Tx:=if out≠[]/\p.head?=some 32 then out.dropLast++[out.getLastD []++p.tail] else out++[p]
theorem UP (out:List Tx) (p:Tx) (h:p.head?≠some 32):snoc out p=out++[p]:=by
 unfold snoc;rw [if_neg fun g=>h g.2]
theorem MH (p:Tx):snoc [] p=[p]:=by
 unfold snoc;rw [if_neg fun g=>g.1 rfl];rfl
theorem TD (out:List Tx) (x t:Tx):snoc (out++[x]) (32 :: t)=out++[x++t]:=by
 unfold snoc;rw [if_pos ⟨by simp,rfl⟩,List.dropLast_concat];simp
def BL (ps:List Tx):List Tx:=ps.foldl snoc []
def CJ (s:Tx):List Tx:=BL (fin (Lib.split s crlf))
def ftl (s:Tx):List Tx:=if s.length=0 then [] else (32 :: s.take 74) :: ftl (s.drop 74)
 termination_by s.length
 decreasing_by simp only [List.length_drop];omega
theorem TE:ftl []=[]:=by rw [ftl,if_pos List.length_nil]
theorem cW (s:Tx) (h:0<s.length):ftl s=(32 :: s.take 74) :: ftl (s.drop 74):=by
 rw [ftl,if_neg (by omega)]
def fpc (s:Tx):List Tx:=s.take 75 :: ftl (s.drop 75)
theorem cZ {c:UInt8} {s:Tx} (h:c∉s) (k:Nat):c∉s.take k:=fun g=>h (List.mem_of_mem_take g)
theorem dA {c:UInt8} {s:Tx} (h:c∉s) (k:Nat):c∉s.drop k:=fun g=>h (List.mem_of_mem_drop g)
theorem dB:∀ (k:Nat) (p s rest:Tx),s.length<=k->(13:UInt8)∉p->(13:UInt8)∉s->Lib.split (p++tlE s++crlf++rest) crlf=p :: (ftl s++Lib.split rest crlf)
 | 0,p,s,rest,hk,hp,hs=>by
  have:s=[]:=List.eq_nil_of_length_eq_zero (by omega);subst this;rw [JW,TE,List.append_nil,R2 p rest hp];rfl
 | k+1,p,s,rest,hk,hp,hs=>by
  by_cases h:s.length=0
  ·have:s=[]:=List.eq_nil_of_length_eq_zero h;subst this;rw [JW,TE,List.append_nil,R2 p rest hp];rfl
  ·have e:p++tlE s++crlf++rest=p++crlf++((32 :: s.take 74)++tlE (s.drop 74)++crlf++rest):=by
    rw [MG s (by omega)];simp [PI,crlf]
   rw [e,R2 p _ hp,cW s (by omega)];rw [dB k (32 :: s.take 74) (s.drop 74) rest (by rw [List.length_drop];omega) (by
    intro g;rcases List.mem_cons.1 g with g|g
    ·revert g;decide
    ·exact cZ hs 74 g) (dA hs 74)]
   rfl
theorem iP (s rest:Tx) (hs:(13:UInt8)∉s):Lib.split (DT s++crlf++rest) crlf=fpc s++Lib.split rest crlf:=by
 unfold DT fpc;rw [dB _ _ _ rest (Nat.le_refl _) (cZ hs _) (dA hs _)];rfl
theorem dD (r:List Tx):∀ (k:Nat) (s x:Tx) (out:List Tx),s.length<=k->(ftl s++r).foldl snoc (out++[x])=r.foldl snoc (out++[x++s])
 | 0,s,x,out,hk=>by
  have:s=[]:=List.eq_nil_of_length_eq_zero (by omega);subst this;rw [TE,List.append_nil];rfl
 | k+1,s,x,out,hk=>by
  by_cases h:s.length=0
  ·have:s=[]:=List.eq_nil_of_length_eq_zero h;subst this;rw [TE,List.append_nil];rfl
  ·rw [cW s (by omega),List.cons_append,List.foldl_cons,TD,dD r k (s.drop 74) (x++s.take 74) out (by rw [List.length_drop];omega),List.append_assoc,List.take_append_drop]
theorem head_take {s:Tx} {k:Nat} (hk:0<k):(s.take k).head?=s.head?:=by
 cases s with
 | nil=>simp
 | cons c t=>cases k with
  | zero=>omega
  | succ k=>rfl
theorem oQ (s:Tx) (r out:List Tx) (h:s.head?≠some 32):(fpc s++r).foldl snoc out=r.foldl snoc (out++[s]):=by
 unfold fpc;rw [List.cons_append,List.foldl_cons,UP out _ (by rw [head_take (by decide)];exact h),dD r _ _ _ _ (Nat.le_refl _),List.take_append_drop]
def flat:List Tx->Tx
 | []=>[]
 | s :: l=>DT s++crlf++flat l
theorem R3 (s:Tx):∀ l:List Tx,flat (l++[s])=flat l++(DT s++crlf)
 | []=>by simp [flat]
 | x :: l=>by rw [List.cons_append,flat,R3 s l,flat];simp
theorem UQ:∀ l:List Tx,(∀ s∈l,(13:UInt8)∉s)->Lib.split (flat l) crlf=l.flatMap fpc++[[]]
 | [],_=>by rw [flat,iO [] (by simp)];rfl
 | s :: l,h=>by
  rw [flat,iP s _ (h s (by simp)),UQ l fun x hx=>h x (List.mem_cons_of_mem _ hx)];simp
theorem UR:∀ (l out:List Tx),(∀ s∈l,s.head?≠some 32)->(l.flatMap fpc).foldl snoc out=out++l
 | [],out,_=>by simp
 | s :: l,out,h=>by
  rw [List.flatMap_cons,oQ s _ out (h s (by simp)),UR l _ fun x hx=>h x (List.mem_cons_of_mem _ hx)];simp
theorem dF (l:List Tx) (h:∀ s∈l,s.head?≠some 32/\(13:UInt8)∉s):CJ (flat l)=l:=by
 unfold CJ BL;rw [UQ l fun s hs=>(h s hs).2,UO,UR l [] fun s hs=>(h s hs).1];rfl
end Go.Proofs.YtfecnkhoojnkbaaGreatDoor.Fo
namespace Go.Proofs.YtfecnkhoojnkbaaGreatDoor.Li
open Go.Proofs.YtfecnkhoojnkbaaGreatDoor Rul Rt Fo
def inI (x:Int):Bool:=(decide (65<=x)&&decide (x<=90))||(decide (48<=x)&&decide (x<=57))||(x==45)
def inN (c:UInt8):Bool:=inI (c.toNat:Int)
def up (c:UInt8):UInt8:=if 97<=c.toNat/\c.toNat<=122 then c-32 else c
def AW (s:Tx):Tx:=s.map up
def FE (s:Tx):Bool:=decide (1<=s.length)&&decide (s.length<=20)&&s.all inN
def AV (s:Tx):Option (Tx×Tx) :=
 if 58∈s then
  (if FE (AW (s.takeWhile (· != 58))) then some (AW (s.takeWhile (· != 58)),s.drop ((s.takeWhile (· != 58)).length+1)) else none)
 else none
theorem RY (c:UInt8):∀ (p r:Tx),c∉p->(p++c :: r).takeWhile (· != c)=p
 | [],r,_=>by simp
 | x :: p,r,h=>by
  have hx:x≠c:=fun e=>h (e▸List.mem_cons_self)
  have ih:=RY c p r fun g=>h (List.mem_cons_of_mem _ g)
  rw [List.cons_append,List.takeWhile_cons,if_pos (by simpa using hx),ih]
theorem US (s:Tx) (h:58∉s):AV s=none:=by unfold AV;rw [if_neg h]
theorem dG (p r:Tx) (h:58∉p):AV (p++58 :: r)=if FE (AW p) then some (AW p,r) else none:=by
 unfold AV;rw [if_pos (by simp),RY 58 p r h];have e:(p++58 :: r).drop (p.length+1)=r:=by
  rw [<- List.drop_drop,List.drop_left];rfl
 rw [e]
theorem UT (s p r:Tx) (hs:s=p++58 :: r) (h:58∉p) (hn:FE (AW p)=true):AV s=some (AW p,r):=by
 rw [hs,dG p r h,if_pos hn]
theorem XE (s p r:Tx) (hs:s=p++58 :: r) (h:58∉p) (hn:FE (AW p)=false):AV s=none:=by
 rw [hs,dG p r h,hn];rfl
theorem iQ (c:UInt8):∀ s:Tx,Lib.index s [c]=-1/\c∉s∨∃ i:Nat,Lib.index s [c]=(i:Int)/\i<s.length/\c∉s.take i/\s=s.take i++c :: s.drop (i+1):=fun s=>by
 rcases Lib.index_spec s [c] with ⟨h1,h2⟩|⟨i,h1,h2,h3,h4⟩
 ·left
  refine ⟨h1,fun hm=>?_⟩;obtain ⟨j,hj,e⟩:=List.mem_iff_getElem.1 hm;have:=h2 j (by omega);unfold Lib.occAt at this;rw [List.drop_eq_getElem_cons hj,e] at this;simp at this
 ·right
  have hlt:i<s.length:=by
   unfold Lib.occAt at h3;rcases Nat.lt_or_ge i s.length with g|g
   ·exact g
   ·rw [List.drop_eq_nil_of_le g] at h3;simp at h3
  have hc:s[i]=c:=by
   unfold Lib.occAt at h3;rw [List.drop_eq_getElem_cons hlt] at h3;simp [List.isPrefixOf] at h3;exact h3.symm
  refine ⟨i,h1,hlt,fun hm=>?_,?_⟩
  ·obtain ⟨j,hj,e⟩:=List.mem_iff_getElem.1 hm;rw [List.length_take] at hj;rw [List.getElem_take] at e;have:=h4 j (by omega);unfold Lib.occAt at this;rw [List.drop_eq_getElem_cons (by omega),e] at this;simp at this
  ·have:s.take i++s.drop i=s:=List.take_append_drop i s;rw [List.drop_eq_getElem_cons hlt,hc] at this;exact this.symm
theorem LA (x:Int):inI x=true↔(65<=x/\x<=90)∨(48<=x/\x<=57)∨x=45:=by
 unfold inI;simp only [Bool.or_eq_true,Bool.and_eq_true,decide_eq_true_eq,beq_iff_eq];omega
theorem R4 (x:Int) (h:¬ ((65<=x/\x<=90)∨(48<=x/\x<=57)∨x=45)):inI x=false:=by
 rw [Bool.eq_false_iff];intro g;exact h ((LA x).1 g)
theorem lR (c:UInt8) (h1:97<=c.toNat):(c-32).toNat=c.toNat-32:=by
 have h3:(32:UInt8).toNat=32:=rfl;have hl:=c.toNat_lt;rw [UInt8.toNat_sub,h3];omega
theorem PM (c:UInt8) (h1:97<=c.toNat) (h2:c.toNat<=122):up c=c-32:=by unfold up;rw [if_pos ⟨h1,h2⟩]
theorem KJ (c:UInt8) (h:¬ (97<=c.toNat/\c.toNat<=122)):up c=c:=by unfold up;rw [if_neg h]
theorem DZ (s:Tx):(AW s).length=s.length:=by simp [AW]
theorem XF (s:Tx) (k:Nat) (h:k<s.length) (c:UInt8) (hc:s[k]=c) :
  (AW (s.take k)++s.drop k).set k (up c)=AW (s.take (k+1))++s.drop (k+1):=by
 have e1:(AW (s.take k)).length=k:=by rw [DZ,List.length_take];omega
 rw [List.set_append_right _ _ (by omega),e1,Nat.sub_self,List.drop_eq_getElem_cons h,List.set_cons_zero,List.take_succ_eq_append_getElem h,hc];simp [AW]
theorem N6 (s:Tx) (k:Nat) (h:k<s.length) (c:UInt8) (hc:s[k]=c) (hu:up c=c) :
  AW (s.take k)++s.drop k=AW (s.take (k+1))++s.drop (k+1):=by
 rw [List.drop_eq_getElem_cons h,List.take_succ_eq_append_getElem h,hc];simp [AW,hu]
theorem lS (s:Tx) (k:Nat) (h:k<s.length) (h2:k<(AW (s.take k)++s.drop k).length):(AW (s.take k)++s.drop k)[k]=s[k]:=by
 have e1:(AW (s.take k)).length=k:=by rw [DZ,List.length_take];omega
 rw [List.getElem_append_right (by omega),List.getElem_drop]
 congr 1
 omega
theorem dH (s:Tx):AW (s.take s.length)++s.drop s.length=AW s:=by
 rw [List.take_of_length_le (Nat.le_refl _),List.drop_eq_nil_of_le (Nat.le_refl _),List.append_nil]
theorem oS (s:Tx):FE s=true↔1<=s.length/\s.length<=20/\s.all inN=true:=by
 unfold FE;simp only [Bool.and_eq_true,decide_eq_true_eq];exact and_assoc
theorem RZ (s:Tx) (h:s.length<1):FE s=false:=by
 unfold FE;rw [z0G (by omega:¬ 1<=s.length)];rfl
theorem UU (s:Tx) (h:20<s.length):FE s=false:=by
 unfold FE;rw [z0G (by omega:¬ s.length<=20),Bool.and_false,Bool.false_and]
theorem oT (s:Tx) (h1:1<=s.length) (h2:s.length<=20):FE s=s.all inN:=by
 unfold FE;rw [z0H h1,z0H h2];rfl
theorem uQ (s:Tx) (k:Nat) (h:k<s.length) (hc:inN s[k]=false):s.all inN=false:=by
 rw [Bool.eq_false_iff,Ne,List.all_eq_true];intro g;have:=g s[k] (List.getElem_mem h);rw [hc] at this;cases this
theorem dI (s:Tx) (k:Nat) (h:k<s.length) (hk:(s.take k).all inN=true) (hc:inN s[k]=true):(s.take (k+1)).all inN=true:=by
 rw [List.take_succ_eq_append_getElem h,List.all_append,hk,List.all_cons,hc];rfl
end Go.Proofs.YtfecnkhoojnkbaaGreatDoor.Li
namespace Go.Proofs.YtfecnkhoojnkbaaGreatDoor.Fo
open Go.Proofs.YtfecnkhoojnkbaaGreatDoor Rul Rt
def BQ (p:Tx):Bool:=p.head?==some 32
def tls (l:List Tx):Tx:=(l.map List.tail).flatten
theorem lT:tls []=[]:=rfl
theorem dJ (p:Tx) (l:List Tx):tls (p :: l)=p.tail++tls l:=by simp [tls]
theorem uR (l:List Tx) (p:Tx):tls (l++[p])=tls l++p.tail:=by simp [tls]
def grp:List Tx->List Tx
 | []=>[]
 | p :: r=>(p++tls (r.takeWhile BQ)) :: grp (r.dropWhile BQ)
 termination_by l=>l.length
 decreasing_by
 have:=(List.dropWhile_suffix BQ (l:=r)).length_le;simp only [List.length_cons];omega
theorem TF:grp []=[]:=by rw [grp]
theorem PN (p:Tx) (r:List Tx):grp (p :: r)=(p++tls (r.takeWhile BQ)) :: grp (r.dropWhile BQ):=by rw [grp]
theorem UW (p:Tx):BQ p=true↔p.head?=some 32:=by unfold BQ;exact beq_iff_eq
theorem S0 {p:Tx} (h:BQ p=true):p=32 :: p.tail:=by
 rw [UW] at h
 cases p with
 | nil=>simp at h
 | cons c t=>simp at h;subst h;rfl
theorem lU (out:List Tx):∀ (r:List Tx) (x:Tx),r.foldl snoc (out++[x])=(r.dropWhile BQ).foldl snoc (out++[x++tls (r.takeWhile BQ)])
 | [],x=>by simp [tls]
 | p :: r,x=>by
  cases hp:BQ p with
  | false=>rw [List.dropWhile_cons_of_neg (by simp [hp]),List.takeWhile_cons_of_neg (by simp [hp]),lT,List.append_nil]
  | true =>
   rw [List.dropWhile_cons_of_pos hp,List.takeWhile_cons_of_pos hp,dJ,<- List.append_assoc,<- lU out r (x++p.tail)];rw [List.foldl_cons]
   congr 1
   have e:=S0 hp;rw [e,TD];rfl
theorem oU {r:List Tx} {p:Tx} {q:List Tx} (h:r.dropWhile BQ=p :: q):BQ p=false:=by
 induction r with
 | nil=>simp at h
 | cons a r ih =>
  cases ha:BQ a with
  | true=>rw [List.dropWhile_cons_of_pos ha] at h;exact ih h
  | false=>rw [List.dropWhile_cons_of_neg (by simp [ha])] at h;injection h with h1 h2;rw [<- h1];exact ha
theorem dK:∀ (n:Nat) (ps out:List Tx),ps.length<=n->(out=[]∨∀ p q,ps=p :: q->BQ p=false)->ps.foldl snoc out=out++grp ps
 | _,[],out,_,_=>by rw [TF,List.append_nil];rfl
 | 0,p :: r,out,h,_=>by simp at h
 | n+1,p :: r,out,h,ho=>by
  have e:snoc out p=out++[p]:=by
   rcases ho with rfl|ho
   ·exact MH p
   ·exact UP out p (by have:=ho p r rfl;rw [<- Bool.not_eq_true,UW] at this;exact this)
  rw [List.foldl_cons,e,lU,PN];rw [dK n (r.dropWhile BQ) _ (by have:=(List.dropWhile_suffix BQ (l:=r)).length_le;simp at h;omega) (Or.inr fun p q h=>oU h)];simp
theorem XG (ps:List Tx):BL ps=grp ps:=by
 unfold BL;rw [dK _ ps [] (Nat.le_refl _) (Or.inl rfl)];rfl
theorem lV:∀ (r:List Tx) (k:Nat),k<=r.length->(∀ i (h:i<r.length),i<k->BQ r[i]=true)->(∀ h:k<r.length,BQ r[k]=false)->r.takeWhile BQ=r.take k/\r.dropWhile BQ=r.drop k
 | [],k,hk,_,_=>by simp
 | p :: r,0,_,_,h2=>by
  have:=h2 (by simp);simp only [List.getElem_cons_zero] at this;rw [List.takeWhile_cons_of_neg (by simp [this]),List.dropWhile_cons_of_neg (by simp [this])];simp
 | p :: r,k+1,hk,h1,h2=>by
  have hp:BQ p=true:=h1 0 (by simp) (by omega);obtain ⟨e1,e2⟩:=lV r k (by simpa using hk) (fun i hi hik=>by have:=h1 (i+1) (by simpa using hi) (by omega);simpa using this) (fun h=>by have:=h2 (by simpa using h);simpa using this);rw [List.takeWhile_cons_of_pos hp,List.dropWhile_cons_of_pos hp,e1,e2];simp
theorem A2m (ps:List Tx) (j k:Nat) (hj:j<ps.length) (hjk:j<k) (hk:k<=ps.length) (h1:∀ i (h:i<ps.length),j<i->i<k->BQ ps[i]=true) (h2:∀ h:k<ps.length,BQ ps[k]=false) :
  grp (ps.drop j)=(ps[j]++tls ((ps.take k).drop (j+1))) :: grp (ps.drop k):=by
 rw [List.drop_eq_getElem_cons hj,PN];obtain ⟨e1,e2⟩:=lV (ps.drop (j+1)) (k-(j+1)) (by rw [List.length_drop];omega) (fun i hi hik=>by
  rw [List.length_drop] at hi;rw [List.getElem_drop];exact h1 _ _ (by omega) (by omega)) (fun h=>by
  rw [List.length_drop] at h;rw [List.getElem_drop];have e:j+1+(k-(j+1))=k:=by omega
  simp only [e];exact h2 (by omega))
 rw [e1,e2,List.drop_drop,List.drop_take];have e:j+1+(k-(j+1))=k:=by omega
 rw [e]
theorem S7 (sep:Tx):∀ (k:Nat) (s:Tx),(Lib.splitK sep 0 k s).flatten.length<=s.length
 | 0,s=>by simp [Lib.splitK]
 | k+1,s=>by
  rw [Lib.splitK]
  split
  ·simp
  ·have:=S7 sep k (s.drop ((Lib.index s sep).toNat+sep.length));rw [List.length_drop] at this;simp only [List.flatten_cons,z0J,List.length_take];omega
theorem JE (s:Tx):(Lib.split s crlf).flatten.length<=s.length:=S7 _ _ _
theorem TG:∀ (l:List Tx) (p:Tx),p∈l->p.length<=l.flatten.length
 | [],p,h=>by cases h
 | q :: l,p,h=>by
  simp only [List.flatten_cons,z0J];rcases List.mem_cons.1 h with rfl|h
  ·omega
  ·have:=TG l p h;omega
theorem XH (l:List Tx) (k:Nat):(l.drop k).flatten.length<=l.flatten.length:=by
 have:l.flatten=(l.take k).flatten++(l.drop k).flatten:=by rw [<- List.flatten_append,List.take_append_drop]
 rw [this,z0J];omega
theorem R5 (l:List Tx) (k:Nat):(l.take k).flatten.length<=l.flatten.length:=by
 have:l.flatten=(l.take k).flatten++(l.drop k).flatten:=by rw [<- List.flatten_append,List.take_append_drop]
 rw [this,z0J];omega
theorem Z5:∀ l:List Tx,(tls l).length<=l.flatten.length
 | []=>by simp [tls]
 | p :: l=>by
  have:=Z5 l;rw [dJ];simp only [z0J,List.length_tail,List.flatten_cons];omega
theorem PO (sep:Tx):∀ (k:Nat) (s:Tx),(Lib.splitK sep 0 k s).length<=k+1
 | 0,s=>by simp [Lib.splitK]
 | k+1,s=>by
  rw [Lib.splitK]
  split
  ·simp
  ·have:=PO sep k (s.drop ((Lib.index s sep).toNat+sep.length));simp only [List.length_cons];omega
theorem dL (l:List Tx):(fin l).flatten.length<=l.flatten.length:=by
 unfold fin
 split
 ·rw [List.dropLast_eq_take];exact R5 l _
 ·exact Nat.le_refl _
theorem A06 (l:List Tx):(fin l).length<=l.length:=by
 unfold fin
 split
 ·rw [List.length_dropLast];omega
 ·exact Nat.le_refl _
theorem lW:∀ (n:Nat) (l:List Tx),l.length<=n->(grp l).length<=l.length
 | _,[],_=>by rw [TF];exact Nat.le_refl _
 | 0,p :: r,h=>by simp at h
 | n+1,p :: r,h=>by
  have h1:=(List.dropWhile_suffix BQ (l:=r)).length_le;have:=lW n (r.dropWhile BQ) (by simp at h;omega);rw [PN];simp only [List.length_cons];omega
theorem NW:∀ (n:Nat) (l:List Tx),l.length<=n->(grp l).flatten.length<=l.flatten.length
 | _,[],_=>by rw [TF];exact Nat.le_refl _
 | 0,p :: r,h=>by simp at h
 | n+1,p :: r,h=>by
  have h1:=(List.dropWhile_suffix BQ (l:=r)).length_le;have:=NW n (r.dropWhile BQ) (by simp at h;omega);have h2:=Z5 (r.takeWhile BQ);have e:r.flatten=(r.takeWhile BQ).flatten++(r.dropWhile BQ).flatten:=by rw [<- List.flatten_append,List.takeWhile_append_dropWhile]
  rw [PN];simp only [List.flatten_cons,z0J];rw [e,z0J];omega
theorem iR:∀ s:Tx,Lib.index s [92]=-1/\92∉s∨∃ i:Nat,Lib.index s [92]=(i:Int)/\i<s.length/\92∉s.take i/\s=s.take i++92 :: s.drop (i+1):=fun s=>by
 rcases Lib.index_spec s [92] with ⟨h1,h2⟩|⟨i,h1,h2,h3,h4⟩
 ·left
  refine ⟨h1,fun hm=>?_⟩;obtain ⟨j,hj,e⟩:=List.mem_iff_getElem.1 hm;have:=h2 j (by omega);unfold Lib.occAt at this;rw [List.drop_eq_getElem_cons hj,e] at this;simp at this
 ·right
  have hlt:i<s.length:=by
   unfold Lib.occAt at h3;rcases Nat.lt_or_ge i s.length with g|g
   ·exact g
   ·rw [List.drop_eq_nil_of_le g] at h3;simp at h3
  have hc:s[i]=92:=by
   unfold Lib.occAt at h3;rw [List.drop_eq_getElem_cons hlt] at h3;simp [List.isPrefixOf] at h3;exact h3.symm
  refine ⟨i,h1,hlt,fun hm=>?_,?_⟩
  ·obtain ⟨j,hj,e⟩:=List.mem_iff_getElem.1 hm;rw [List.length_take] at hj;rw [List.getElem_take] at e;have:=h4 j (by omega);unfold Lib.occAt at this;rw [List.drop_eq_getElem_cons (by omega),e] at this;simp at this
  ·have:s.take i++s.drop i=s:=List.take_append_drop i s;rw [List.drop_eq_getElem_cons hlt,hc] at this;exact this.symm
theorem uS {S s E p r:Tx} {b d:UInt8} (h:unE S=(unE s).map (E++·)) (hs:s=p++92 :: d :: r) (hp:92∉p) (hb:p.any bad=false) (hm:KI d=some b):unE S=(unE r).map (((E++p)++[b])++·):=by
 rw [h,hs,PK _ p hp,hb,JD,hm]
 cases unE r <;> simp
theorem dM {S s E p t:Tx} (h:unE S=(unE s).map (E++·)) (hs:s=p++t) (hp:92∉p) (hb:p.any bad=true):unE S=none:=by
 rw [h,hs,PK _ p hp,hb];rfl
theorem uT {S s E:Tx} (h:unE S=(unE s).map (E++·)) (hp:92∉s) (hb:s.any bad=false):unE S=some (E++s):=by
 rw [h,A05 s hp,hb];rfl
theorem A07 {S s E p t:Tx} (h:unE S=(unE s).map (E++·)) (hs:s=p++92 :: t) (hp:92∉p) (hb:p.any bad=false) (ht:t=[]∨∃ d u,t=d :: u/\KI d=none):unE S=none:=by
 rw [h,hs,PK _ p hp,hb];rcases ht with rfl|⟨d,u,rfl,hm⟩
 ·rfl
 ·rw [JD,hm];rfl
end Go.Proofs.YtfecnkhoojnkbaaGreatDoor.Fo
namespace Go.Proofs.YtfecnkhoojnkbaaGreatDoor.Fo
open Go.Proofs.YtfecnkhoojnkbaaGreatDoor Rul Rt
def OE (S:Tx) (j k:Nat) (out:List Tx):Prop :=
 j<=S.length/\k<=j/\∃ done,Lib.split S crlf=done++Lib.split (S.drop k) crlf/\out=BL done/\Lib.NoOcc (S.drop k) crlf (j-k)
theorem dN (S:Tx) (k i:Nat):Lib.occAt (S.drop k) crlf i=Lib.occAt S crlf (k+i):=by
 unfold Lib.occAt;rw [List.drop_drop]
theorem iS (S:Tx):OE S 0 0 []:=⟨Nat.zero_le _,Nat.le_refl _,[],by simp,rfl,Lib.NoOcc.zero _ _⟩
theorem R6 {S:Tx} {j k:Nat} {out:List Tx} (h:OE S j k out) (hj:j<S.length) (ho:Lib.occAt S crlf j=false):OE S (j+1) k out:=by
 obtain ⟨h1,h2,done,h3,h4,h5⟩:=h;refine ⟨hj,by omega,done,h3,h4,?_⟩;have e:j+1-k=(j-k)+1:=by omega
 rw [e];refine h5.succ ?_;rw [dN];have e2:k+(j-k)=j:=by omega
 rw [e2];exact ho
theorem uU {S:Tx} {j k:Nat} {out:List Tx} (h:OE S j k out) (hj:j+2<=S.length) (ho:Lib.occAt S crlf j=true):OE S (j+2) (j+2) (snoc out ((S.take j).drop k)):=by
 obtain ⟨h1,h2,done,h3,h4,h5⟩:=h;have e2:k+(j-k)=j:=by omega
 have hs:=XD (S.drop k) (j-k) h5 (by rw [List.length_drop];omega) (by rw [dN,e2];exact ho);refine ⟨hj,Nat.le_refl _,done++[(S.take j).drop k],?_,?_,?_⟩
 ·rw [h3,hs,List.drop_drop,List.drop_take,show k+(j-k+2)=j+2 by omega];simp
 ·rw [h4];unfold BL;rw [List.foldl_append];rfl
 ·rw [Nat.sub_self];exact Lib.NoOcc.zero _ _
theorem UX {S:Tx} {k:Nat} {out:List Tx} (h:OE S S.length k out):∃ done,Lib.split S crlf=done++[S.drop k]/\out=BL done:=by
 obtain ⟨h1,h2,done,h3,h4,h5⟩:=h;refine ⟨done,?_,h4⟩;rw [h3,UM (S.drop k) (by rw [List.length_drop];exact h5)]
theorem WE {S:Tx} {k:Nat} {out:List Tx} (h:OE S S.length k out) (hp:S.drop k=[]):CJ S=out:=by
 obtain ⟨done,h1,h2⟩:=UX h;unfold CJ;rw [h1,hp,UO,h2]
theorem WG {S:Tx} {k:Nat} {out:List Tx} (h:OE S S.length k out) (hp:S.drop k≠[]):CJ S=snoc out (S.drop k):=by
 obtain ⟨done,h1,h2⟩:=UX h;unfold CJ;rw [h1,cV done _ hp,h2];unfold BL;rw [List.foldl_append];rfl
theorem uV {S r:Tx} {j:Nat} (h:S.drop j=13 :: 10 :: r):Lib.occAt S crlf j=true:=by
 unfold Lib.occAt;rw [h];simp [crlf]
theorem A08 {S r:Tx} {j:Nat} {c:UInt8} (h:S.drop j=c :: r) (hc:c≠13):Lib.occAt S crlf j=false:=by
 unfold Lib.occAt;rw [h]
 show List.isPrefixOf (13 :: [10]) (c :: r)=false
 rw [List.isPrefixOf,Bool.and_eq_false_iff];left;exact beq_eq_false_iff_ne.2 (Ne.symm hc)
theorem A09 {S:Tx} {j:Nat} (h:S.length<=j+1):Lib.occAt S crlf j=false:=by
 unfold Lib.occAt;have hl:(S.drop j).length<=1:=by rw [List.length_drop];omega
 generalize S.drop j=t at *
 match t,hl with
 | [],_=>rfl
 | [c],_ =>
  show List.isPrefixOf (13 :: [10]) (c :: [])=false
  rw [List.isPrefixOf,Bool.and_eq_false_iff];right;rfl
 | _ :: _ :: _,hl=>simp at hl
theorem A0a {S r:Tx} {j:Nat} {c d:UInt8} (h:S.drop j=c :: d :: r) (hd:d≠10):Lib.occAt S crlf j=false:=by
 unfold Lib.occAt;rw [h]
 show List.isPrefixOf (13 :: 10 :: []) (c :: d :: r)=false
 rw [List.isPrefixOf,List.isPrefixOf,Bool.and_eq_false_iff];right;rw [Bool.and_eq_false_iff];left;exact beq_eq_false_iff_ne.2 (Ne.symm hd)
theorem NX (done:List Tx):(BL done).length<=done.length/\∀ x∈BL done,x.length<=done.flatten.length:=by
 rw [XG];refine ⟨lW _ done (Nat.le_refl _),fun x hx=>?_⟩;exact Nat.le_trans (TG _ x hx) (NW _ done (Nat.le_refl _))
theorem dO {S:Tx} {j k:Nat} {out:List Tx} (h:OE S j k out):out.length<=(Lib.split S crlf).length/\∀ x∈out,x.length<=S.length:=by
 obtain ⟨h1,h2,done,h3,h4,h5⟩:=h;obtain ⟨g1,g2⟩:=NX done;have g3:=JE S;rw [h3,List.flatten_append,z0J] at g3;refine ⟨?_,fun x hx=>?_⟩
 ·rw [h4,h3,z0J];omega
 ·rw [h4] at hx;exact Nat.le_trans (g2 x hx) (by omega)
theorem OF (out:List Tx) (p:Tx) (h:out=[]∨p.head?≠some 32):snoc out p=out++[p]:=by
 rcases h with rfl|h
 ·rw [MH];rfl
 ·exact UP out p h
end Go.Proofs.YtfecnkhoojnkbaaGreatDoor.Fo

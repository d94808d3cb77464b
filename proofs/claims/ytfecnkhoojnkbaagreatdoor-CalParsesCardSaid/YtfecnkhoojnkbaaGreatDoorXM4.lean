import Derived.Test.YtfecnkhoojnkbaaGreatDoorXM3
namespace Go.Proofs.YtfecnkhoojnkbaaGreatDoor.Ca
open Go.Proofs.YtfecnkhoojnkbaaGreatDoor Rul Rt Fo Li Ev
def DI:Tx:=[86,67,65,76,69,78,68,65,82]
def R8:Tx:=[86,69,82,83,73,79,78]
def R9:Tx:=[50,46,48]
def IN:Tx:=CZ (AP,DI)
def SS:Tx:=CZ (R8,R9)
def RA:Tx:=CZ (DD,DI)
def JY (U:Un) (l:List E):List Tx:=l.flatMap (Ev.BL U)
def RC (U:Un) (l:List E):List Tx:=IN :: SS :: (JY U l++[RA])
def CK (U:Un) (l:List E):Tx:=Fo.flat (RC U l)
def CB (l:List E):List Tx:=l.map E.uid
def okC (l:List E):Bool:=l.all isE&&decide (CB l).Nodup
theorem PV (l:List E):okC l=true↔(∀ e∈l,isE e=true)/\(CB l).Nodup:=by
 unfold okC;rw [Bool.and_eq_true,List.all_eq_true,decide_eq_true_eq]
def FB (U:Un) (l:List E):Tx×Int:=if okC l=true then (if 8000<(CK U l).length then ([],15) else (CK U l,0)) else ([],14)
def DB (U:Un) (i:Nat) (ver:Bool) (out:List E):List Tx->List E×Nat×Int
 | []=>([],i,14)
 | h :: t=>match AV h with
  | none=>([],i,14)
  | some (n,v) =>
   if n=R8 then (if ver=true∨v≠R9 then ([],i,14) else DB U (i+1) true out t)
   else if n=AP then (if AW v=wEV then match CS U (h :: t) with
     | (none,k)=>([],i+k,14)
     | (some e,k)=>if e.uid∈CB out then ([],i+k-1,14) else DB U (i+k) ver (out++[e]) (t.drop (k-1))
    else ([],i,14))
   else if n=DD then (if AW v=DI then (if t=[] then (out,i+1,0) else ([],i+1,14)) else ([],i,14))
   else DB U (i+1) ver out t
 termination_by rest=>rest.length
 decreasing_by all_goals (simp only [List.length_cons,List.length_drop];omega)
def M6 (U:Un):List Tx->List E×Nat×Int
 | []=>([],0,14)
 | h :: t=>match AV h with
  | none=>([],0,14)
  | some (n,v)=>if n=AP/\AW v=DI then DB U 1 false [] t else ([],0,14)
def FU (U:Un) (s:Tx):List E×Nat×Int:=if 8000<s.length then ([],0,15) else if 200<(CJ s).length then ([],0,15) else M6 U (CJ s)
theorem vQ {U:Un}:∀ (l:List Tx) (i:Nat) (e:E) (seen:List Tx) (x:E) (k:Nat),goE U i e seen l=(some x,k)->isE x=true
 | [],i,e,seen,x,k,h=>by rw [goE] at h;cases h
 | a :: t,i,e,seen,x,k,h=>by
  rw [goE] at h
  cases hl:AV a with
  | none=>rw [hl] at h;cases h
  | some p =>
   obtain ⟨n,v⟩:=p;rw [hl] at h;simp only at h
   split at h
   ·cases h
   ·split at h
    ·split at h
     ·rename_i hc
      rw [Bool.and_eq_true,Bool.and_eq_true] at hc;injection h with h _;injection h with h;exact h▸hc.2.2
     ·cases h
    ·split at h
     ·split at h
      ·cases h
      ·split at h
       ·cases h
       ·exact vQ t _ _ _ _ _ h
     ·exact vQ t _ _ _ _ _ h
theorem A0i {U:Un} {l:List Tx} {x:E} {k:Nat} (h:CS U l=(some x,k)):isE x=true:=by
 cases l with
 | nil=>rw [CS] at h;cases h
 | cons a t =>
  rw [CS] at h
  cases hl:AV a with
  | none=>rw [hl] at h;cases h
  | some p =>
   obtain ⟨n,v⟩:=p;rw [hl] at h;simp only at h
   split at h
   ·exact vQ t _ _ _ _ _ h
   ·cases h
theorem Z9 {U:Un}:∀ (m:Nat) (rest:List Tx) (i:Nat) (ver:Bool) (out:List E),rest.length<=m->okC out=true →
  ((DB U i ver out rest).2.2=0/\okC (DB U i ver out rest).1=true)∨((DB U i ver out rest).2.2=14/\(DB U i ver out rest).1=[])
 | m,[],i,ver,out,_,_=>by rw [DB];exact Or.inr ⟨rfl,rfl⟩
 | 0,h :: t,i,ver,out,hm,_=>absurd hm (by simp)
 | m+1,h :: t,i,ver,out,hm,ho=>by
  have ht:t.length<=m:=by simpa using hm
  have bad:∀ j:Nat,(((([]:List E),j,(14:Int)).2.2=0/\okC (([]:List E),j,(14:Int)).1=true)∨((([]:List E),j,(14:Int)).2.2=14/\(([]:List E),j,(14:Int)).1=[])):=fun j=>Or.inr ⟨rfl,rfl⟩
  rw [DB]
  cases hl:AV h with
  | none=>exact bad _
  | some p =>
   obtain ⟨n,v⟩:=p;simp only
   split
   ·split
    ·exact bad _
    ·exact Z9 m t _ _ _ ht ho
   ·split
    ·split
     ·rcases hr:CS U (h :: t) with ⟨_|e,k⟩
      ·exact bad _
      ·simp only
       split
       ·exact bad _
       ·rename_i hu
        refine Z9 m (t.drop (k-1)) _ _ _ (by rw [List.length_drop];omega) ?_;obtain ⟨h1,h2⟩:=(PV out).1 ho;refine (PV _).2 ⟨fun x hx=>?_,?_⟩
        ·rcases List.mem_append.1 hx with hx|hx
         ·exact h1 x hx
         ·rw [List.mem_singleton] at hx;subst hx;exact A0i hr
        ·unfold CB at h2 hu ⊢;rw [List.map_append];refine List.nodup_append.2 ⟨h2,by simp,fun a ha b hb hab=>hu ?_⟩;rw [List.map_cons,List.map_nil,List.mem_singleton] at hb;rw [<- hb,<- hab];exact ha
     ·exact bad _
    ·split
     ·split
      ·split
       ·exact Or.inl ⟨rfl,ho⟩
       ·exact bad _
      ·exact bad _
     ·exact Z9 m t _ _ _ ht ho
theorem A2s (U:Un) (l:List Tx):((M6 U l).2.2=0/\okC (M6 U l).1=true)∨((M6 U l).2.2=14/\(M6 U l).1=[]):=by
 cases l with
 | nil=>exact Or.inr ⟨rfl,rfl⟩
 | cons h t =>
  rw [M6]
  cases hl:AV h with
  | none=>exact Or.inr ⟨rfl,rfl⟩
  | some p =>
   obtain ⟨n,v⟩:=p;simp only
   split
   ·exact Z9 t.length t _ _ _ (Nat.le_refl _) rfl
   ·exact Or.inr ⟨rfl,rfl⟩
theorem iW {U:Un}:∀ (l:List Tx) (i:Nat) (e:E) (seen:List Tx) (x:E) (k:Nat),goE U i e seen l=(some x,k)->i+1<=k/\k<=i+l.length
 | [],i,e,seen,x,k,h=>by rw [goE] at h;cases h
 | a :: t,i,e,seen,x,k,h=>by
  rw [goE] at h;rw [List.length_cons]
  cases hl:AV a with
  | none=>rw [hl] at h;cases h
  | some p =>
   obtain ⟨n,v⟩:=p;rw [hl] at h;simp only at h
   split at h
   ·cases h
   ·split at h
    ·split at h
     ·injection h with _ h;omega
     ·cases h
    ·split at h
     ·split at h
      ·cases h
      ·split at h
       ·cases h
       ·have:=iW t _ _ _ _ _ h;omega
     ·have:=iW t _ _ _ _ _ h;omega
theorem JI {U:Un} {l:List Tx} {x:E} {k:Nat} (h:CS U l=(some x,k)):2<=k/\k<=l.length:=by
 cases l with
 | nil=>rw [CS] at h;cases h
 | cons a t =>
  rw [CS] at h;rw [List.length_cons]
  cases hl:AV a with
  | none=>rw [hl] at h;cases h
  | some p =>
   obtain ⟨n,v⟩:=p;rw [hl] at h;simp only at h
   split at h
   ·have:=iW t _ _ _ _ _ h;omega
   ·cases h
theorem OL {U:Un}:∀ (l:List Tx) (i:Nat) (e:E) (seen:List Tx) (k:Nat),goE U i e seen l=(none,k)->k<=i+l.length
 | [],i,e,seen,k,h=>by rw [goE] at h;injection h with _ h;omega
 | a :: t,i,e,seen,k,h=>by
  have stop:(none,i)=((none,k):Option E×Nat)->k<=i+(a :: t).length:=fun g=>by injection g with _ g;omega
  rw [goE] at h
  cases hl:AV a with
  | none=>rw [hl] at h;exact stop h
  | some p =>
   obtain ⟨n,v⟩:=p;rw [hl] at h;simp only at h
   split at h
   ·exact stop h
   ·split at h
    ·split at h
     ·cases h
     ·exact stop h
    ·rw [List.length_cons]
     split at h
     ·split at h
      ·have:=stop h;rw [List.length_cons] at this;exact this
      ·split at h
       ·have:=stop h;rw [List.length_cons] at this;exact this
       ·have:=OL t _ _ _ _ h;omega
     ·have:=OL t _ _ _ _ h;omega
theorem PW {U:Un} {l:List Tx} {k:Nat} (h:CS U l=(none,k)):k<=l.length:=by
 cases l with
 | nil=>rw [CS] at h;injection h with _ h;omega
 | cons a t =>
  rw [CS] at h
  cases hl:AV a with
  | none=>rw [hl] at h;injection h with _ h;omega
  | some p =>
   obtain ⟨n,v⟩:=p;rw [hl] at h;simp only at h
   split at h
   ·have:=OL t _ _ _ _ h;rw [List.length_cons];omega
   ·injection h with _ h;omega
section
variable {U:Un} {l:List Tx} {j:Nat} {ver:Bool} {out:List E} {n v:Tx}
theorem lZ:DB U j ver out (l.drop l.length)=([],j,14):=by rw [List.drop_length,DB]
theorem dR (h:j<l.length) (hl:AV l[j]=none):DB U j ver out (l.drop j)=([],j,14):=by
 rw [drop_at h,DB,hl]
theorem OM (h:j<l.length) (hl:AV l[j]=some (R8,v)) (hb:ver=true∨v≠R9):DB U j ver out (l.drop j)=([],j,14):=by
 rw [drop_at h,DB,hl];simp only;rw [if_pos trivial,if_pos hb]
theorem mA (h:j<l.length) (hl:AV l[j]=some (R8,R9)):DB U j false out (l.drop j)=DB U (j+1) true out (l.drop (j+1)):=by
 rw [drop_at h,DB,hl];simp only;rw [if_pos trivial,if_neg (by simp)]
theorem PX (h:j<l.length) (hl:AV l[j]=some (AP,v)) (hv:AW v≠wEV):DB U j ver out (l.drop j)=([],j,14):=by
 rw [drop_at h,DB,hl];simp only;rw [if_neg (by decide),if_pos trivial,if_neg hv]
theorem NZ {k:Nat} (h:j<l.length) (hl:AV l[j]=some (AP,v)) (hv:AW v=wEV) (hr:CS U (l.drop j)=(none,k)):DB U j ver out (l.drop j)=([],j+k,14):=by
 rw [drop_at h] at hr ⊢;rw [DB,hl];simp only;rw [if_neg (by decide),if_pos trivial,if_pos hv,hr]
theorem O0 {e:E} {k:Nat} (h:j<l.length) (hl:AV l[j]=some (AP,v)) (hv:AW v=wEV) (hr:CS U (l.drop j)=(some e,k)) (hu:e.uid∈CB out):DB U j ver out (l.drop j)=([],j+k-1,14):=by
 rw [drop_at h] at hr ⊢;rw [DB,hl];simp only;rw [if_neg (by decide),if_pos trivial,if_pos hv,hr];simp only;rw [if_pos hu]
theorem XJ {e:E} {k:Nat} (h:j<l.length) (hl:AV l[j]=some (AP,v)) (hv:AW v=wEV) (hr:CS U (l.drop j)=(some e,k)) (hu:e.uid∉CB out):DB U j ver out (l.drop j)=DB U (j+k) ver (out++[e]) (l.drop (j+k)):=by
 have hk:=(JI hr).1;rw [drop_at h] at hr ⊢;rw [DB,hl];simp only;rw [if_neg (by decide),if_pos trivial,if_pos hv,hr];simp only;rw [if_neg hu,List.drop_drop,show j+1+(k-1)=j+k by omega]
theorem V3 (h:j<l.length) (hl:AV l[j]=some (DD,v)) (hv:AW v≠DI):DB U j ver out (l.drop j)=([],j,14):=by
 rw [drop_at h,DB,hl];simp only;rw [if_neg (by decide),if_neg (by decide),if_pos trivial,if_neg hv]
theorem PY (h:j+1<l.length) (hl:AV l[j]=some (DD,v)) (hv:AW v=DI):DB U j ver out (l.drop j)=([],j+1,14):=by
 have hne:l.drop (j+1)≠[]:=fun e=>by have:=congrArg List.length e;rw [List.length_drop,List.length_nil] at this;omega
 rw [drop_at (by omega),DB,hl];simp only;rw [if_neg (by decide),if_neg (by decide),if_pos trivial,if_pos hv,if_neg hne]
theorem mC (h:j+1=l.length) (hl:AV (l[j]'(by omega))=some (DD,v)) (hv:AW v=DI):DB U j ver out (l.drop j)=(out,l.length,0):=by
 have hne:l.drop (j+1)=[]:=List.drop_eq_nil_of_le (by omega);rw [drop_at (by omega),DB,hl];simp only;rw [if_neg (by decide),if_neg (by decide),if_pos trivial,if_pos hv,if_pos hne,h]
theorem XK (h:j<l.length) (hl:AV l[j]=some (n,v)) (h1:n≠R8) (h2:n≠AP) (h3:n≠DD):DB U j ver out (l.drop j)=DB U (j+1) ver out (l.drop (j+1)):=by
 rw [drop_at h,DB,hl];simp only;rw [if_neg h1,if_neg h2,if_neg h3]
end
end Go.Proofs.YtfecnkhoojnkbaaGreatDoor.Ca
namespace Go.Proofs.YtfecnkhoojnkbaaGreatDoor.Ca
open Rul Rt Li Fo Ev
def JZ (n t:Tx):Bool:=match AV t with
 | none=>false
 | some (m,v)=>decide (m=n)&&decide (AW v=DI)
theorem iX {n t:Tx} (h:AV t=none):JZ n t=false:=by unfold JZ;rw [h]
theorem V4 {n t m v:Tx} (h:AV t=some (m,v)):JZ n t=(decide (m=n)&&decide (AW v=DI)):=by unfold JZ;rw [h]
theorem pE (U:Un) (h:Tx) (t:List Tx):M6 U (h :: t)=if JZ AP h=true then DB U 1 false [] t else ([],0,14):=by
 unfold M6 JZ
 cases hl:AV h with
 | none=>simp [hl]
 | some p=>obtain ⟨n,v⟩:=p;simp [hl]
def K4 (U:Un) (ver:Bool) (out:List E) (l:List Tx):Option (Bool×List E)×Nat:=match l with
 | []=>(none,0)
 | h :: t=>match AV h with
  | none=>(none,0)
  | some (n,v) =>
   if n=DD then (none,0)
   else if n=R8 then (if ver=true∨v≠R9 then (none,0) else (some (true,out),1))
   else if n=AP then match CS U (h :: t) with
    | (none,k)=>(none,k)
    | (some e,k)=>if e.uid∈CB out then (none,k-1) else (some (ver,out++[e]),k)
   else (some (ver,out),1)
theorem RD:R8≠AP:=by decide
theorem ZA:R8≠DD:=by decide
theorem XL:AP≠DD:=by decide
theorem O6 {U:Un} {h:Tx} {t:List Tx} {v:Tx} (hl:AV h=some (AP,v)) (hv:AW v≠wEV):CS U (h :: t)=(none,0):=by
 rw [CS,hl]
 show (if AP=AP/\AW v=wEV then _ else _)=_
 rw [if_neg (fun g=>hv g.2)]
theorem A0j {U:Un} {l:List Tx} {j:Nat} {ver:Bool} {out:List E} (h:j<l.length) (hc:JZ DD l[j]=false) :
  DB U j ver out (l.drop j)=match K4 U ver out (l.drop j) with
   | (none,k)=>([],j+k,14)
   | (some (v2,o2),k)=>DB U (j+k) v2 o2 (l.drop (j+k)):=by
 have hd:l.drop j=l[j] :: l.drop (j+1):=List.drop_eq_getElem_cons h
 cases hl:AV l[j] with
 | none =>
  rw [dR h hl];have:K4 U ver out (l.drop j)=(none,0):=by rw [hd,K4,hl]
  rw [this];rfl
 | some p =>
  obtain ⟨n,v⟩:=p;rw [V4 hl] at hc
  by_cases hE:n=DD
  ·subst hE;have hv:AW v≠DI:=fun g=>by rw [g] at hc;simp at hc
   have:K4 U ver out (l.drop j)=(none,0):=by rw [hd,K4,hl];simp only [if_true]
   rw [V3 h hl hv,this];rfl
  ·by_cases hV:n=R8
   ·subst hV
    by_cases hb:ver=true∨v≠R9
    ·have:K4 U ver out (l.drop j)=(none,0):=by rw [hd,K4,hl];simp only [if_neg ZA,if_true,if_pos hb]
     rw [OM h hl hb,this];rfl
    ·have hver:ver=false:=by cases ver with|false=>rfl|true=>exact absurd (Or.inl rfl) hb
     have hv:v=R9:=Classical.byContradiction fun g=>hb (Or.inr g)
     subst hver hv;have:K4 U false out (l.drop j)=(some (true,out),1):=by rw [hd,K4,hl];simp only [if_neg ZA,if_true,if_neg hb]
     rw [mA h hl,this]
   ·by_cases hB:n=AP
    ·subst hB;have ht:K4 U ver out (l.drop j)=match CS U (l.drop j) with
       | (none,k)=>(none,k)
       | (some e,k)=>if e.uid∈CB out then (none,k-1) else (some (ver,out++[e]),k):=by
      rw [hd,K4,hl];simp only [if_neg XL,if_neg (Ne.symm RD),if_true]
     rw [ht]
     by_cases hv:AW v=wEV
     ·rcases hr:CS U (l.drop j) with ⟨_|e,k⟩
      ·rw [NZ h hl hv hr]
      ·by_cases hu:e.uid∈CB out
       ·have hk:=(JI hr).1;rw [O0 h hl hv hr hu];simp only [if_pos hu];rw [show j+k-1=j+(k-1) by omega]
       ·rw [XJ h hl hv hr hu];simp only [if_neg hu]
     ·rw [PX h hl hv];have:CS U (l.drop j)=(none,0):=by rw [hd];exact O6 hl hv
      rw [this];rfl
    ·have:K4 U ver out (l.drop j)=(some (ver,out),1):=by rw [hd,K4,hl];simp only [if_neg hE,if_neg hV,if_neg hB]
     rw [XK h hl hV hB hE,this]
theorem A0k {U:Un} {ver v2:Bool} {out o2:List E} {l:List Tx} {k:Nat} (h:K4 U ver out l=(some (v2,o2),k)):1<=k/\k<=l.length/\o2.length<=out.length+1:=by
 unfold K4 at h
 cases l with
 | nil=>simp at h
 | cons a t =>
  simp only at h
  split at h
  ·simp at h
  ·split at h
   ·simp at h
   ·split at h
    ·split at h
     ·simp at h
     ·simp only [Prod.mk.injEq,Option.some.injEq] at h;obtain ⟨⟨rfl,rfl⟩,rfl⟩:=h;simp
    ·split at h
     ·rcases hr:CS U (a :: t) with ⟨_|e,n⟩
      ·rw [hr] at h;simp at h
      ·rw [hr] at h;simp only at h
       split at h
       ·simp at h
       ·simp only [Prod.mk.injEq,Option.some.injEq] at h;obtain ⟨⟨rfl,rfl⟩,rfl⟩:=h;have:=JI hr;simp only [z0J,List.length_singleton];omega
     ·simp only [Prod.mk.injEq,Option.some.injEq] at h;obtain ⟨⟨rfl,rfl⟩,rfl⟩:=h;simp
theorem A0l {U:Un} {ver:Bool} {out:List E} {l:List Tx} {k:Nat} (h:K4 U ver out l=(none,k)):k<=l.length:=by
 unfold K4 at h
 cases l with
 | nil=>simp at h;omega
 | cons a t =>
  simp only at h
  split at h
  ·simp only [Prod.mk.injEq,true_and] at h;omega
  ·split at h
   ·simp only [Prod.mk.injEq,true_and] at h;omega
   ·split at h
    ·split at h
     ·simp only [Prod.mk.injEq,true_and] at h;omega
     ·simp at h
    ·split at h
     ·rcases hr:CS U (a :: t) with ⟨_|e,n⟩
      ·rw [hr] at h;simp only [Prod.mk.injEq,true_and] at h;subst h;exact PW hr
      ·rw [hr] at h;simp only at h
       split at h
       ·simp only [Prod.mk.injEq,true_and] at h;have:=JI hr;omega
       ·simp at h
     ·simp at h
theorem MJ (l:List E) (e:E):okC (l++[e])=(okC l&&(isE e&&!decide (e.uid∈CB l))):=by
 unfold okC CB;rw [List.all_append,List.map_append,List.map_singleton];have h:decide ((l.map E.uid++[e.uid]).Nodup)=(decide (l.map E.uid).Nodup&&!decide (e.uid∈l.map E.uid)):=by
  rw [Bool.eq_iff_iff];simp only [decide_eq_true_eq,Bool.and_eq_true,Bool.not_eq_true',decide_eq_false_iff_not];rw [List.nodup_append]
  constructor
  ·rintro ⟨h1,_,h3⟩;exact ⟨h1,fun g=>h3 _ g _ (List.mem_singleton.2 rfl) rfl⟩
  ·rintro ⟨h1,h2⟩;exact ⟨h1,by simp,fun a ha b hb=>by rw [List.mem_singleton] at hb;subst hb;exact fun q=>h2 (q▸ha)⟩
 rw [h];simp only [List.all_cons,List.all_nil,Bool.and_true]
 cases l.all isE <;> cases decide (l.map E.uid).Nodup <;> cases isE e <;> simp
theorem vR {l:List E} (h:okC l=true) (k:Nat):okC (l.take k)=true:=by
 rw [PV] at h ⊢;refine ⟨fun e he=>h.1 e (List.mem_of_mem_take he),?_⟩;unfold CB;rw [List.map_take];exact h.2.sublist (List.take_sublist _ _)
theorem TJ {l:List E} {k:Nat} (h:okC (l.take k)=false):okC l=false:=by
 cases g:okC l with
 | false=>rfl
 | true=>rw [vR g k] at h;exact absurd h (by decide)
theorem pF (l:List E) (k:Nat):(CB (l.take k)).length<=k:=by
 unfold CB;rw [List.length_map];exact List.length_take_le _ _
theorem SG (s:Tx):∀ p∈CJ s,p.length<=s.length:=fun p hp=>by
 have h1:=(NX (fin (Lib.split s crlf))).2 p hp;have h2:=dL (Lib.split s crlf);have h3:=JE s;omega
end Go.Proofs.YtfecnkhoojnkbaaGreatDoor.Ca
namespace Go.Proofs.YtfecnkhoojnkbaaGreatDoor.Ca
open Rul Rt Li Fo Ev
def V5 (U:Un):Nat->Nat->Bool->List E->List Tx->List E×Nat×Int
 | 0,i,_,_,_=>([],i,14)
 | _+1,i,_,_,[]=>([],i,14)
 | f+1,i,ver,out,h :: t=>match AV h with
  | none=>([],i,14)
  | some (n,v) =>
   if n=R8 then (if ver=true∨v≠R9 then ([],i,14) else V5 U f (i+1) true out t)
   else if n=AP then (if AW v=wEV then match CS U (h :: t) with
     | (none,k)=>([],i+k,14)
     | (some e,k)=>if e.uid∈CB out then ([],i+k-1,14) else V5 U f (i+k) ver (out++[e]) (t.drop (k-1))
    else ([],i,14))
   else if n=DD then (if AW v=DI then (if t=[] then (out,i+1,0) else ([],i+1,14)) else ([],i,14))
   else V5 U f (i+1) ver out t
theorem TK (U:Un):∀ (f i:Nat) (ver:Bool) (out:List E) (l:List Tx),l.length<f->DB U i ver out l=V5 U f i ver out l
 | 0,_,_,_,l,h=>absurd h (Nat.not_lt_zero _)
 | f+1,i,ver,out,[],_=>by rw [DB,V5]
 | f+1,i,ver,out,h :: t,hl=>by
  have hl2:t.length<f:=by simp only [List.length_cons] at hl;omega
  rw [DB,V5]
  cases AV h with
  | none=>rfl
  | some p =>
   obtain ⟨n,v⟩:=p;simp only;rw [TK U f (i+1) true out t hl2,TK U f (i+1) ver out t hl2];rcases CS U (h :: t) with ⟨_|e,k⟩
   ·rfl
   ·simp only;rw [TK U f (i+k) ver (out++[e]) (t.drop (k-1)) (by rw [List.length_drop];omega)]
def ZB (U:Un) (f:Nat):List Tx->List E×Nat×Int
 | []=>([],0,14)
 | h :: t=>match AV h with
  | none=>([],0,14)
  | some (n,v)=>if n=AP/\AW v=DI then V5 U f 1 false [] t else ([],0,14)
theorem ZC (U:Un) (f:Nat) (l:List Tx) (h:l.length<=f):M6 U l=ZB U f l:=by
 cases l with
 | nil=>rfl
 | cons a t =>
  unfold M6 ZB
  cases hl:AV a with
  | none=>simp [hl]
  | some p =>
   obtain ⟨n,v⟩:=p;simp only [hl];rw [TK U f 1 false [] t (by simp only [List.length_cons] at h;omega)]
def dS (l:List Tx):Tx:=l.flatMap fun s=>s++crlf
theorem MK:∀ (l:List Tx),(l.all fun s=>decide (s.length<=75))=true->flat l=dS l
 | [],_=>rfl
 | s :: l,h=>by
  rw [List.all_cons,Bool.and_eq_true] at h;rw [flat,MK l h.2,IF s (of_decide_eq_true h.1)];rfl
def vS (s:Tx):Bool:=decide (s.length<=75)&&(decide (s.head?≠some 32)&&decide ((13:UInt8)∉s))
theorem dU (U:Un) (l:List Tx) (h:l.all vS=true) (hn:l.length<=100) (hs:(dS l).length<=8000):FU U (dS l)=ZB U 100 l:=by
 have h1:(l.all fun s=>decide (s.length<=75))=true:=by
  rw [List.all_eq_true] at h ⊢;exact fun s hs=>by have:=h s hs;unfold vS at this;rw [Bool.and_eq_true] at this;exact this.1
 have h2:CJ (dS l)=l:=by
  rw [<- MK l h1];refine dF l fun s hs=>?_
  have:=List.all_eq_true.1 h s hs;unfold vS at this;simp only [Bool.and_eq_true,decide_eq_true_eq] at this;exact this.2
 unfold FU;rw [if_neg (by omega),h2,if_neg (by omega),ZC U 100 l hn]
def A1J (p:List E×Nat×Int) (n:Nat):Bool:=p.1.isEmpty&&(decide (p.2.1=n)&&decide (p.2.2=14))
theorem vT {p:List E×Nat×Int} {n:Nat} (h:A1J p n=true):p=([],n,14):=by
 obtain ⟨a,b,c⟩:=p;unfold A1J at h;simp only [Bool.and_eq_true,List.isEmpty_iff,decide_eq_true_eq] at h;obtain ⟨rfl,rfl,rfl⟩:=h;rfl
end Go.Proofs.YtfecnkhoojnkbaaGreatDoor.Ca

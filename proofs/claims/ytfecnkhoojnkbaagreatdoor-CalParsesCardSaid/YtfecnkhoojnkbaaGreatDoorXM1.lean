import Derived.WalkKit
namespace Go.Proofs.YtfecnkhoojnkbaaGreatDoor
theorem z0A {α:Type _} {x:List α} {i:Nat} (h:i<x.toArray.size):x.toArray[i]=x[i]:=rfl
theorem z0B {α:Type _} (a:α) (l:List α) (i:Nat) (h:i+1<(a::l).length):(a::l)[i+1]=l[i]'(Nat.lt_of_succ_lt_succ h):=rfl
theorem z0C {α:Type _} (a:α) (l:List α) (h:0<(a::l).length):(a::l)[0]=a:=rfl
theorem z0D {α:Type _} (l:List α) (i:Nat) (a:α):l.toArray.setIfInBounds i a=(l.set i a).toArray:=List.setIfInBounds_toArray l i a
theorem z0E {α:Type _} {x a:α} {l:List α}:(x::l).set 0 a=a::l:=rfl
theorem z0F {α:Type _} {x a:α} {l:List α} {i:Nat}:(x::l).set (i+1) a=x::l.set i a:=rfl
theorem z0G {p:Prop} [Decidable p] (h:¬p):decide p=false:=decide_eq_false h
theorem z0H {p:Prop} [Decidable p] (h:p):decide p=true:=decide_eq_true h
theorem z0J {α:Type _} {a b:List α}:(a++b).length=a.length+b.length:=List.length_append
theorem z0K {α:Type _} {a b:α} (h:a=b):some a=some b:=congrArg some h
namespace Cal
def lpB (y:Int):Bool:=(y.tmod 4==0&&y.tmod 100 != 0)||y.tmod 400==0
def dim (y m:Int):Int :=
 if m=1∨m=3∨m=5∨m=7∨m=8∨m=10∨m=12 then 31
 else if m=4∨m=6∨m=9∨m=11 then 30
 else if m=2 then (if lpB y then 29 else 28)
 else 0
def cum (y m:Int):Int :=
  (if 1<m then 31 else 0)+(if 2<m then dim y 2 else 0)+(if 3<m then 31 else 0)+(if 4<m then 30 else 0)+(if 5<m then 31 else 0)+(if 6<m then 30 else 0)
  +(if 7<m then 31 else 0)+(if 8<m then 31 else 0)+(if 9<m then 30 else 0)+(if 10<m then 31 else 0)+(if 11<m then 30 else 0)+(if 12<m then 31 else 0)
def yst (y:Int):Int:=(y-2000)*365+(y-2000+3) / 4
def num (y m d:Int):Int:=yst y+cum y m+(d-1)
def isB (y m d:Int):Bool:=decide (1<=d)&&decide (d<=dim y m)
theorem dim2 (y:Int):dim y 2=28∨dim y 2=29:=by
 have h:dim y 2=if lpB y then 29 else 28:=by simp [dim]
 rw [h]
 split <;> simp
theorem oI (y m:Int):dim y m=31∨dim y m=30∨dim y m=29∨dim y m=28∨dim y m=0:=by
 unfold dim
 repeat' split
 all_goals simp
theorem KZ (y m:Int):0<=dim y m/\dim y m<=31:=by
 rcases oI y m with h|h|h|h|h <;> rw [h] <;> decide
theorem T0 (y m:Int) (h:m<1∨12<m):dim y m=0:=by
 unfold dim;rw [if_neg (by omega),if_neg (by omega),if_neg (by omega)]
theorem A2f (y m:Int) (h:0<dim y m):1<=m/\m<=12:=by
 by_cases g:m<1∨12<m
 ·rw [T0 y m g] at h;omega
 ·omega
theorem L0 (y m d:Int):isB y m d=true↔1<=d/\d<=dim y m:=by simp [isB]
theorem MZ {y m d:Int} (h:isB y m d=true):1<=m/\m<=12:=by
 rw [L0] at h;exact A2f y m (by omega)
theorem H9 (y:Int):cum y 1=0:=by simp [cum]
theorem JA (y m:Int) (h1:1<=m) (h2:m<=12):cum y (m+1)=cum y m+dim y m:=by
 have h:m=1∨m=2∨m=3∨m=4∨m=5∨m=6∨m=7∨m=8∨m=9∨m=10∨m=11∨m=12:=by omega
 rcases h with h|h|h|h|h|h|h|h|h|h|h|h <;> subst h <;> simp [cum,dim] <;> omega
theorem QL (y m:Int) (h1:1<=m) (h2:m<=13):0<=cum y m/\cum y m<=366:=by
 have h:m=1∨m=2∨m=3∨m=4∨m=5∨m=6∨m=7∨m=8∨m=9∨m=10∨m=11∨m=12∨m=13:=by omega
 have h2:=dim2 y;rcases h with h|h|h|h|h|h|h|h|h|h|h|h|h <;> subst h <;> simp [cum] <;> omega
theorem A2g (y:Int):cum y 13=337+dim y 2:=by simp [cum];omega
theorem u6 (y m:Int) (h1:1<=m) (h2:m<=12):cum y m+dim y m<=cum y 13:=by
 have h:m=1∨m=2∨m=3∨m=4∨m=5∨m=6∨m=7∨m=8∨m=9∨m=10∨m=11∨m=12:=by omega
 have h2:=dim2 y;rcases h with h|h|h|h|h|h|h|h|h|h|h|h <;> subst h <;> simp [cum,dim] <;> (try split) <;> omega
theorem u7 (y:Int) (h1:2000<=y) (h2:y<=2099):lpB y=decide (y % 4=0):=by
 unfold lpB;rw [Int.tmod_eq_emod_of_nonneg (by omega),Int.tmod_eq_emod_of_nonneg (by omega),Int.tmod_eq_emod_of_nonneg (by omega)];rw [Bool.eq_iff_iff];simp;omega
theorem zY (y:Int) (h1:2000<=y) (h2:y<=2099):dim y 2=if y % 4=0 then 29 else 28:=by
 have h:dim y 2=if lpB y then 29 else 28:=by simp [dim]
 rw [h,u7 y h1 h2];simp
theorem MB (y:Int) (h1:2000<=y) (h2:y<=2099):yst (y+1)=yst y+cum y 13:=by
 rw [A2g,zY y h1 h2];unfold yst
 split <;> omega
theorem U7 (y:Int) (h1:2000<=y) (h2:y<=2099):0<=yst y/\yst y<=36160:=by unfold yst;omega
theorem u9 (y m d:Int) (h1:2000<=y) (h2:y<=2099) (h:isB y m d=true):0<=num y m d/\num y m d<36525:=by
 have hm:=MZ h;rw [L0] at h;have hc:=u6 y m hm.1 hm.2;have hb:=QL y m hm.1 (by omega);have hy:=MB y h1 h2;have hs:yst (y+1)<=36525:=by unfold yst;omega
 have hb2:=U7 y h1 h2;unfold num;omega
theorem oJ (y:Int) (k:Nat) (m:Int) (h1:1<=m) (h2:m+k<=13):cum y m<=cum y (m+k):=by
 induction k with
 | zero=>simp
 | succ k ih =>
  have h:=JA y (m+k) (by omega) (by omega);have hd:=KZ y (m+k);have:=ih (by omega);have e:m+((k+1:Nat):Int)=m+k+1:=by omega
  rw [e];omega
theorem YW (y m m':Int) (h1:1<=m) (h:m<=m') (h2:m'<=13):cum y m<=cum y m':=by
 have:=oJ y (m'-m).toNat m h1 (by omega);rw [show m+(((m'-m).toNat:Nat):Int)=m' from by omega] at this;exact this
theorem uA (y y':Int) (h:y<=y'):yst y<=yst y':=by unfold yst;omega
def yOf (n:Int):Int:=2000+n*4 / 1461
def mAt (y r:Int):Int :=
 if r<cum y 2 then 1 else if r<cum y 3 then 2 else if r<cum y 4 then 3 else if r<cum y 5 then 4 else if r<cum y 6 then 5 else if r<cum y 7 then 6
 else if r<cum y 8 then 7 else if r<cum y 9 then 8 else if r<cum y 10 then 9 else if r<cum y 11 then 10 else if r<cum y 12 then 11 else 12
def mOf (n:Int):Int:=mAt (yOf n) (n-yst (yOf n))
def dOf (n:Int):Int:=n-yst (yOf n)-cum (yOf n) (mOf n)+1
theorem MC (n:Int) (h1:0<=n) (h2:n<36525):2000<=yOf n/\yOf n<=2099:=by unfold yOf;omega
theorem T8 (n:Int) (_h1:0<=n) (_h2:n<36525):yst (yOf n)<=n/\n<yst (yOf n+1):=by unfold yst yOf;omega
theorem iJ (y r:Int):1<=mAt y r/\mAt y r<=12:=by
 unfold mAt
 repeat' split
 all_goals omega
theorem lC (y r:Int) (h1:0<=r) (h2:r<cum y 13):cum y (mAt y r)<=r/\r<cum y (mAt y r+1):=by
 unfold mAt;have h0:=H9 y
 repeat' split
 all_goals (constructor <;> (try simp only [Int.reduceAdd]) <;> omega)
theorem A2h (y r m:Int) (hm1:1<=m) (hm2:m<=12) (h1:cum y m<=r) (h2:r<cum y (m+1)):mAt y r=m:=by
 have hb:=iJ y r;have h13:=YW y (m+1) 13 (by omega) (by omega) (by omega);have h01:=YW y 1 m (by omega) (by omega) (by omega);have h0:=H9 y;have hc:=lC y r (by omega) (by omega);rcases Int.lt_trichotomy (mAt y r) m with g|g|g
 ·have:=YW y (mAt y r+1) m (by omega) (by omega) (by omega);omega
 ·exact g
 ·have:=YW y (m+1) (mAt y r) (by omega) (by omega) (by omega);omega
theorem A1I (n:Int) (h1:0<=n) (h2:n<36525):isB (yOf n) (mOf n) (dOf n)=true:=by
 have hy:=T8 n h1 h2;have hb:=MC n h1 h2;have hs:=MB (yOf n) hb.1 hb.2;have hm:=iJ (yOf n) (n-yst (yOf n));have hc:=lC (yOf n) (n-yst (yOf n)) (by omega) (by omega);have hcs:=JA (yOf n) (mOf n) hm.1 hm.2;rw [L0];unfold dOf
 change cum (yOf n) (mOf n)<=_/\_<cum (yOf n) (mOf n+1) at hc
 omega
theorem A2i (n:Int):num (yOf n) (mOf n) (dOf n)=n:=by unfold num dOf;omega
theorem iK (n:Int) (h1:0<=n) (h2:n<36525):1<=dOf n/\dOf n<=31:=by
 have:=A1I n h1 h2;rw [L0] at this;have:=KZ (yOf n) (mOf n);omega
theorem iL (n:Int):1<=mOf n/\mOf n<=12:=iJ _ _
end Cal
end Go.Proofs.YtfecnkhoojnkbaaGreatDoor
namespace Go.Proofs.YtfecnkhoojnkbaaGreatDoor.Rul
open Go.Proofs.YtfecnkhoojnkbaaGreatDoor
abbrev Wd:=Int×Int
structure T where
 fr:Int
 ev:Int
 ct:Int
 un:Int
 ds:List Wd
 ms:List Int
 ys:List Int
def btw (a x b:Int):Bool:=decide (a<=x)&&decide (x<=b)
theorem AY (a x b:Int):btw a x b=true↔a<=x/\x<=b:=by simp [btw]
theorem JU (a x b:Int):btw a x b=false↔¬ (a<=x/\x<=b):=by rw [<- Bool.not_eq_true,AY]
section
variable {α:Type}
def F0 (p:α->Bool) (lt:α->α->Bool) (d:α) (l:List α) (i:Nat):Bool:=p (l.getD i d)&&(i==0||lt (l.getD (i-1) d) (l.getD i d))
def WD (p:α->Bool) (lt:α->α->Bool) (d:α) (l:List α):Bool:=(List.range l.length).all (F0 p lt d l)
def C0 (p:α->Bool) (lt:α->α->Bool) (d:α) (l:List α):Bool:=decide (l.length<=12)&&WD p lt d l
theorem GG (p:α->Bool) (lt:α->α->Bool) (d:α) (l:List α):WD p lt d l=true↔∀ i,i<l.length->F0 p lt d l i=true:=by
 unfold WD;rw [List.all_eq_true];simp only [List.mem_range]
theorem L7 (p:α->Bool) (lt:α->α->Bool) (d:α) (l:List α) (i:Nat) (hi:i<l.length) (h:F0 p lt d l i=false):WD p lt d l=false:=by
 rw [Bool.eq_false_iff];intro hc;rw [(GG p lt d l).1 hc i hi] at h;cases h
theorem DC (p:α->Bool) (lt:α->α->Bool) (d:α) (l:List α) (i:Nat) (hi:i<l.length) (h:F0 p lt d l i=false):C0 p lt d l=false:=by
 unfold C0;rw [L7 p lt d l i hi h,Bool.and_false]
theorem O9 (p:α->Bool) (lt:α->α->Bool) (d:α) (l:List α) (h:12<l.length):C0 p lt d l=false:=by
 unfold C0;rw [decide_eq_false (by omega),Bool.false_and]
theorem QM (p:α->Bool) (lt:α->α->Bool) (d:α) (l:List α) (h:l.length<=12) (ha:∀ i,i<l.length->F0 p lt d l i=true):C0 p lt d l=true:=by
 unfold C0;rw [decide_eq_true h,(GG p lt d l).2 ha];rfl
theorem getD_at (d:α) (l:List α) (i:Nat) (hi:i<l.length):l.getD i d=l[i]:=by simp [List.getD,hi]
theorem G7 (p:α->Bool) (lt:α->α->Bool) (d:α) (l:List α) (i:Nat) (hi:i<l.length):F0 p lt d l i=(p l[i]&&(i==0||lt (l.getD (i-1) d) l[i])):=by
 unfold F0;rw [getD_at d l i hi]
theorem EW (p:α->Bool) (lt:α->α->Bool) (d:α) (l:List α) (i:Nat) (hi:i<l.length) (h:p l[i]=false):F0 p lt d l i=false:=by
 rw [G7 _ _ _ _ _ hi,h];rfl
theorem I1 (p:α->Bool) (lt:α->α->Bool) (d:α) (l:List α) (hi:0<l.length):F0 p lt d l 0=p l[0]:=by
 rw [G7 _ _ _ _ _ hi];simp
theorem DP (p:α->Bool) (lt:α->α->Bool) (d:α) (l:List α) (i:Nat) (hi:i+1<l.length):F0 p lt d l (i+1)=(p l[i+1]&&lt l[i] l[i+1]):=by
 rw [G7 _ _ _ _ _ hi];rw [show i+1-1=i from rfl,getD_at d l i (Nat.lt_of_succ_lt hi)];simp
theorem MD (p q:α->Bool) (lt:α->α->Bool) (d:α) (l:List α) (h:∀ x,p x=q x):C0 p lt d l=C0 q lt d l:=by
 rw [show p=q from funext h]
theorem QN (p:α->Bool) (l:List α) (i:Nat) (hi:i<l.length) (h:p l[i]=true):l.any p=true:=by
 rw [List.any_eq_true];exact ⟨l[i],List.getElem_mem _,h⟩
theorem any_none (p:α->Bool) (l:List α) (h:∀ i (hi:i<l.length),p l[i]=false):l.any p=false:=by
 rw [List.any_eq_false];intro x hx;rw [List.mem_iff_getElem] at hx;obtain ⟨i,hi,rfl⟩:=hx;simp [h i hi]
end
def EF (w:Wd):Bool:=btw (-5) w.1 5&&btw 0 w.2 6
def BO (a b:Wd):Bool:=decide (a.1<b.1∨a.1=b.1/\a.2<b.2)
def G5 (n:Int):Bool:=(n != 0)&&btw (-31) n 31
def GS (n:Int):Bool:=btw 1 n 12
def AI (a b:Int):Bool:=decide (a<b)
def M5 (w:Wd):Bool:=w.1 != 0
def CF (r:T):Bool:=btw 1 r.fr 4&&(btw 1 r.ev 100&&(btw 0 r.ct 40&&(btw (-1) r.un 52595999&&(decide (r.ct=0)||decide (r.un=-1)))))
def lD (r:T):Bool:=C0 EF BO (0,0) r.ds&&(C0 G5 AI 0 r.ms&&C0 GS AI 0 r.ys)
def X0 (r:T):Bool :=
 if r.fr=1 then !r.ds.any M5
 else if r.fr=2 then !r.ds.any M5&&decide (r.ms.length=0)
 else if r.fr=4 then decide (0<r.ys.length)||(decide (r.ds.length=0)&&decide (r.ms.length=0))
 else true
def GH (r:T):Bool:=CF r&&(lD r&&X0 r)
def numB (r q:T):Bool:=decide (r.fr=q.fr/\r.ev=q.ev/\r.ct=q.ct/\r.un=q.un)
def eqlB (r q:T):Bool:=decide (r.ds=q.ds)&&(decide (r.ms=q.ms)&&decide (r.ys=q.ys))
def C9 (r q:T):Bool:=numB r q&&eqlB r q
def once:T:=⟨0,0,0,-1,[],[],[]⟩
def isB (r:T):Bool:=C9 r once||GH r
theorem X1 (r:T) (h:CF r=true):1<=r.fr/\r.fr<=4:=by
 unfold CF at h;rw [Bool.and_eq_true,AY] at h;exact h.1
theorem zZ (r:T) (h:GH r=true):1<=r.fr/\r.fr<=4:=by
 unfold GH at h;rw [Bool.and_eq_true] at h;exact X1 r h.1
theorem uB (r q:T) (h:C9 r q=true):r.fr=q.fr:=by
 unfold C9 numB at h;rw [Bool.and_eq_true,decide_eq_true_eq] at h;exact h.1.1
theorem EH (r q:T):C9 r q=true↔r=q:=by
 obtain ⟨a,b,c,d,x,y,z⟩:=r;obtain ⟨a',b',c',d',x',y',z'⟩:=q;simp [C9,numB,eqlB,and_assoc]
theorem lE (r:T) (h:r.fr=0):isB r=C9 r once:=by
 unfold isB;have:GH r=false:=by rw [Bool.eq_false_iff];intro hc;have:=zZ r hc;omega
 rw [this,Bool.or_false]
theorem isB_1 (r:T) (h:r.fr≠0):isB r=GH r:=by
 unfold isB;have:C9 r once=false:=by rw [Bool.eq_false_iff];intro hc;have:=uB r once hc;exact h this
 rw [this,Bool.false_or]
def DL (ds:List Wd) (b:Bool):Bool:=C0 (fun w=>EF w&&(b||decide (w.1=0))) BO (0,0) ds
def FX (l:List Int) (lo hi:Int):Bool:=C0 (fun n=>btw lo n hi&&(n != 0)) AI 0 l
def isR (r:T):Bool :=
 if r.fr=0 then C9 r once
 else if CF r=false then false
 else if (DL r.ds (decide (3<=r.fr))&&(FX r.ms (-31) 31&&FX r.ys 1 12))=false then false
 else if r.fr=2/\0<r.ms.length then false
 else decide (r.fr≠4)||(decide (0<r.ys.length)||decide (r.ds.length+r.ms.length=0))
theorem U8 (ds:List Wd):DL ds true=C0 EF BO (0,0) ds:=by
 unfold DL;exact MD _ _ _ _ _ fun x=>by simp
theorem U9 (ds:List Wd):DL ds false=(C0 EF BO (0,0) ds&&!ds.any M5):=by
 rw [Bool.eq_iff_iff];unfold DL C0;simp only [Bool.and_eq_true,decide_eq_true_eq,GG,Bool.not_eq_true',List.any_eq_false]
 constructor
 ·rintro ⟨h1,h2⟩;refine ⟨⟨h1,fun i hi=>?_⟩,fun x hx=>?_⟩
  ·have:=h2 i hi;rw [G7 _ _ _ _ _ hi] at this ⊢;simp only [Bool.and_eq_true,Bool.false_or] at this ⊢;exact ⟨this.1.1,this.2⟩
  ·rw [List.mem_iff_getElem] at hx;obtain ⟨i,hi,rfl⟩:=hx;have:=h2 i hi;rw [G7 _ _ _ _ _ hi] at this;simp only [Bool.and_eq_true,Bool.false_or,decide_eq_true_eq] at this;simp [M5,this.1.2]
 ·rintro ⟨⟨h1,h2⟩,h3⟩;refine ⟨h1,fun i hi=>?_⟩;have:=h2 i hi;have h4:=h3 ds[i] (List.getElem_mem _);rw [G7 _ _ _ _ _ hi] at this ⊢;simp only [Bool.and_eq_true,Bool.false_or,decide_eq_true_eq] at this ⊢;refine ⟨⟨this.1,?_⟩,this.2⟩
  simpa [M5] using h4
theorem A00 (l:List Int):FX l (-31) 31=C0 G5 AI 0 l:=by
 unfold FX;exact MD _ _ _ _ _ fun x=>by unfold G5;rw [Bool.and_comm]
theorem A01 (l:List Int):FX l 1 12=C0 GS AI 0 l:=by
 unfold FX;refine MD _ _ _ _ _ fun x=>?_
 unfold GS;rw [Bool.eq_iff_iff,Bool.and_eq_true,AY,bne_iff_ne]
 constructor
 ·exact fun h=>h.1
 ·intro h;exact ⟨h,by omega⟩
theorem FI (r:T):isR r=isB r:=by
 unfold isR
 by_cases h0:r.fr=0
 ·rw [if_pos h0,lE r h0]
 rw [if_neg h0,isB_1 r h0];unfold GH
 cases hr:CF r
 ·rw [if_pos rfl];rfl
 have hf:=X1 r hr;rw [if_neg (by simp),Bool.true_and,A00,A01];have h4:r.fr=1∨r.fr=2∨r.fr=3∨r.fr=4:=by omega
 unfold lD
 cases hm:(C0 G5 AI 0 r.ms&&C0 GS AI 0 r.ys)
 ·simp
 rcases h4 with e|e|e|e
 ·rw [decide_eq_false (by omega),U9];simp [X0,e]
 ·rw [decide_eq_false (by omega),U9];rcases Nat.eq_zero_or_pos r.ms.length with h|h
  ·have:r.ms=[]:=List.eq_nil_of_length_eq_zero h;simp [X0,e,this]
  ·have h2:r.ms≠[]:=by intro hc;rw [hc] at h;simp at h
   simp [X0,e,h,h2]
 ·rw [decide_eq_true (by omega),U8];simp [X0,e]
 ·rw [decide_eq_true (by omega),U8];simp [X0,e]
structure P where
 mo:Int
 dy:Int
 de:Int
 wd:Int
 po:Int
 pe:Int
end Go.Proofs.YtfecnkhoojnkbaaGreatDoor.Rul
namespace Go.Proofs.YtfecnkhoojnkbaaGreatDoor
open Go.RowKit
def dg (d:Nat):UInt8:=UInt8.ofNat (48+d)
def str (l:List UInt8):ByteArray:=⟨l.toArray⟩
theorem AB (l:List UInt8):(str l).size=l.length:=by simp [str,ByteArray.size]
theorem AM (a b:List UInt8):str a++str b=str (a++b):=by
 apply ByteArray.ext
 simp [str,ByteArray.data_append]
theorem AD (l:List UInt8):(str l).data.toList=l:=by simp [str]
def two (u:Nat):List UInt8:=[dg (u / 10),dg (u % 10)]
theorem DA {a b:ByteArray} (h:a=b):Ending.returned (.string a)=.returned (.string b):=by rw [h]
theorem AH (l:List UInt8):(str l).toList=l:=by rw [ByteArray.toList_eq];simp [str]
end Go.Proofs.YtfecnkhoojnkbaaGreatDoor

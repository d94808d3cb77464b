import Derived.Test.YtfecnkhoojnkbaaGreatDoorXM2
namespace Go.Proofs.YtfecnkhoojnkbaaGreatDoor.Ev
open Go.Proofs.YtfecnkhoojnkbaaGreatDoor Rul Rt Fo Li
structure E where
 uid:Tx
 text:Tx
 st:Int
 lg:Int
 rooms:List Int
 r:Rul.T
 ex:List Int
def PS (x:Int):Bool:=btw 97 x 122||(btw 65 x 90||(btw 48 x 57||x==45))
def NY (x:Int):Bool:=btw 32 x 126||x==10
def OG (c:UInt8):Bool:=PS (c.toNat:Int)
def CK (c:UInt8):Bool:=NY (c.toNat:Int)
def FT (s:Tx):Bool:=decide (1<=s.length/\s.length<=12)&&s.all OG
def E0 (s:Tx):Bool:=decide (s.length<=40)&&s.all CK
def FQ (n:Int):Bool:=decide (0<=n/\n<52596000)
def lgB (n:Int):Bool:=btw 1 n 10080
def CO (n:Int):Bool:=btw 0 n 7
def EZ (l:List Int):Bool:=decide (1<=l.length/\l.length<=4)&&WD CO AI 0 l
def exB (l:List Int):Bool:=C0 FQ AI 0 l
def Z6 (e:E):Bool:=FT e.uid&&E0 e.text
def uW (e:E):Bool:=decide (e.ex.length=0)||!C9 e.r once
def OH (e:E):Bool:=FQ e.st&&(lgB e.lg&&(isB e.r&&(exB e.ex&&uW e)))
def isE (e:E):Bool:=Z6 e&&(OH e&&EZ e.rooms)
def S8 (a b:E):Bool:=decide (a.uid=b.uid)&&(decide (a.text=b.text)&&(decide (a.st=b.st)&&(decide (a.lg=b.lg)&&(C9 a.r b.r&&(decide (a.ex=b.ex)&&decide (a.rooms=b.rooms))))))
theorem XI (a b:E):S8 a b=true↔a=b:=by
 obtain ⟨u,t,s,l,o,r,x⟩:=a;obtain ⟨u',t',s',l',o',r',x'⟩:=b;simp only [S8,Bool.and_eq_true,decide_eq_true_eq,EH,E.mk.injEq];exact ⟨fun ⟨a,b,c,d,e,f,g⟩=>⟨a,b,c,d,g,e,f⟩,fun ⟨a,b,c,d,g,e,f⟩=>⟨a,b,c,d,e,f,g⟩⟩
theorem iT (a:E):S8 a a=true:=(XI a a).2 rfl
structure Is (e:E):Prop where
 uid:FT e.uid=true
 text:E0 e.text=true
 st:FQ e.st=true
 lg:lgB e.lg=true
 r:isB e.r=true
 ex:exB e.ex=true
 free:e.ex=[]∨e.r≠once
 rooms:EZ e.rooms=true
theorem N7 (e:E):isE e=true↔Is e:=by
 have hf:uW e=true↔(e.ex=[]∨e.r≠once):=by
  unfold uW;rw [Bool.or_eq_true,decide_eq_true_eq,List.length_eq_zero_iff,Bool.not_eq_true',<- Bool.not_eq_true,EH]
 unfold isE Z6 OH;simp only [Bool.and_eq_true,hf];exact ⟨fun ⟨⟨a,b⟩,⟨c,d,e,f,g⟩,h⟩=>⟨a,b,c,d,e,f,g,h⟩,fun h=>⟨⟨h.uid,h.text⟩,⟨h.st,h.lg,h.r,h.ex,h.free⟩,h.rooms⟩⟩
theorem PT {s:Tx} (h:FT s=true):1<=s.length/\s.length<=12:=by
 unfold FT at h;rw [Bool.and_eq_true,decide_eq_true_eq] at h;exact h.1
theorem R7 {s:Tx} (h:E0 s=true):s.length<=40:=by
 unfold E0 at h;rw [Bool.and_eq_true,decide_eq_true_eq] at h;exact h.1
theorem F3 (n:Int):FQ n=true↔0<=n/\n<52596000:=by unfold FQ;exact decide_eq_true_iff
theorem Z7 (l:List Int):exB l=true↔l.length<=12/\(∀ x∈l,FQ x=true)/\strict AI l:=CX ID 0 l
theorem TH (p:Int->Bool) (l:List Int) (h:l.length<=12):WD p AI 0 l=true↔(∀ x∈l,p x=true)/\strict AI l:=by
 have:=CX (p:=p) ID 0 l;unfold C0 at this;rw [z0H h,Bool.true_and] at this;rw [this];exact ⟨fun g=>g.2,fun g=>⟨h,g⟩⟩
theorem FK (l:List Int):EZ l=true↔(1<=l.length/\l.length<=4)/\(∀ x∈l,CO x=true)/\strict AI l:=by
 unfold EZ;rw [Bool.and_eq_true,decide_eq_true_eq]
 constructor
 ·rintro ⟨h,g⟩;exact ⟨h,(TH CO l (by omega)).1 g⟩
 ·rintro ⟨h,g⟩;exact ⟨h,(TH CO l (by omega)).2 g⟩
def AP:Tx:=[66,69,71,73,78]
def ER:Tx:=[85,73,68]
def BR:Tx:=[68,84,83,84,65,82,84]
def CQ:Tx:=[68,85,82,65,84,73,79,78]
def DG:Tx:=[82,82,85,76,69]
def nEX:Tx:=[69,88,68,65,84,69]
def BP:Tx:=[88,45,82,79,79,77,83]
def DH:Tx:=[83,85,77,77,65,82,89]
def DD:Tx:=[69,78,68]
def wEV:Tx:=[86,69,86,69,78,84]
def JF:List Tx:=[ER,BR,CQ,BP,DG,nEX,DH]
def wPT:Tx:=[80,84]
def UY (n:Int):Tx:=wPT++Lib.itoa n++[77]
def within (v:Tx):Tx:=(v.drop 2).dropLast
def GK (v:Tx):Bool:=decide (v.take 2=wPT)&&(decide (3<=v.length)&&decide (v.getLast?=some 77))
def PU (p:Int->Bool) (o:Option Int):Option Int:=match o with
 | some n=>if p n=true then some n else none
 | none=>none
theorem OI {p:Int->Bool} {o:Option Int} {n:Int}:PU p o=some n↔o=some n/\p n=true:=by
 unfold PU
 cases o with
 | none=>simp
 | some m =>
  simp only [Option.some.injEq]
  split
  ·rename_i h;constructor
   ·intro g;injection g with g;subst g;exact ⟨rfl,h⟩
   ·rintro ⟨rfl,_⟩;rfl
  ·rename_i h;constructor
   ·intro g;cases g
   ·rintro ⟨rfl,g⟩;exact absurd g h
def G9 (v:Tx):Option Int:=if GK v=true then PU lgB (BJ (within v)) else none
def lX (v:Tx):Option Int:=if GK v=true then PU lgB (B8 (within v) false) else none
theorem UZ (v:Tx):G9 v=lX v:=by
 unfold G9 lX
 split
 ·apply Option.ext
  intro n;rw [OI,OI,JB,IB]
  constructor
  ·rintro ⟨⟨h,_⟩,g⟩;have g2:=g;rw [lgB,AY] at g2;exact ⟨⟨h,by omega,fun _=>by omega⟩,g⟩
  ·rintro ⟨⟨h,_⟩,g⟩;have g2:=g;rw [lgB,AY] at g2;exact ⟨⟨h,by unfold EX;omega⟩,g⟩
 ·rfl
def lY {α:Type} (k:Nat) (lt:α->α->Bool) (f:Tx->Option α) (t:Tx):Option (List α):=(AK f (Lib.splitN t [44] k)).map (srt lt)
theorem JX {α:Type} [DecidableEq α] {lt:α->α->Bool} (o:Ord lt) (k:Nat) (fC fR:Tx->Option α) (ok:α->Bool) (hok:∀ t x,ok x=true->(fC t=some x↔fR t=some x)) (hfree:∀ t x,fC t=some x->(44:UInt8)∉t)
  (t:Tx) (l:List α) (h12:l.length<=k) (hall:∀ x∈l,ok x=true) (hs:strict lt l):lY (k+1) lt fC t=some l↔FD lt fR t=some l:=by
 unfold lY FD;rw [Option.map_eq_some_iff]
 constructor
 ·rintro ⟨xs,hx,rfl⟩;have hp:=GI lt xs;have hlen:=BF hx;rcases EY 44 k t with ⟨h1,_⟩|⟨_,_,p,hp2,hc⟩
  ·rw [h1] at hx;refine QT o fR _ [] _ xs List.Pairwise.nil (DQ hx fun a _ b hb h=>?_) hs hp;exact (hok a b (hall b (hp.mem_iff.2 hb))).1 h
  ·obtain ⟨b,_,hb⟩:=JV hx hp2;exact absurd hc (hfree _ _ hb)
 ·intro h;obtain ⟨xs,hx,_,hp⟩:=KF o fR _ [] l List.Pairwise.nil h;rw [List.nil_append] at hp;have hlen:=BF hx;have hxl:=hp.length_eq;have hC:AK fC (cutAt 44 t)=some xs:=DQ hx fun a _ b hb h=>(hok a b (hall b (hp.mem_iff.2 hb))).2 h
  rcases EY 44 k t with ⟨h1,_⟩|⟨_,h2,_⟩
  ·exact ⟨xs,by rw [h1];exact hC,(QS o hp (hs.weak o)).symm⟩
  ·omega
theorem LB {α:Type} [DecidableEq α] {lt:α->α->Bool} (o:Ord lt) {f:Tx->Option α} {t:Tx} {l:List α} (h:FD lt f t=some l):strict lt l/\(∀ x∈l,∃ u,f u=some x)/\l≠[]:=by
 obtain ⟨xs,hx,hs,hp⟩:=KF o f _ [] l List.Pairwise.nil h;rw [List.nil_append] at hp;refine ⟨hs,fun x hx2=>?_,fun e=>?_⟩
 ·have:=hp.mem_iff.1 hx2;rw [CW] at hx;have g:some x∈(cutAt 44 t).map f:=by rw [hx];exact List.mem_map.2 ⟨x,this,rfl⟩
  obtain ⟨u,_,hu⟩:=List.mem_map.1 g;exact ⟨u,hu⟩
 ·have h1:=BF hx;have h2:=hp.length_eq;rw [e,List.length_nil] at h2;exact JC 44 t (List.length_eq_zero_iff.1 (by omega))
def JG (p:List Int->Bool) (o:Option (List Int)):Option (List Int):=match o with
 | some l=>if p l=true then some l else none
 | none=>none
theorem JH {p:List Int->Bool} {o:Option (List Int)} {l:List Int}:JG p o=some l↔o=some l/\p l=true:=by
 unfold JG
 cases o with
 | none=>simp
 | some m =>
  simp only [Option.some.injEq]
  split
  ·rename_i h;constructor
   ·intro g;injection g with g;subst g;exact ⟨rfl,h⟩
   ·rintro ⟨rfl,_⟩;rfl
  ·rename_i h;constructor
   ·intro g;cases g
   ·rintro ⟨rfl,g⟩;exact absurd g h
structure Good (U:Un):Prop where
 comma:∀ v n,U.f v=some n->(44:UInt8)∉v
 range:∀ v n,U.f v=some n->0<=n/\n<52596000
 free:∀ n,(44:UInt8)∉U.text n
def exE (U:Un) (v:Tx):Option (List Int):=JG exB (lY 13 AI U.f v)
def exR (U:Un) (v:Tx):Option (List Int):=JG (fun l=>decide (l.length<=12)) (FD AI U.f v)
theorem uX (U:Un) (hU:Good U) (v:Tx):exE U v=exR U v:=by
 unfold exE exR
 apply Option.ext
 intro l;rw [JH,JH,Z7,decide_eq_true_eq]
 constructor
 ·rintro ⟨h,h1,h2,h3⟩;exact ⟨(JX ID 12 U.f U.f FQ (fun _ _ _=>Iff.rfl) hU.comma v l h1 h2 h3).1 h,h1⟩
 ·rintro ⟨h,h1⟩;obtain ⟨h3,h4,_⟩:=LB ID h;have h2:∀ x∈l,FQ x=true:=fun x hx=>by
   obtain ⟨u,hu⟩:=h4 x hx;exact (F3 x).2 (hU.range u x hu)
  exact ⟨(JX ID 12 U.f U.f FQ (fun _ _ _=>Iff.rfl) hU.comma v l h1 h2 h3).2 h,h1,h2,h3⟩
def OJ (v:Tx):Option (List Int):=JG EZ (lY 5 AI BJ v)
def iU (v:Tx):Option (List Int):=JG (fun l=>decide (l.length<=4)&&decide (l.getLastD 0<8)) (FD AI (B8 · false) v)
theorem S9:∀ {l:List Int} {x:Int},strict AI l->x∈l->x<=l.getLastD 0
 | [],x,_,h=>by cases h
 | [a],x,_,h=>by
  rw [List.mem_singleton] at h;subst h;exact Int.le_refl _
 | a :: b :: l,x,hs,h=>by
  have hs2:=List.pairwise_cons.1 hs;have ih:=fun y=>S9 (x:=y) hs2.2
  rcases List.mem_cons.1 h with rfl|h
  ·have h1:=hs2.1 b (by simp);have h2:=ih b (by simp);unfold AI at h1;rw [decide_eq_true_eq] at h1;have:(x :: b :: l).getLastD 0=(b :: l).getLastD 0:=rfl;omega
  ·exact ih x h
theorem dP (v:Tx):OJ v=iU v:=by
 unfold OJ iU;have hok:∀ t x,CO x=true->(BJ t=some x↔B8 t false=some x):=fun t x hx=>by
  rw [CO,AY] at hx;rw [JB,IB]
  constructor
  ·rintro ⟨h,_⟩;exact ⟨h,by omega,fun _=>by omega⟩
  ·rintro ⟨h,_⟩;exact ⟨h,by unfold EX;omega⟩
 have hfree:∀ t x,BJ t=some x->(44:UInt8)∉t:=fun t x h=>KG h 44 (by decide)
 apply Option.ext
 intro l;rw [JH,JH,FK,Bool.and_eq_true,decide_eq_true_eq,decide_eq_true_eq]
 constructor
 ·rintro ⟨h,h1,h2,h3⟩;refine ⟨(JX ID 4 BJ (B8 · false) CO hok hfree v l h1.2 h2 h3).1 h,h1.2,?_⟩;have hm:l.getLastD 0∈l:=by
   cases l with
   | nil=>simp at h1
   | cons a l=>rw [List.getLastD_cons,List.getLastD_eq_getLast?];exact List.mem_of_getLast? (by rw [List.getLast?_cons])
  have:=h2 _ hm;rw [CO,AY] at this;omega
 ·rintro ⟨h,h1,hl⟩;obtain ⟨h3,h4,h5⟩:=LB ID h;have h2:∀ x∈l,CO x=true:=fun x hx=>by
   obtain ⟨u,hu⟩:=h4 x hx;have h6:=S9 h3 hx;have h7:=((IB u false x).1 hu).2.2 rfl;rw [CO,AY];omega
  have h0:1<=l.length:=Nat.pos_of_ne_zero fun e=>h5 (List.length_eq_zero_iff.1 e)
  exact ⟨(JX ID 4 BJ (B8 · false) CO hok hfree v l h1 h2 h3).2 h,⟨h0,h1⟩,h2,h3⟩
def MI (v:Tx):Option Tx:=match unE v with
 | some s=>if E0 s=true then some s else none
 | none=>none
def FH (U:Un) (e:E) (n v:Tx):Option E :=
 if n=ER then (if FT v=true then some { e with uid:=v } else none)
 else if n=BR then (U.f v).map fun m=>{ e with st:=m }
 else if n=CQ then (G9 v).map fun m=>{ e with lg:=m }
 else if n=DG then (IM U v).map fun r=>{ e with r:=r }
 else if n=nEX then (exE U v).map fun l=>{ e with ex:=l }
 else if n=BP then (OJ v).map fun l=>{ e with rooms:=l }
 else if n=DH then (MI v).map fun t=>{ e with text:=t }
 else none
def e0:E:=⟨[],[],0,0,[],once,[]⟩
def hasAll (seen:List Tx):Bool:=decide (ER∈seen)&&(decide (BR∈seen)&&(decide (CQ∈seen)&&decide (BP∈seen)))
def goE (U:Un):Nat->E->List Tx->List Tx->Option E×Nat
 | i,_,_,[]=>(none,i)
 | i,e,seen,h :: t=>match AV h with
  | none=>(none,i)
  | some (n,v) =>
   if n=AP then (none,i)
   else if n=DD then (if decide (AW v=wEV)&&(hasAll seen&&isE e) then (some e,i+1) else (none,i))
   else if n∈JF then (if n∈seen then (none,i) else match FH U e n v with
    | none=>(none,i)
    | some e'=>goE U (i+1) e' (seen++[n]) t)
   else goE U (i+1) e seen t
def CS (U:Un):List Tx->Option E×Nat
 | []=>(none,0)
 | h :: t=>match AV h with
  | none=>(none,0)
  | some (n,v)=>if n=AP/\AW v=wEV then goE U 1 e0 [] t else (none,0)
theorem drop_at {l:List Tx} {j:Nat} (h:j<l.length):l.drop j=l[j] :: l.drop (j+1):=List.drop_eq_getElem_cons h
theorem A0b {U:Un} {l:List Tx} {j i:Nat} {e:E} {seen:List Tx} (h:j<l.length) (hl:AV l[j]=none):goE U i e seen (l.drop j)=(none,i):=by
 rw [drop_at h,goE,hl]
theorem uY {U:Un} {l:List Tx} {j i:Nat} {e:E} {seen:List Tx} {v:Tx} (h:j<l.length) (hl:AV l[j]=some (AP,v)):goE U i e seen (l.drop j)=(none,i):=by
 rw [drop_at h,goE,hl];simp only [if_true]
theorem A2n {U:Un} {l:List Tx} {j i:Nat} {e:E} {seen:List Tx} {v:Tx} (h:j<l.length) (hl:AV l[j]=some (DD,v)):goE U i e seen (l.drop j)=if decide (AW v=wEV)&&(hasAll seen&&isE e) then (some e,i+1) else (none,i):=by
 rw [drop_at h,goE,hl];simp only;rw [if_neg (by decide),if_pos trivial]
theorem GW {n:Tx} (h:n∈JF):n≠AP/\n≠DD:=by
 have:∀ n∈JF,n≠AP/\n≠DD:=by decide
 exact this n h
theorem A2o {U:Un} {l:List Tx} {j i:Nat} {e:E} {seen:List Tx} {n v:Tx} (h:j<l.length) (hl:AV l[j]=some (n,v)) (hk:n∈JF) (hs:n∈seen):goE U i e seen (l.drop j)=(none,i):=by
 rw [drop_at h,goE,hl];simp only;rw [if_neg (GW hk).1,if_neg (GW hk).2,if_pos hk,if_pos hs]
theorem A2p {U:Un} {l:List Tx} {j i:Nat} {e:E} {seen:List Tx} {n v:Tx} (h:j<l.length) (hl:AV l[j]=some (n,v)) (hk:n∈JF) (hv:FH U e n v=none):goE U i e seen (l.drop j)=(none,i):=by
 rw [drop_at h,goE,hl];simp only;rw [if_neg (GW hk).1,if_neg (GW hk).2,if_pos hk,hv];simp
theorem A2q {U:Un} {l:List Tx} {j i:Nat} {e e':E} {seen:List Tx} {n v:Tx} (h:j<l.length) (hl:AV l[j]=some (n,v)) (hk:n∈JF) (hs:n∉seen) (hv:FH U e n v=some e'):goE U i e seen (l.drop j)=goE U (i+1) e' (seen++[n]) (l.drop (j+1)):=by
 rw [drop_at h,goE,hl];simp only;rw [if_neg (GW hk).1,if_neg (GW hk).2,if_pos hk,if_neg hs,hv]
theorem uZ {U:Un} {l:List Tx} {j i:Nat} {e:E} {seen:List Tx} {n v:Tx} (h:j<l.length) (hl:AV l[j]=some (n,v)) (h1:n≠AP) (h2:n≠DD) (hk:n∉JF):goE U i e seen (l.drop j)=goE U (i+1) e seen (l.drop (j+1)):=by
 rw [drop_at h,goE,hl];simp only;rw [if_neg h1,if_neg h2,if_neg hk]
theorem A2r {U:Un} {l:List Tx} {i:Nat} {e:E} {seen:List Tx}:goE U i e seen (l.drop l.length)=(none,i):=by
 rw [List.drop_length,goE]
def CZ (p:Tx×Tx):Tx:=p.1++58 :: p.2
def items (U:Un) (e:E):List (Tx×Tx):=[(AP,wEV),(ER,e.uid),(BR,U.text e.st),(CQ,UY e.lg),(DG,DU U e.r),(nEX,AR U.text e.ex),(BP,AR Lib.itoa e.rooms),(DH,DV e.text),(DD,wEV)]
def wri (l:List (Tx×Tx)):List Tx:=(l.filter fun p=>decide (p.2≠[])).map CZ
def BL (U:Un) (e:E):List Tx:=if isE e=true then wri (items U e) else []
inductive Fld where
 | uid (t:Tx)
 | st (n:Int)
 | lg (n:Int)
 | ru (r:Rul.T)
 | ex (l:List Int)
 | ro (l:List Int)
 | tx (t:Tx)
def Fld.tag:Fld->Nat
 | .uid _=>0
 | .st _=>1
 | .lg _=>2
 | .ru _=>3
 | .ex _=>4
 | .ro _=>5
 | .tx _=>6
def Fld.name:Fld->Tx
 | .uid _=>ER
 | .st _=>BR
 | .lg _=>CQ
 | .ru _=>DG
 | .ex _=>nEX
 | .ro _=>BP
 | .tx _=>DH
def Fld.put (e:E):Fld->E
 | .uid t=>{ e with uid:=t }
 | .st n=>{ e with st:=n }
 | .lg n=>{ e with lg:=n }
 | .ru r=>{ e with r:=r }
 | .ex l=>{ e with ex:=l }
 | .ro l=>{ e with rooms:=l }
 | .tx t=>{ e with text:=t }
def Fld.val (U:Un):Fld->Tx
 | .uid t=>t
 | .st n=>U.text n
 | .lg n=>UY n
 | .ru r=>DU U r
 | .ex l=>AR U.text l
 | .ro l=>AR Lib.itoa l
 | .tx t=>DV t
def Z8:Tx:=CZ (AP,wEV)
def dQ:Tx:=CZ (DD,wEV)
end Go.Proofs.YtfecnkhoojnkbaaGreatDoor.Ev
namespace Go.Proofs.YtfecnkhoojnkbaaGreatDoor.Ev
open Go.Proofs.YtfecnkhoojnkbaaGreatDoor Rul Rt Fo Li
def GX:List Tx:=[AP,ER,BR,CQ,DG,nEX,BP,DH,DD]
def F4 (U:Un) (seen:List Tx) (e:E) (n t:Tx):Option E :=
 if n=AP then (if decide (AW t=wEV)=true then some e else none)
 else if n=DD then (if (decide (AW t=wEV)&&(hasAll seen&&isE e))=true then some e else none)
 else FH U e n t
def FY (U:Un) (e:E) (seen:List Tx) (n t:Tx):Option (E×List Tx) :=
 if (decide (seen=[]) != decide (n=AP))=true then none
 else if n∈seen then none
 else if n∈GX then (F4 U (seen++[n]) e n t).map fun e'=>(e',seen++[n])
 else some (e,seen)
def goF (U:Un):Nat->E->List Tx->List Tx->Option E×Nat
 | i,_,_,[]=>(none,i)
 | i,e,seen,h :: t=>match AV h with
  | none=>(none,i)
  | some (n,v)=>match FY U e seen n v with
   | none=>(none,i)
   | some (e',seen')=>if n=DD then (some e',i+1) else goF U (i+1) e' seen' t
theorem V2 (n:Tx):n∈GX↔n=AP∨n=DD∨n∈JF:=by
 unfold GX JF;simp only [List.mem_cons,List.not_mem_nil,or_false]
 constructor
 ·rintro (h|h|h|h|h|h|h|h|h) <;> simp [h]
 ·rintro (h|h|h|h|h|h|h|h|h) <;> simp [h]
theorem vA (seen:List Tx) (x:Tx) (hx:x∉[ER,BR,CQ,BP]):hasAll (seen++[x])=hasAll seen:=by
 have h:∀ y∈[ER,BR,CQ,BP],(decide (y∈seen++[x]))=decide (y∈seen):=fun y hy=>by
  rw [decide_eq_decide,List.mem_append,List.mem_singleton];exact ⟨fun g=>g.resolve_right fun e=>hx (e▸hy),Or.inl⟩
 unfold hasAll;rw [h ER (by simp),h BR (by simp),h CQ (by simp),h BP (by simp)]
theorem oV (seen:List Tx) (x:Tx) (hx:x∉[ER,BR,CQ,BP]):hasAll (x :: seen)=hasAll seen:=by
 have h:∀ y∈[ER,BR,CQ,BP],(decide (y∈x :: seen))=decide (y∈seen):=fun y hy=>by
  rw [decide_eq_decide,List.mem_cons];exact ⟨fun g=>g.resolve_left fun e=>hx (e▸hy),Or.inr⟩
 unfold hasAll;rw [h ER (by simp),h BR (by simp),h CQ (by simp),h BP (by simp)]
theorem iV (U:Un):∀ (l:List Tx) (i:Nat) (e:E) (seen:List Tx),(∀ x∈seen,x∈JF)->goF U i e (AP :: seen) l=goE U i e seen l
 | [],i,e,seen,_=>by rw [goF,goE]
 | h :: t,i,e,seen,hs=>by
  rw [goF,goE]
  cases hl:AV h with
  | none=>rfl
  | some p =>
   obtain ⟨n,v⟩:=p;simp only;have d0:decide (AP :: seen=[])=false:=by simp
   by_cases h1:n=AP
   ·subst h1;have:FY U e (AP :: seen) AP v=none:=by
     unfold FY;rw [d0,z0H rfl,if_pos (by decide)]
    rw [this,if_pos rfl]
   ·have d1:decide (n=AP)=false:=z0G h1;rw [if_neg h1];have e1:FY U e (AP :: seen) n v=if n∈seen then none else if n∈GX then (F4 U (AP :: (seen++[n])) e n v).map fun e'=>(e',AP :: (seen++[n])) else some (e,AP :: seen):=by
     unfold FY;rw [d0,d1,if_neg (by decide)];have:(n∈AP :: seen)=(n∈seen):=by
      rw [eq_iff_iff,List.mem_cons];exact ⟨fun g=>g.resolve_left h1,Or.inr⟩
     simp only [this,List.cons_append]
    rw [e1];clear e1 d0 d1
    by_cases h2:n=DD
    ·subst h2;have hn:DD∉seen:=fun g=>(GW (hs _ g)).2 rfl
     have e2:F4 U (AP :: (seen++[DD])) e DD v=if (decide (AW v=wEV)&&(hasAll seen&&isE e))=true then some e else none:=by
      unfold F4;rw [if_neg h1,if_pos rfl,oV _ _ (by decide),vA _ _ (by decide)]
     rw [if_neg hn,if_pos ((V2 _).2 (Or.inr (Or.inl rfl))),if_pos rfl,e2]
     by_cases hc:(decide (AW v=wEV)&&(hasAll seen&&isE e))=true
     ·simp only [if_pos hc,Option.map_some,if_true]
     ·simp only [if_neg hc,Option.map_none]
    ·rw [if_neg h2]
     by_cases h3:n∈JF
     ·rw [if_pos h3]
      by_cases h4:n∈seen
      ·rw [if_pos h4,if_pos h4]
      ·have e2:F4 U (AP :: (seen++[n])) e n v=FH U e n v:=by unfold F4;rw [if_neg h1,if_neg h2]
       rw [if_neg h4,if_neg h4,if_pos ((V2 _).2 (Or.inr (Or.inr h3))),e2]
       cases hv:FH U e n v with
       | none=>rfl
       | some e' =>
        simp only [Option.map_some];rw [if_neg h2];exact iV U t (i+1) e' (seen++[n]) fun x hx=>(List.mem_append.1 hx).elim (hs x) fun g=>(List.mem_singleton.1 g)▸h3
     ·have h4:n∉seen:=fun g=>h3 (hs _ g)
      have h5:n∉GX:=fun g=>((V2 _).1 g).elim h1 fun g=>g.elim h2 h3
      rw [if_neg h3,if_neg h4,if_neg h5];simp only;rw [if_neg h2];exact iV U t (i+1) e seen hs
theorem vB (U:Un) (l:List Tx):goF U 0 e0 [] l=CS U l:=by
 cases l with
 | nil=>rw [goF,CS]
 | cons h t =>
  rw [goF,CS]
  cases hl:AV h with
  | none=>rfl
  | some p =>
   obtain ⟨n,v⟩:=p;simp only
   by_cases h1:n=AP
   ·subst h1;have e1:FY U e0 [] AP v=(if decide (AW v=wEV)=true then some e0 else none).map fun e'=>(e',[AP]):=by
     unfold FY F4;rw [z0H rfl,z0H rfl,if_neg (by decide),if_neg (by simp),if_pos (by decide),if_pos rfl];rfl
    rw [e1]
    by_cases hc:AW v=wEV
    ·rw [if_pos (z0H hc),if_pos ⟨rfl,hc⟩];simp only [Option.map_some];rw [if_neg (by decide)];exact iV U t 1 e0 [] (fun _ h=>by cases h)
    ·rw [if_neg (by simpa using hc),if_neg (fun g=>hc g.2)];rfl
   ·have e1:FY U e0 [] n v=none:=by
     unfold FY;rw [z0H rfl,z0G h1,if_pos (by decide)]
    rw [e1,if_neg (fun g=>h1 g.1)]
theorem vC {U:Un} {l:List Tx} {j i:Nat} {e:E} {seen:List Tx} (h:j<l.length) (hl:AV l[j]=none):goF U i e seen (l.drop j)=(none,i):=by
 rw [drop_at h,goF,hl]
theorem A0c {U:Un} {l:List Tx} {j i:Nat} {e:E} {seen:List Tx} {n v:Tx} (h:j<l.length) (hl:AV l[j]=some (n,v)) (hv:FY U e seen n v=none):goF U i e seen (l.drop j)=(none,i):=by
 rw [drop_at h,goF,hl];simp only;rw [hv]
theorem A0d {U:Un} {l:List Tx} {j i:Nat} {e e':E} {seen s':List Tx} {v:Tx} (h:j<l.length) (hl:AV l[j]=some (DD,v)) (hv:FY U e seen DD v=some (e',s')):goF U i e seen (l.drop j)=(some e',i+1):=by
 rw [drop_at h,goF,hl];simp only;rw [hv];simp only [if_true]
theorem vE {U:Un} {l:List Tx} {j i:Nat} {e e':E} {seen s':List Tx} {n v:Tx} (h:j<l.length) (hl:AV l[j]=some (n,v)) (hv:FY U e seen n v=some (e',s')) (hn:n≠DD):goF U i e seen (l.drop j)=goF U (i+1) e' s' (l.drop (j+1)):=by
 rw [drop_at h,goF,hl];simp only;rw [hv];simp only;rw [if_neg hn]
theorem A0e {U:Un} {l:List Tx} {i:Nat} {e:E} {seen:List Tx}:goF U i e seen (l.drop l.length)=(none,i):=by
 rw [List.drop_length,goF]
theorem vF (U:Un) (e:E) (v:Tx):FH U e ER v=if FT v=true then some { e with uid:=v } else none:=by unfold FH;rw [if_pos rfl]
theorem vG (U:Un) (e:E) (v:Tx):FH U e BR v=(U.f v).map fun m=>{ e with st:=m }:=by unfold FH;rw [if_neg (by decide),if_pos rfl]
theorem vH (U:Un) (e:E) (v:Tx):FH U e CQ v=(G9 v).map fun m=>{ e with lg:=m }:=by unfold FH;rw [if_neg (by decide),if_neg (by decide),if_pos rfl]
theorem vI (U:Un) (e:E) (v:Tx):FH U e DG v=(IM U v).map fun r=>{ e with r:=r }:=by unfold FH;rw [if_neg (by decide),if_neg (by decide),if_neg (by decide),if_pos rfl]
theorem vJ (U:Un) (e:E) (v:Tx):FH U e nEX v=(exE U v).map fun l=>{ e with ex:=l }:=by unfold FH;rw [if_neg (by decide),if_neg (by decide),if_neg (by decide),if_neg (by decide),if_pos rfl]
theorem vK (U:Un) (e:E) (v:Tx):FH U e BP v=(OJ v).map fun l=>{ e with rooms:=l }:=by unfold FH;rw [if_neg (by decide),if_neg (by decide),if_neg (by decide),if_neg (by decide),if_neg (by decide),if_pos rfl]
theorem vN (U:Un) (e:E) (v:Tx):FH U e DH v=(MI v).map fun t=>{ e with text:=t }:=by unfold FH;rw [if_neg (by decide),if_neg (by decide),if_neg (by decide),if_neg (by decide),if_neg (by decide),if_neg (by decide),if_pos rfl]
end Go.Proofs.YtfecnkhoojnkbaaGreatDoor.Ev
namespace Go.Proofs.YtfecnkhoojnkbaaGreatDoor.Ev
open Go.Proofs.YtfecnkhoojnkbaaGreatDoor Rul Rt Fo Li
def QU (e:E):Fld->Prop
 | .uid t=>e.uid=t
 | .st n=>e.st=n
 | .lg n=>e.lg=n
 | .ru r=>e.r=r
 | .ex l=>e.ex=l
 | .ro l=>e.rooms=l
 | .tx t=>e.text=t
theorem oW (U:Un) (r:Rul.T) (h:isB r=true):DU U r=[]↔r=once:=by
 constructor
 ·intro hp
  by_cases h0:r=once
  ·exact h0
  have hr:=uH h h0;have hc:(isB r&&!C9 r once)=true:=by
   rw [h,Bool.true_and,Bool.not_eq_true',<- Bool.not_eq_true,EH];exact h0
  unfold DU at hp;rw [if_pos hc] at hp;have hf:=N3 U r hr
  cases hl:DF U r with
  | nil=>exact absurd hl hf
  | cons p l =>
   rw [hl,List.map_cons] at hp;have ht:ES U p≠[]:=by unfold ES;simp
   cases l with
   | nil=>exact absurd hp ht
   | cons q l=>simp [AU] at hp
 ·rintro rfl;rfl
theorem A0f (s:Tx):DV s=[]↔s=[]:=by
 constructor
 ·intro h;have:=uN s;rw [h] at this;have h2:unE []=some []:=rfl;rw [h2] at this;injection this with this;exact this.symm
 ·rintro rfl;rfl
theorem A0g (n:Int):UY n≠[]:=by simp [UY,wPT]
end Go.Proofs.YtfecnkhoojnkbaaGreatDoor.Ev
namespace Go.Proofs.YtfecnkhoojnkbaaGreatDoor.Ev
open Go.Proofs.YtfecnkhoojnkbaaGreatDoor Rul Rt Fo Li
theorem LV {e:E} (h:¬ Is e):isE e=false:=by rw [Bool.eq_false_iff];exact fun g=>h ((N7 e).1 g)
theorem vP (U:Un) {x:E} (h:isE x=false):BL U x=[]:=by unfold BL;rw [h];rfl
end Go.Proofs.YtfecnkhoojnkbaaGreatDoor.Ev
namespace Go.Proofs.YtfecnkhoojnkbaaGreatDoor.Ev
open Go.Proofs.YtfecnkhoojnkbaaGreatDoor Rul Rt Fo Li
def OK (b:Bool) (n v:Tx):List Tx:=if b=true then [CZ (n,v)] else []
def docA (U:Un) (e:E):List Tx:=[Z8,CZ (ER,e.uid),CZ (BR,U.text e.st),CZ (CQ,UY e.lg)]
def docB (U:Un) (e:E):List Tx:=docA U e++OK (decide (e.r.fr≠0)) DG (DU U e.r)
def docC (U:Un) (e:E):List Tx:=docB U e++OK (decide (AR U.text e.ex≠[])) nEX (AR U.text e.ex)
def docD (U:Un) (e:E):List Tx:=docC U e++[CZ (BP,AR Lib.itoa e.rooms)]
def docE (U:Un) (e:E):List Tx:=docD U e++OK (decide (e.text≠[])) DH (DV e.text)
def docL (U:Un) (e:E):List Tx:=docE U e++[dQ]
theorem A0h {r:Rul.T} (h:isB r=true):r.fr=0↔r=once:=by
 constructor
 ·intro h0;have:=lE r h0;rw [h] at this;exact (EH r once).1 this.symm
 ·rintro rfl;rfl
theorem oZ (U:Un) (e:E) (h:Is e):docL U e=BL U e:=by
 have h1:e.uid≠[]:=fun g=>by have:=(PT h.uid).1;rw [g] at this;simp at this
 have h2:U.text e.st≠[]:=U.some _ ((F3 e.st).1 h.st).1 ((F3 e.st).1 h.st).2;have h3:=A0g e.lg;have h4:AR Lib.itoa e.rooms≠[]:=fun g=>by
  have g2:=(QX _ I2 e.rooms).1 g;have:=((FK e.rooms).1 h.rooms).1.1;rw [g2] at this;simp at this
 have h5:DU U e.r=[]↔e.r.fr=0:=(oW U e.r h.r).trans (A0h h.r).symm;have h6:=A0f e.text;unfold BL wri;rw [if_pos ((N7 e).2 h)];have e0:wEV≠[]:=by decide
 have d4:DV []=[]:=rfl;unfold docL docE docD docC docB docA OK Z8 dQ items
 by_cases c1:e.r.fr=0 <;> by_cases c2:AR U.text e.ex=[] <;> by_cases c3:e.text=[]
 all_goals
  first|(have d1:=h5.2 c1)|(have d1:DU U e.r≠[]:=fun g=>c1 (h5.1 g))
  first|(have d3:=h6.2 c3)|(have d3:DV e.text≠[]:=fun g=>c3 (h6.1 g))
  simp [e0,h1,h2,h3,h4,c1,c2,c3,d1,d3,d4]
theorem SF (c:UInt8) (f:Int->Tx) (l:List Int) (j:Nat) (h:j<l.length):AU c ((l.take (j+1)).map f)=if j=0 then f l[j] else AU c ((l.take j).map f)++c :: f l[j]:=by
 rw [List.take_succ_eq_append_getElem h,List.map_append]
 by_cases hj:j=0
 ·subst hj;simp [AU]
 ·rw [if_neg hj];have hne:(l.take j).map f≠[]:=by
   intro g;have:=congrArg List.length g;rw [List.length_map,List.length_take,List.length_nil] at this;omega
  generalize (l.take j).map f=k at *;have gen:∀ k:List Tx,k≠[]->AU c (k++[f l[j]])=AU c k++c :: f l[j]:=by
   intro k
   induction k with
   | nil=>intro g;exact absurd rfl g
   | cons a k ih =>
    intro _
    cases k with
    | nil=>simp [AU]
    | cons b k =>
     have:=ih (by simp);simp only [List.cons_append] at this ⊢;simp only [AU] at this ⊢;rw [this];simp
  exact gen k hne
end Go.Proofs.YtfecnkhoojnkbaaGreatDoor.Ev

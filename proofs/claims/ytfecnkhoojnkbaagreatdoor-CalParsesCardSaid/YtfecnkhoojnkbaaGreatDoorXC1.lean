import Derived.Test.YtfecnkhoojnkbaaGreatDoorXEvK
import Derived.Test.YtfecnkhoojnkbaaGreatDoorXM4
import Derived.Test.YtfecnkhoojnkbaaGreatDoorXEvN
namespace Go.Proofs.YtfecnkhoojnkbaaGreatDoor
open Go.RowKit Rul Rt Go.Sort Tryz
abbrev EM:=Ev.E×Mem
def E8 (e:Ev.E) (m:Mem):List Value:=[.string (str e.uid),.string (str e.text),.int .i64 e.st,.int .i64 e.lg,.slice m.O e.rooms.length m.oc,.int .i64 e.r.fr,.int .i64 e.r.ev,.int .i64 e.r.ct,.int .i64 e.r.un,.slice m.D e.r.ds.length m.dc,.slice m.M e.r.ms.length m.mc,.slice m.Y e.r.ys.length m.yc,.slice m.X e.ex.length m.xc]
def GC (l:List EM):List Value:=l.flatMap fun p=>E8 p.1 p.2
theorem O5 (e:Ev.E) (m:Mem):(E8 e m).length=13:=rfl
theorem RO (a:EM) (l:List EM):GC (a :: l)=E8 a.1 a.2++GC l:=rfl
theorem NT (l k:List EM):GC (l++k)=GC l++GC k:=by simp [GC]
theorem KU:∀ (l:List EM) (i:Nat) (h:i<l.length) (j:Nat),j<13->(GC l)[i*13+j]?=(E8 l[i].1 l[i].2)[j]?
 | [],i,h,_,_=>absurd h (Nat.not_lt_zero i)
 | a :: l,0,_,j,hj=>by
  rw [RO,Nat.zero_mul,Nat.zero_add,List.getElem?_append_left (by rw [O5];exact hj)];rfl
 | a :: l,i+1,h,j,hj=>by
  have hi:i<l.length:=by simpa using h
  rw [RO,List.getElem?_append_right (by rw [O5];omega),O5,show (i+1)*13+j-13=i*13+j by omega,KU l i hi j hj];rfl
theorem TQ (e:Ev.E) (m:Mem):∀ u∈E8 e m,u.oneCell'=true:=by
 intro u hu;simp only [E8,List.mem_cons,List.not_mem_nil,or_false] at hu;rcases hu with rfl|rfl|rfl|rfl|rfl|rfl|rfl|rfl|rfl|rfl|rfl|rfl|rfl <;> rfl
structure YI (w:World) (b o:Nat) (e:Ev.E) (m:Mem):Prop where
 c:∀ j,j<13->w.cell? ⟨b,o+j,none⟩=(E8 e m)[j]?
theorem YI.all {w:World} {b o:Nat} {e:Ev.E} {m:Mem} (h:YI w b o e m) :
  w.cell? ⟨b,o,none⟩=some (.string (str e.uid))/\w.cell? ⟨b,o+1,none⟩=some (.string (str e.text))/\w.cell? ⟨b,o+2,none⟩=some (.int .i64 e.st)/\w.cell? ⟨b,o+3,none⟩=some (.int .i64 e.lg) ∧
  w.cell? ⟨b,o+4,none⟩=some (.slice m.O e.rooms.length m.oc)/\w.cell? ⟨b,o+5,none⟩=some (.int .i64 e.r.fr)/\w.cell? ⟨b,o+6,none⟩=some (.int .i64 e.r.ev)/\w.cell? ⟨b,o+7,none⟩=some (.int .i64 e.r.ct)/\w.cell? ⟨b,o+8,none⟩=some (.int .i64 e.r.un) ∧
  w.cell? ⟨b,o+9,none⟩=some (.slice m.D e.r.ds.length m.dc)/\w.cell? ⟨b,o+10,none⟩=some (.slice m.M e.r.ms.length m.mc)/\w.cell? ⟨b,o+11,none⟩=some (.slice m.Y e.r.ys.length m.yc)/\w.cell? ⟨b,o+12,none⟩=some (.slice m.X e.ex.length m.xc) :=
 ⟨h.c 0 (by omega),h.c 1 (by omega),h.c 2 (by omega),h.c 3 (by omega),h.c 4 (by omega),h.c 5 (by omega),h.c 6 (by omega),h.c 7 (by omega),h.c 8 (by omega),h.c 9 (by omega),h.c 10 (by omega),h.c 11 (by omega),h.c 12 (by omega)⟩
theorem YI.grow {w w':World} {row:Option Nat} {b o:Nat} {e:Ev.E} {m:Mem} (h:YI w b o e m) (g:w.grownBy w' row) (hne:some b≠row):YI w' b o e m:=⟨fun j hj=>by
 have h1:=h.c j hj;have hlt:j<(E8 e m).length:=hj;rw [List.getElem?_eq_getElem hlt] at h1 ⊢;exact g.cell h1 hne⟩
theorem YI.keep {w w':World} {b o:Nat} {e:Ev.E} {m:Mem} (h:YI w b o e m) (hb:Below w.heap.size w w'):YI w' b o e m :=
 h.grow (row:=none) ⟨hb.os,hb.tape,hb.output,hb.size,fun i hi _=>hb.block i hi⟩ (by simp)
def GD (w:World) (A:Option Addr) (l:List EM):Prop :=
 l≠[]->∃ b off,A=some ⟨b,off,none⟩/\b<w.heap.size/\∀ i (h:i<l.length),YI w b (off+i*13) l[i].1 l[i].2
theorem GD.nil (w:World) (A:Option Addr):GD w A []:=fun h=>absurd rfl h
theorem GD.keep {w w1:World} {A:Option Addr} {l:List EM} (h:GD w A l) (hb:Below w.heap.size w w1):GD w1 A l:=fun hl=>by
 obtain ⟨b,off,e,hlt,hc⟩:=h hl;exact ⟨b,off,e,Nat.lt_of_lt_of_le hlt hb.size,fun i hi=>(hc i hi).grow (row:=none) ⟨hb.os,hb.tape,hb.output,hb.size,fun i hi _=>hb.block i hi⟩ (by simp)⟩
abbrev GP (w:World) (B:Nat) (v:Value) (l:List EM):Prop:=w.ownsRow B 47 13 v l.length (GC l)
theorem GP.row {w:World} {B:Nat} {v:Value} {l:List EM} (h:GP w B v l):∃ A cap,v=.slice A l.length cap/\GD w A l:=by
 have h2:=h.2;rcases h2 with ⟨rfl,hn⟩|⟨g,cap,cur,rfl,hb,hg,hnc,hcm,hcs,htake⟩
 ·refine ⟨none,0,by rw [hn],fun hl=>absurd (List.eq_nil_of_length_eq_zero hn) hl⟩
 ·refine ⟨some ⟨g,0,none⟩,cap,rfl,fun _=>⟨g,0,rfl,(h.lt g rfl).2,fun i hi=>⟨fun j hj=>?_⟩⟩⟩;have hc:=World.ownsRow.cells h (g:=g) rfl;have h1:=KU l i hi j hj;have hlt:j<(E8 l[i].1 l[i].2).length:=hj;rw [List.getElem?_eq_getElem hlt] at h1 ⊢;have g1:=hc _ _ h1;rw [plus] at g1;rw [Nat.zero_add];exact g1
theorem GP.keep {w w1:World} {B:Nat} {v:Value} {l:List EM} (h:GP w B v l) (hb:Below w.heap.size w w1):GP w1 B v l :=
 World.ownsRow.kept (row:=none) h ⟨hb.os,hb.tape,hb.output,hb.size,fun i hi _=>hb.block i hi⟩ (by cases v.ownBlock <;> simp)
theorem sF (w:World) (B:Nat):GP w B (.slice none 0 0) []:=World.ownsRow_nil _ _ _ _
theorem GP.low {w:World} {B B2:Nat} {v:Value} {l:List EM} (h:GP w B v l) (hb:B2<=B):GP w B2 v l:=by
 refine ⟨h.1,?_⟩;rcases h.2 with g|⟨g,cap,cur,e,hg,r⟩
 ·exact Or.inl g
 ·exact Or.inr ⟨g,cap,cur,e,Nat.le_trans hb hg,r⟩
theorem TR:(prog.info? 47).map (fun i=>(i.zero,i.size,i.bytes))=some (some BE,13,200):=by kernel_rfl
theorem zJ {ops:Array Oper} {rest:List Oper} {o:Oper} {a:Act} {Q:Exit->Act->World->Prop} {w:World} {B:Nat} {v:Value} {l:List EM} {e:Ev.E} {m:Mem} (hgd:o.guard=none) (s x:Operand)
  (ho:o.op=.call { callee:=.builtin .append,args:=#[s,x],argTypes:=#[22,22] }) (hs:a.eval s=v) {N:Nat} (hN:w.heap.size=N) (hx:a.eval x=.slice (some ⟨N,0,none⟩) 1 1)
  (hown:GP w B v l) (hB:B<=w.heap.size) (hn:l.length<=1000000)
  (h:∀ v' w',GP w' B v' (l++[(e,m)])->M1 v w v' w'->wpList prog ops Q rest (a.put o.dst v') w') :
  wpList prog ops Q (o :: rest) a (w.alloc (.cells (E8 e m).toArray 47)):=by
 subst hN;obtain ⟨i0,hi,hz0,hz1,hz2⟩:=info_parts TR;refine wpList_append_own_at _ hgd s x 22 ho B 47 i0 _ 13 200 underlying22 hi hz0 hz1 hz2 rfl (by decide) v l.length (GC l) hs (hown.alloc _) ⟨w.heap.size,0,none⟩ 1 1 (E8 e m) hx rfl ?_ ?_ ?_ ?_ ?_ ?_
 ·intro j u hu;rw [plus,World.cell?_alloc_at _ _ _ _ rfl];exact (by simpa using hu)
 ·exact TQ e m
 ·unfold maxLen;omega
 ·omega
 ·simp only [World.size_alloc];omega
 ·intro v' w' h2 h3 _ h5;refine h v' w' (by rw [GP,NT,z0J];exact (by simpa [GC] using h2)) ?_;refine ⟨?_,?_⟩
  ·exact ((World.grownBy_alloc _ _ _).trans h3)
  ·rcases h5 with h5|h5
   ·exact Or.inl h5
   ·exact Or.inr ⟨_,h5,by simp⟩
def KV (w:World) (l:List EM):Prop:=∀ p∈l,EvL w p.1 p.2
theorem KV.keep {w w':World} {l:List EM} (h:KV w l) (hb:Below w.heap.size w w'):KV w' l:=fun p hp=>(h p hp).keep hb
theorem sG (w:World):KV w []:=fun _ hp=>absurd hp List.not_mem_nil
def YJ {α:Type} (v:Value) (l:List α) (A:Option Addr):Prop:=l≠[]->∀ b o,A=some ⟨b,o,none⟩->some b≠v.ownBlock
structure bA (v:Value) (p:EM):Prop where
 o:YJ v p.1.rooms p.2.O
 d:YJ v p.1.r.ds p.2.D
 m:YJ v p.1.r.ms p.2.M
 y:YJ v p.1.r.ys p.2.Y
 x:YJ v p.1.ex p.2.X
def Offs (v:Value) (l:List EM):Prop:=∀ p∈l,bA v p
theorem sH (v:Value):Offs v []:=fun _ hp=>absurd hp List.not_mem_nil
theorem YJ.goes {α:Type} {v v':Value} {l:List α} {A:Option Addr} {w w':World} (h:YJ v l A) (g:M1 v w v' w') (hl:l≠[]->∀ b o,A=some ⟨b,o,none⟩->b<w.heap.size):YJ v' l A:=fun hn b o e=>by
 rcases g.own with k|⟨z,k,hz⟩
 ·rw [k];exact h hn b o e
 ·rw [k];intro q;injection q with q;have:=hl hn b o e;omega
theorem TS {v v':Value} {w w':World} {p:EM} (h:EvL w p.1 p.2) (f:bA v p) (g:M1 v w v' w'):EvL w' p.1 p.2/\bA v' p :=
 ⟨h.past g.grown f.o f.d f.m f.y f.x,f.o.goes g h.o.in,f.d.goes g h.r.d.in,f.m.goes g h.r.m.in,f.y.goes g h.r.y.in,f.x.goes g h.x.in⟩
theorem nC {v v':Value} {w w':World} {l:List EM} (h:KV w l) (f:Offs v l) (g:M1 v w v' w'):KV w' l/\Offs v' l :=
 ⟨fun p hp=>(TS (h p hp) (f p hp) g).1,fun p hp=>(TS (h p hp) (f p hp) g).2⟩
theorem FW {α:Type} {B:Nat} {v:Value} {l:List α} {A:Option Addr} (h:l≠[]->∀ g o,A=some ⟨g,o,none⟩->B<=g) (hv:∀ g,v.ownBlock=some g->g<B):YJ v l A:=fun hn b o e q=>by
 have h1:=h hn b o e;have h2:=hv b q.symm;omega
theorem WM {w:World} {B n c:Nat} {A:Option Addr} {l:List Wd} (h:DO w B (.slice A n c) l):∀ g o,A=some ⟨g,o,none⟩->B<=g:=fun g o e=>by
 subst e;exact (h.lt g rfl).1
theorem KY.off {w:World} {B:Nat} {v:Value} {e:Ev.E} {m:Mem} (h:KY w B e m) (hv:∀ g,v.ownBlock=some g->g<B):bA v (e,m) :=
 ⟨FW (fun _=>F5 h.o) hv,FW (fun _=>WM h.d) hv,FW (fun _=>F5 h.mm) hv,FW (fun _=>F5 h.y) hv,FW (fun _=>F5 h.x) hv⟩
def WA {α:Type} (B:Nat) (l:List α) (A:Option Addr):Prop:=l≠[]->∀ g o,A=some ⟨g,o,none⟩->B<=g
structure QF (B:Nat) (p:EM):Prop where
 o:WA B p.1.rooms p.2.O
 d:WA B p.1.r.ds p.2.D
 m:WA B p.1.r.ms p.2.M
 y:WA B p.1.r.ys p.2.Y
 x:WA B p.1.ex p.2.X
theorem WA.row {α:Type} {B c:Nat} {l:List α} {A:Option Addr} (h:WA B l A) (hc:c<B):l≠[]->∀ b o,A=some ⟨b,o,none⟩->some b≠some c:=fun hn b o e k=>by have:=h hn b o e;injection k with k;omega
theorem WA.down {α:Type} {B B2:Nat} {l:List α} {A:Option Addr} (h:WA B l A) (hb:B2<=B):WA B2 l A:=fun hn g o e=>Nat.le_trans hb (h hn g o e)
theorem QF.down {B B2:Nat} {p:EM} (h:QF B p) (hb:B2<=B):QF B2 p:=⟨h.o.down hb,h.d.down hb,h.m.down hb,h.y.down hb,h.x.down hb⟩
theorem QF.past {w w':World} {B c:Nat} {p:EM} (f:QF B p) (h:EvL w p.1 p.2) (g:w.grownBy w' (some c)) (hc:c<B):EvL w' p.1 p.2:=h.past g (f.o.row hc) (f.d.row hc) (f.m.row hc) (f.y.row hc) (f.x.row hc)
theorem QF.off {B:Nat} {v:Value} {p:EM} (h:QF B p) (hv:∀ g,v.ownBlock=some g->g<B):bA v p:=⟨FW h.o hv,FW h.d hv,FW h.m hv,FW h.y hv,FW h.x hv⟩
theorem KY.nD {w:World} {B:Nat} {e:Ev.E} {m:Mem} (h:KY w B e m):QF B (e,m) :=
 ⟨fun _=>F5 h.o,fun _=>WM h.d,fun _=>F5 h.mm,fun _=>F5 h.y,fun _=>F5 h.x⟩
structure M7 (w:World) (B:Nat) (v:Value) (l:List EM):Prop where
 own:GP w B v l
 ls:KV w l
 off:Offs v l
 far:∀ p∈l,QF B p
theorem M7.keep {w w1:World} {B:Nat} {v:Value} {l:List EM} (h:M7 w B v l) (hb:Below w.heap.size w w1):M7 w1 B v l:=⟨h.own.keep hb,h.ls.keep hb,h.off,h.far⟩
theorem M7.down {w:World} {B B2:Nat} {v:Value} {l:List EM} (h:M7 w B v l) (hb:B2<=B):M7 w B2 v l:=⟨h.own.low hb,h.ls,h.off,fun p hp=>(h.far p hp).down hb⟩
theorem P6 (w:World) (B:Nat):M7 w B (.slice none 0 0) []:=⟨sF w B,sG w,sH _,fun _ hp=>absurd hp List.not_mem_nil⟩
theorem M7.past {w w':World} {B c:Nat} {v:Value} {l:List EM} (h:M7 w B v l) (g:w.grownBy w' (some c)) (hc:c<B):M7 w' B v l :=
 ⟨World.ownsRow.kept h.own g (Or.inr fun e=>by have:=(h.own.lt c e).1;omega),fun p hp=>(h.far p hp).past (h.ls p hp) g hc,h.off,h.far⟩
theorem M7.more {w w':World} {B:Nat} {v v':Value} {l:List EM} {p:EM} (h:M7 w B v l) (hp:EvL w p.1 p.2) (hf:bA v p) (hl:QF B p) (ho:GP w' B v' (l++[p])) (g:M1 v w v' w'):M7 w' B v' (l++[p]):=by
 have h1:=nC h.ls h.off g;have h2:=TS hp hf g;refine ⟨ho,fun q hq=>?_,fun q hq=>?_,fun q hq=>?_⟩
 ·rcases List.mem_append.1 hq with k|k
  ·exact h1.1 q k
  ·rw [List.mem_singleton] at k;subst k;exact h2.1
 ·rcases List.mem_append.1 hq with k|k
  ·exact h1.2 q k
  ·rw [List.mem_singleton] at k;subst k;exact h2.2
 ·rcases List.mem_append.1 hq with k|k
  ·exact h.far q k
  ·rw [List.mem_singleton] at k;subst k;exact hl
def YK (t:Tx):Lit:=.string t
abbrev nE (us:List Tx):DataW Unit:=Maps.setOf (.agg []) (us.map YK)
abbrev P7 (w:World) (b:Nat) (us:List Tx):Prop:=w.ownsMap prog 9 unitElem b us.length (nE us)
theorem kT:Maps.Keyed prog 9:=Maps.string_keyed underlying9
theorem zK (t:Tx) (h:t.length<=1000000):keyOf prog 9 (.string (str t))=some (YK t):=by
 have:=WideMaps.keyOf_string_mk (k:=9) underlying9 (s:=str t) (by rw [AB];unfold maxLen;omega);rw [AD] at this;exact this
theorem kU (x:Tx):∀ l:List Tx,(l.map YK).any (fun y=>y.sameKey (YK x))=decide (x∈l)
 | []=>by simp
 | a :: r=>by
  rw [List.map_cons,List.any_cons,kU x r];have h1:(YK a).sameKey (YK x)=decide (a=x):=AO a x;rw [h1]
  by_cases e:x=a
  ·subst e;simp
  ·have e2:¬ a=x:=fun h=>e h.symm
   simp [e,e2]
theorem sI (us:List Tx) (t:Tx):Maps.has (nE us) (YK t)=decide (t∈us):=by
 rw [Maps.has_setOf _ _ _ (fun y hy=>by obtain ⟨_,_,rfl⟩:=List.mem_map.1 hy;trivial)];exact kU t us
theorem sJ (us:List Tx) (t:Tx):(nE us).put (YK t) (.agg [])=nE (us++[t]):=by
 unfold nE;rw [List.map_append,List.map_singleton,Maps.setOf_snoc]
theorem bB (w:World):P7 (w.alloc (.map #[] 0)) w.heap.size []:=World.ownsMap_made _ _ _ _
theorem P7.keep {w w1:World} {b:Nat} {us:List Tx} (h:P7 w b us) (hb:Below w.heap.size w w1):P7 w1 b us :=
 World.ownsMap.kept (row:=none) h ⟨hb.os,hb.tape,hb.output,hb.size,fun i hi _=>hb.block i hi⟩ (by simp)
theorem nF (e:Ev.E) (hI:Ev.Is e):∀ p∈Ev.items unU e,p.1.length<=100/\p.2.length<=7500:=by
 have h1:=Ev.PT hI.uid;have h2:=Ev.R7 hI.text;have h3:=hI.lg;rw [Ev.lgB,AY] at h3;have hlg:EX e.lg:=by unfold EX;omega
 have h4:=(Ev.FK _).1 hI.rooms;have hro:∀ x∈e.rooms,EX x:=fun x hx=>by
  have:=h4.2.1 x hx;rw [Ev.CO,AY] at this;unfold EX;omega
 have h5:=(Ev.Z7 _).1 hI.ex;have h41:=h4.1;have h51:=h5.1;have l1:=Lib.itoa_length_le e.lg hlg.1 hlg.2;have l2:=IL e.st;have l3:=tW e.r;have l4:=FA AZ 15 e.ex fun x _=>IL x
 have l5:=FA Lib.itoa 30 e.rooms fun x hx=>Nat.le_trans (Lib.itoa_length_le x (hro x hx).1 (hro x hx).2) (by omega)
 have l6:=Fo.PJ e.text;have l7:(Ev.wPT++Lib.itoa e.lg++[77]).length<=200:=by simp only [z0J,Ev.wPT,List.length_cons,List.length_nil];omega
 have hit:Ev.items unU e=[(Ev.AP,Ev.wEV),(Ev.ER,e.uid),(Ev.BR,AZ e.st),(Ev.CQ,Ev.wPT++Lib.itoa e.lg++[77]),(Ev.DG,DU unU e.r),(Ev.nEX,AR AZ e.ex),(Ev.BP,AR Lib.itoa e.rooms),(Ev.DH,Fo.DV e.text),(Ev.DD,Ev.wEV)]:=rfl;intro p hp;rw [hit] at hp;simp only [List.mem_cons,List.not_mem_nil,or_false] at hp;rcases hp with rfl|rfl|rfl|rfl|rfl|rfl|rfl|rfl|rfl
 ·exact ⟨by decide,by decide⟩
 ·exact ⟨by simp only;decide,by simp only;omega⟩
 ·exact ⟨by simp only;decide,by simp only;omega⟩
 ·exact ⟨by simp only;decide,by simp only;omega⟩
 ·exact ⟨by simp only;decide,by simp only;omega⟩
 ·exact ⟨by simp only;decide,by simp only;omega⟩
 ·exact ⟨by simp only;decide,by simp only;omega⟩
 ·exact ⟨by simp only;decide,by simp only;omega⟩
 ·exact ⟨by decide,by decide⟩
theorem QG (e:Ev.E):(∀ p∈Ev.BL unU e,p.length<=7700)/\(Ev.BL unU e).length<=9:=by
 cases hi:Ev.isE e with
 | false=>unfold Ev.BL;rw [if_neg (by rw [hi];decide)];exact ⟨fun p hp=>absurd hp List.not_mem_nil,by decide⟩
 | true =>
  unfold Ev.BL;rw [if_pos hi];refine ⟨fun p hp=>?_,?_⟩
  ·obtain ⟨q,hq,rfl⟩:=List.mem_map.1 hp;have:=nF e ((Ev.N7 e).1 hi) q ((List.mem_filter.1 hq).1);simp only [Ev.CZ,z0J,List.length_cons];omega
  ·unfold Ev.wri;rw [List.length_map];exact Nat.le_trans (List.length_filter_le _ _) (by simp [Ev.items])
theorem J7 (N:Nat):∀ l:List Tx,(∀ p∈l,p.length<=N)->(Fo.flat l).length<=l.length*(2*N+6)
 | [],_=>by simp [Fo.flat]
 | s :: l,h=>by
  have h1:=J7 N l fun p hp=>h p (List.mem_cons_of_mem _ hp)
  have h2:=h s List.mem_cons_self;have h3:=Fo.N4 s;have h4:Fo.crlf.length=2:=rfl;rw [Fo.flat,z0J,z0J,List.length_cons,Nat.add_mul,Nat.one_mul];omega
theorem J8:∀ l k:List Tx,Fo.flat (l++k)=Fo.flat l++Fo.flat k
 | [],k=>rfl
 | s :: l,k=>by rw [List.cons_append,Fo.flat,J8 l k,Fo.flat];simp [List.append_assoc]
theorem YL (e:Ev.E):(Fo.flat (Ev.BL unU e)).length<=139000:=by
 have h:=QG e;have h1:=J7 7700 _ h.1;have h2:(Ev.BL unU e).length*(2*7700+6)<=9*(2*7700+6):=Nat.mul_le_mul_right _ h.2;omega
def upC (l:List Ev.E):Tx:=Fo.flat (Ca.IN :: Ca.SS :: Ca.JY unU l)
theorem zL:upC []=Fo.flat [Ca.IN,Ca.SS]:=rfl
theorem bC (l:List Ev.E) (e:Ev.E):upC (l++[e])=upC l++Fo.flat (Ev.BL unU e):=by
 unfold upC Ca.JY;rw [List.flatMap_append,List.flatMap_singleton,<- List.cons_append,<- List.cons_append,J8]
theorem TT (l:List Ev.E):Ca.CK unU l=upC l++Fo.flat [Ca.RA]:=by
 unfold Ca.CK Ca.RC upC;rw [<- List.cons_append,<- List.cons_append,J8]
theorem A1X (l k:List Ev.E):(upC l).length<=(Ca.CK unU (l++k)).length:=by
 have h:Ca.CK unU (l++k)=upC l++(Fo.flat (Ca.JY unU k)++Fo.flat [Ca.RA]):=by
  rw [TT];unfold upC Ca.JY;rw [List.flatMap_append,<- List.cons_append,<- List.cons_append,J8,List.append_assoc]
 rw [h,z0J];omega
theorem bD {w:World} {b o:Nat} {l:List Tx} (h:BU w (some ⟨b,o,none⟩) l) (k:Nat):BU w (some ⟨b,o+k,none⟩) (l.drop k):=fun hn=>by
 obtain ⟨b1,off,e,hl,hc⟩:=h (fun e=>hn (by rw [e];simp));injection e with e;injection e with e1 e2;subst e1 e2;refine ⟨b,o+k,rfl,hl,fun i hi=>?_⟩;rw [List.length_drop] at hi;have:=hc (k+i) (by omega);rw [Nat.add_assoc,this,List.getElem_drop]
theorem WN (w:World) (t:TypeId) (l:List Tx):BU (w.alloc (.cells (FV l).toArray t)) (some ⟨w.heap.size,0,none⟩) l:=fun _=>by
 refine ⟨w.heap.size,0,rfl,by simp,fun i hi=>?_⟩;rw [World.cell?_alloc_at _ _ _ _ rfl,Nat.zero_add];simp [FV,hi]
def AN:Ev.E:=⟨[97],[],90,60,[3],once,[]⟩
theorem TU:Ev.isE AN=true:=by decide +kernel
theorem sK:Ca.okC [AN]=true:=(Ca.PV _).2 ⟨fun e he=>by rw [List.mem_singleton] at he;subst he;exact TU,by simp [Ca.CB]⟩
theorem bE:Ca.okC [AN,AN]=false:=by
 cases h:Ca.okC [AN,AN] with
 | false=>rfl
 | true=>exact absurd ((Ca.PV _).1 h).2 (by simp [Ca.CB])
theorem RP:(Ev.BL unU AN).length=6/\(Ev.BL unU AN).all (fun p=>decide (p.length<=100))=true:=by decide +kernel
theorem WO:(Ca.RC unU [AN]).length=9:=by
 have h:Ca.JY unU [AN]=Ev.BL unU AN:=by unfold Ca.JY;rw [List.flatMap_singleton]
 unfold Ca.RC;rw [h];simp [RP.1]
theorem M8:(Ca.CK unU [AN]).length<=8000:=by
 have h:Ca.JY unU [AN]=Ev.BL unU AN:=by unfold Ca.JY;rw [List.flatMap_singleton]
 have h1:=J7 100 (Ca.RC unU [AN]) fun p hp=>by
  unfold Ca.RC at hp;rw [h] at hp;rcases List.mem_cons.1 hp with rfl|hp
  ·decide
  rcases List.mem_cons.1 hp with rfl|hp
  ·decide
  rcases List.mem_append.1 hp with hp|hp
  ·simpa using List.all_eq_true.1 RP.2 p hp
  ·rw [List.mem_singleton] at hp;subst hp;decide
 rw [WO] at h1;unfold Ca.CK;omega
theorem bF:Ca.FB unU [AN]=(Ca.CK unU [AN],0):=by
 unfold Ca.FB;have:=M8;rw [if_pos sK,if_neg (by omega)]
theorem YM:Ca.FB unU [AN,AN]=([],14):=by
 unfold Ca.FB;rw [bE,if_neg (by decide)]
theorem zM {y m d h i n:Int} (e:IJ y m d h i=(n,0)):0<=n/\n<52596000:=by
 unfold IJ at e
 cases hb:Cal.isB y m d
 ·rw [Q0 y m d hb] at e;simp at e
 ·by_cases hy:y<2000∨2099<y
  ·rw [LD y m d hb hy] at e;simp at e
  ·rw [RE y m d hb (by omega) (by omega)] at e;have hn:=Cal.u9 y m d (by omega) (by omega) hb;simp only [if_true] at e
   cases ht:XS h i
   ·rw [ht] at e;simp at e
   ·rw [ht] at e;simp only [if_true,Prod.mk.injEq,and_true] at e;have:=(J5 h i).1 ht;omega
theorem sL (l:Tx) (n:Int) (h:BZ l=(n,0)):0<=n/\n<52596000:=by
 unfold BZ at h
 split at h
 ·exact zM h
 ·simp at h
theorem sM:Ev.Good unU where
 comma v n h:=KT v (mU v n h) 44 (by decide) (by decide)
 range v n h:=by
  have h':unE v=some n:=h;unfold unE at h'
  split at h'
  ·rename_i h0
   injection h' with h';exact sL v n (Prod.ext h' h0)
  ·cases h'
 free n:=by
  by_cases h:0<=n/\n<52596000
  ·exact KT _ (Y9 n h.1 h.2) 44 (by decide) (by decide)
  ·have:AZ n=[]:=if_neg h
   show (44:UInt8)∉AZ n
   rw [this];simp
end Go.Proofs.YtfecnkhoojnkbaaGreatDoor

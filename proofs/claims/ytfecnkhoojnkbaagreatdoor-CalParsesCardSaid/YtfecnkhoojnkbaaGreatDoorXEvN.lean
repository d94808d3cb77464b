import Derived.Test.YtfecnkhoojnkbaaGreatDoorXW12
set_option maxHeartbeats 8000000
set_option maxRecDepth 1000000
namespace Go.Proofs.YtfecnkhoojnkbaaGreatDoor
open Go.RowKit Rul Rt Go.Sort Tryz
theorem zV (T1 T2 T3 T4 T5 T6 T7:Tx) (w:World):(Instr.buildSlice 125 9 #[(0,.agg #[.string ⟨#[66,69,71,73,78]⟩,.string ⟨#[86,69,86,69,78,84]⟩]),(1,.agg #[.string ⟨#[85,73,68]⟩,.string (str T1)]),(2,.agg #[.string ⟨#[68,84,83,84,65,82,84]⟩,.string (str T2)]),(3,.agg #[.string ⟨#[68,85,82,65,84,73,79,78]⟩,.string (str T3)]),(4,.agg #[.string ⟨#[82,82,85,76,69]⟩,.string (str T4)]),(5,.agg #[.string ⟨#[69,88,68,65,84,69]⟩,.string (str T5)]),(6,.agg #[.string ⟨#[88,45,82,79,79,77,83]⟩,.string (str T6)]),(7,.agg #[.string ⟨#[83,85,77,77,65,82,89]⟩,.string (str T7)]),(8,.agg #[.string ⟨#[69,78,68]⟩,.string ⟨#[86,69,86,69,78,84]⟩])]).run prog w=.ok (.slice (some ⟨w.heap.size,0,none⟩) 9 9) (w.alloc (.cells #[.string ⟨#[66,69,71,73,78]⟩,.string ⟨#[86,69,86,69,78,84]⟩,.string ⟨#[85,73,68]⟩,.string (str T1),.string ⟨#[68,84,83,84,65,82,84]⟩,.string (str T2),.string ⟨#[68,85,82,65,84,73,79,78]⟩,.string (str T3),.string ⟨#[82,82,85,76,69]⟩,.string (str T4),.string ⟨#[69,88,68,65,84,69]⟩,.string (str T5),.string ⟨#[88,45,82,79,79,77,83]⟩,.string (str T6),.string ⟨#[83,85,77,77,65,82,89]⟩,.string (str T7),.string ⟨#[69,78,68]⟩,.string ⟨#[86,69,86,69,78,84]⟩] 102)):=by kernel_rfl
theorem rowP9 (T1 T2 T3 T4 T5 T6 T7:Tx) (w:World) (t:TypeId):RowP (w.alloc (.cells #[.string ⟨#[66,69,71,73,78]⟩,.string ⟨#[86,69,86,69,78,84]⟩,.string ⟨#[85,73,68]⟩,.string (str T1),.string ⟨#[68,84,83,84,65,82,84]⟩,.string (str T2),.string ⟨#[68,85,82,65,84,73,79,78]⟩,.string (str T3),.string ⟨#[82,82,85,76,69]⟩,.string (str T4),.string ⟨#[69,88,68,65,84,69]⟩,.string (str T5),.string ⟨#[88,45,82,79,79,77,83]⟩,.string (str T6),.string ⟨#[83,85,77,77,65,82,89]⟩,.string (str T7),.string ⟨#[69,78,68]⟩,.string ⟨#[86,69,86,69,78,84]⟩] t)) (some ⟨w.heap.size,0,none⟩) [(Ev.AP,Ev.wEV),(Ev.ER,T1),(Ev.BR,T2),(Ev.CQ,T3),(Ev.DG,T4),(Ev.nEX,T5),(Ev.BP,T6),(Ev.DH,T7),(Ev.DD,Ev.wEV)]:=fun _=>by
 refine ⟨w.heap.size,0,rfl,by simp,fun i hi=>?_⟩;have hi9:i<9:=hi;rw [World.cell?_alloc_at _ _ _ _ rfl,World.cell?_alloc_at _ _ _ _ rfl];rcases (by omega:i=0∨i=1∨i=2∨i=3∨i=4∨i=5∨i=6∨i=7∨i=8) with rfl|rfl|rfl|rfl|rfl|rfl|rfl|rfl|rfl <;> exact ⟨rfl,rfl⟩
theorem tW (r:T):(DU unU r).length<=7007:=by
 cases hi:isB r with
 | false=>rw [QA _ _ (Or.inl hi)];simp
 | true =>
  cases hs:C9 r once with
  | true=>rw [QA _ _ (Or.inr hs)];simp
  | false =>
   have k:=FP (uH hi (fun e=>by rw [(EH _ _).2 e] at hs;cases hs));have k1:=k.f1;obtain ⟨ws,hbk⟩:=xR r hi (by omega);rw [hbk.text];have h1:=Q6 59 1000 ws hbk.len;have h2:ws.length*(1000+1)<=7*(1000+1):=Nat.mul_le_mul_right _ hbk.le;omega
structure YU (w:World) (e:Ev.E) (m:Mem) (W:World):Prop where
 tab:Tab W
 l:EvL W e m
 below:Below w.heap.size w W
theorem EV {w W W1:World} {e:Ev.E} {m:Mem} {U T:ByteArray} {s l fr ev ct un:Int} {O D M Y X:Option Addr} {oc dc mc yc xc:Nat} {o ms ys x:List Int} {ds:List Wd} (hb:Below W.heap.size W W1) (h:W.cell? ⟨w.heap.size,0,none⟩=some (.string U)/\W.cell? ⟨w.heap.size,1,none⟩=some (.string T)/\W.cell? ⟨w.heap.size,2,none⟩=some (.int .i64 s)/\W.cell? ⟨w.heap.size,3,none⟩=some (.int .i64 l)/\W.cell? ⟨w.heap.size,4,none⟩=some (.slice O o.length oc)/\W.cell? ⟨w.heap.size,5,none⟩=some (.int .i64 fr)/\W.cell? ⟨w.heap.size,6,none⟩=some (.int .i64 ev)/\W.cell? ⟨w.heap.size,7,none⟩=some (.int .i64 ct)/\W.cell? ⟨w.heap.size,8,none⟩=some (.int .i64 un)/\W.cell? ⟨w.heap.size,9,none⟩=some (.slice D ds.length dc)/\W.cell? ⟨w.heap.size,10,none⟩=some (.slice M ms.length mc)/\W.cell? ⟨w.heap.size,11,none⟩=some (.slice Y ys.length yc)/\W.cell? ⟨w.heap.size,12,none⟩=some (.slice X x.length xc)/\YU w e m W):W1.cell? ⟨w.heap.size,0,none⟩=some (.string U)/\W1.cell? ⟨w.heap.size,1,none⟩=some (.string T)/\W1.cell? ⟨w.heap.size,2,none⟩=some (.int .i64 s)/\W1.cell? ⟨w.heap.size,3,none⟩=some (.int .i64 l)/\W1.cell? ⟨w.heap.size,4,none⟩=some (.slice O o.length oc)/\W1.cell? ⟨w.heap.size,5,none⟩=some (.int .i64 fr)/\W1.cell? ⟨w.heap.size,6,none⟩=some (.int .i64 ev)/\W1.cell? ⟨w.heap.size,7,none⟩=some (.int .i64 ct)/\W1.cell? ⟨w.heap.size,8,none⟩=some (.int .i64 un)/\W1.cell? ⟨w.heap.size,9,none⟩=some (.slice D ds.length dc)/\W1.cell? ⟨w.heap.size,10,none⟩=some (.slice M ms.length mc)/\W1.cell? ⟨w.heap.size,11,none⟩=some (.slice Y ys.length yc)/\W1.cell? ⟨w.heap.size,12,none⟩=some (.slice X x.length xc)/\YU w e m W1:=by
 obtain ⟨c0,c1,c2,c3,c4,c5,c6,c7,c8,c9,c10,c11,c12,h1,h2,h3⟩:=h;exact ⟨A9 hb c0,A9 hb c1,A9 hb c2,A9 hb c3,A9 hb c4,A9 hb c5,A9 hb c6,A9 hb c7,A9 hb c8,A9 hb c9,A9 hb c10,A9 hb c11,A9 hb c12,h1.below hb (Nat.le_refl _),h2.keep hb,andthen h3 hb⟩
theorem A23 (A:Option Addr) (n c:Nat) (l:List (Tx×Tx)) (w:World) (hl:RowP w A l) (hn:n=l.length) (hsz:l.length<=1000) (hb:∀ p∈l,p.1.length<=1000/\p.2.length<=90000) :
  Calls prog 56 #[.slice A n c] w fun e w'=>∃ v,e=.returned v/\BY w' w.heap.size v (Ev.wri l)/\Below w.heap.size w w':=ZO A n c l w hl hn hsz hb
set_option linter.unusedSimpArgs false in
theorem iG (e:Ev.E) (m:Mem) (w:World) (h:EvL w e m) (ht:Tab w) (hi:Ev.isE e=true) (T:ByteArray) (s l fr ev ct un:Int) (O D M Y X:Option Addr) (oc dc mc yc xc:Nat) (o ms ys x:List Int) (ds:List Wd)
  (T1 T2 TI T4 T5 T6 T7:Tx) (LS:List Tx) (hv:evV e m=.agg #[.string (str T1),.string T,.int .i64 s,.int .i64 l,.slice O o.length oc,.int .i64 fr,.int .i64 ev,.int .i64 ct,.int .i64 un,.slice D ds.length dc,.slice M ms.length mc,.slice Y ys.length yc,.slice X x.length xc])
  (hc2:∀ w,Tab w->Calls prog 57 #[.int .i64 s] w (Ans w (.string (str T2))))
  (hc3:∀ w,Tab w->Calls prog 58 #[.int .i64 l] w (Ans w (.string (str TI))))
  (hc4:∀ w,EvL w e m->Tab w->Calls prog 59 #[.agg #[.int .i64 fr,.int .i64 ev,.int .i64 ct,.int .i64 un,.slice D ds.length dc,.slice M ms.length mc,.slice Y ys.length yc]] w (Ans w (.string (str T4))))
  (hc5:∀ w,EvL w e m->Tab w->Calls prog 60 #[.func (.func 57) #[] #[],.slice X x.length xc] w (Ans w (.string (str T5))))
  (hc6:∀ w,EvL w e m->Tab w->Calls prog 60 #[.func (.func 58) #[] #[],.slice O o.length oc] w (Ans w (.string (str T6))))
  (hc7:∀ w,Calls prog 61 #[.string T] w (Ans w (.string (str T7)))) (hti:TI.length<=100)
  (hbd:∀ T3,T3=Ev.wPT++TI++[77]->∀ p∈[(Ev.AP,Ev.wEV),(Ev.ER,T1),(Ev.BR,T2),(Ev.CQ,T3),(Ev.DG,T4),(Ev.nEX,T5),(Ev.BP,T6),(Ev.DH,T7),(Ev.DD,Ev.wEV)],p.1.length<=1000/\p.2.length<=90000) (hp:∀ T3,T3=Ev.wPT++TI++[77]->LS=Ev.wri [(Ev.AP,Ev.wEV),(Ev.ER,T1),(Ev.BR,T2),(Ev.CQ,T3),(Ev.DG,T4),(Ev.nEX,T5),(Ev.BP,T6),(Ev.DH,T7),(Ev.DD,Ev.wEV)]) :
  Calls prog 31 #[evV e m] w (K6 w LS):=by
 rw [hv];have HIS:=A5 (fun w h=>(hi▸mK e m w h:Calls prog 26 #[evV e m] w (Ans w (.bool true))));rw [hv] at HIS;obtain ⟨T3,h3⟩:∃ T3,T3=Ev.wPT++TI++[77]:=⟨_,rfl⟩;have HC2:=A5 hc2;have HC3:=A5 hc3;have HC4:=A5 hc4;have HC5:=A5 hc5;have HC6:=A5 hc6;have HC7:=A5 hc7;have HBD:=A5 (hbd T3 h3);have HP:=A5 (hp T3 h3);have q3:(⟨#[80,84]⟩:ByteArray)++str TI++(⟨#[77]⟩:ByteArray)=str T3:=by rw [h3,show (⟨#[80,84]⟩:ByteArray)=str Ev.wPT from rfl,show (⟨#[77]⟩:ByteArray)=str [77] from rfl,AM,AM]
 have q4:((⟨#[80,84]⟩:ByteArray)++str TI).size<=200:=by rw [show (⟨#[80,84]⟩:ByteArray)=str Ev.wPT from rfl,AM,AB,z0J];simp only [Ev.wPT,List.length_cons,List.length_nil];omega
 have q5:(str TI).size<=200:=by rw [AB];omega
 have hbs:=zV T1 T2 T3 T4 T5 T6 T7;have hbox:=more (start w) (.cells #[.string (str T1),.string T,.int .i64 s,.int .i64 l,.slice O o.length oc,.int .i64 fr,.int .i64 ev,.int .i64 ct,.int .i64 un,.slice D ds.length dc,.slice M ms.length mc,.slice Y ys.length yc,.slice X x.length xc] 47);have HLB:=A5 (h.keep hbox);have HTB:=A5 (ht.below hbox (Nat.le_refl _));have HBX:=A5 hbox;have hAC:∀ i v,(#[.string (str T1),.string T,.int .i64 s,.int .i64 l,.slice O o.length oc,.int .i64 fr,.int .i64 ev,.int .i64 ct,.int .i64 un,.slice D ds.length dc,.slice M ms.length mc,.slice Y ys.length yc,.slice X x.length xc]:Array Value)[i]?=some v->(w.alloc (.cells #[.string (str T1),.string T,.int .i64 s,.int .i64 l,.slice O o.length oc,.int .i64 fr,.int .i64 ev,.int .i64 ct,.int .i64 un,.slice D ds.length dc,.slice M ms.length mc,.slice Y ys.length yc,.slice X x.length xc] 47)).cell? ⟨w.heap.size,i,none⟩=some v:=fun i v h=>by rw [World.cell?_alloc_at _ _ _ _ rfl];exact h
 have s0:=hAC 0 _ rfl;have s1:=hAC 1 _ rfl;have s2:=hAC 2 _ rfl;have s3:=hAC 3 _ rfl;have s4:=hAC 4 _ rfl;have s5:=hAC 5 _ rfl;have s6:=hAC 6 _ rfl;have s7:=hAC 7 _ rfl;have s8:=hAC 8 _ rfl;have s9:=hAC 9 _ rfl;have s10:=hAC 10 _ rfl;have s11:=hAC 11 _ rfl;have s12:=hAC 12 _ rfl;clear hAC;clear h ht hi hv hc2 hc3 hc4 hc5 hc6 hc7 hbd hp hbox h3;go_enter func31,ntmps31;go_wp2_with fail;refine (HIS.out _ HLB.out).mono ?_;rintro e1 w1 ⟨rfl,hb⟩;replace s0:=A9 hb s0;replace s1:=A9 hb s1;replace s2:=A9 hb s2;replace s3:=A9 hb s3;replace s4:=A9 hb s4;replace s5:=A9 hb s5;replace s6:=A9 hb s6;replace s7:=A9 hb s7;replace s8:=A9 hb s8;replace s9:=A9 hb s9;replace s10:=A9 hb s10;replace s11:=A9 hb s11;replace s12:=A9 hb s12;replace HLB:=A5 (HLB.out.keep hb);replace HTB:=A5 (HTB.out.below hb (Nat.le_refl _));replace HBX:=A5 (andthen HBX.out hb);clear hb HIS;go_wp2_with fail;have hS:w1.cell? ⟨w.heap.size,0,none⟩=some (.string (str T1))/\w1.cell? ⟨w.heap.size,1,none⟩=some (.string T)/\w1.cell? ⟨w.heap.size,2,none⟩=some (.int .i64 s)/\w1.cell? ⟨w.heap.size,3,none⟩=some (.int .i64 l)/\w1.cell? ⟨w.heap.size,4,none⟩=some (.slice O o.length oc)/\w1.cell? ⟨w.heap.size,5,none⟩=some (.int .i64 fr)/\w1.cell? ⟨w.heap.size,6,none⟩=some (.int .i64 ev)/\w1.cell? ⟨w.heap.size,7,none⟩=some (.int .i64 ct)/\w1.cell? ⟨w.heap.size,8,none⟩=some (.int .i64 un)/\w1.cell? ⟨w.heap.size,9,none⟩=some (.slice D ds.length dc)/\w1.cell? ⟨w.heap.size,10,none⟩=some (.slice M ms.length mc)/\w1.cell? ⟨w.heap.size,11,none⟩=some (.slice Y ys.length yc)/\w1.cell? ⟨w.heap.size,12,none⟩=some (.slice X x.length xc)/\YU w e m w1:=⟨s0,s1,s2,s3,s4,s5,s6,s7,s8,s9,s10,s11,s12,HTB.out,HLB.out,HBX.out⟩;clear s0 s1 s2 s3 s4 s5 s6 s7 s8 s9 s10 s11 s12 HTB HLB HBX;refine wp_region_held_drew (S:=(fun w'=>w'.cell? ⟨w.heap.size,0,none⟩=some (.string (str T1))/\w'.cell? ⟨w.heap.size,1,none⟩=some (.string T)/\w'.cell? ⟨w.heap.size,2,none⟩=some (.int .i64 s)/\w'.cell? ⟨w.heap.size,3,none⟩=some (.int .i64 l)/\w'.cell? ⟨w.heap.size,4,none⟩=some (.slice O o.length oc)/\w'.cell? ⟨w.heap.size,5,none⟩=some (.int .i64 fr)/\w'.cell? ⟨w.heap.size,6,none⟩=some (.int .i64 ev)/\w'.cell? ⟨w.heap.size,7,none⟩=some (.int .i64 ct)/\w'.cell? ⟨w.heap.size,8,none⟩=some (.int .i64 un)/\w'.cell? ⟨w.heap.size,9,none⟩=some (.slice D ds.length dc)/\w'.cell? ⟨w.heap.size,10,none⟩=some (.slice M ms.length mc)/\w'.cell? ⟨w.heap.size,11,none⟩=some (.slice Y ys.length yc)/\w'.cell? ⟨w.heap.size,12,none⟩=some (.slice X x.length xc)/\YU w e m w')) (by kernel_rfl) ?_ (fun hH0=>?_)
 ·exact EV (Below.drew (start _)) hS
 refine' z0L (i:=0) (v:=?v0) rfl (by kernel_rfl) (by kernel_rfl) (by kernel_rfl) ?y0 hH0 ?r0
 case y0=>(intro w hSw;(try dsimp only at hSw);go_simp;(try with_reducible rfl))
 try simp only [Act.put,z0A,z0B,z0C,z0D,z0E,z0F]
 refine' z0L (i:=1) (v:=?v1) rfl (by kernel_rfl) (by kernel_rfl) (by kernel_rfl) ?y1 hH0 ?r1
 case y1=>(intro w hSw;(try dsimp only at hSw);go_simp;(try with_reducible rfl))
 try simp only [Act.put,z0A,z0B,z0C,z0D,z0E,z0F]
 refine' z0L (i:=2) (v:=?v2) rfl (by kernel_rfl) (by kernel_rfl) (by kernel_rfl) ?y2 hH0 ?r2
 case y2=>(intro w hSw;(try dsimp only at hSw);go_simp;(try with_reducible rfl))
 try simp only [Act.put,z0A,z0B,z0C,z0D,z0E,z0F]
 refine' z0L (i:=3) (v:=?v3) rfl (by kernel_rfl) (by kernel_rfl) (by kernel_rfl) ?y3 hH0 ?r3
 case y3=>(intro w hSw;(try dsimp only at hSw);go_simp;(try with_reducible rfl))
 try simp only [Act.put,z0A,z0B,z0C,z0D,z0E,z0F]
 refine' z0L (i:=4) (v:=?v4) rfl (by kernel_rfl) (by kernel_rfl) (by kernel_rfl) ?y4 hH0 ?r4
 case y4=>(intro w hSw;(try dsimp only at hSw);go_simp;(try with_reducible rfl))
 try simp only [Act.put,z0A,z0B,z0C,z0D,z0E,z0F]
 refine' z0L (i:=5) (v:=?v5) rfl (by kernel_rfl) (by kernel_rfl) (by kernel_rfl) ?y5 hH0 ?r5
 case y5=>(intro w hSw;(try dsimp only at hSw);go_simp;(try with_reducible rfl))
 try simp only [Act.put,z0A,z0B,z0C,z0D,z0E,z0F]
 refine' z0L (i:=8) (v:=?v6) rfl (by kernel_rfl) (by kernel_rfl) (by kernel_rfl) ?y6 hH0 ?r6
 case y6=>(intro w hSw;(try dsimp only at hSw);go_simp;(try with_reducible rfl))
 try simp only [Act.put,z0A,z0B,z0C,z0D,z0E,z0F]
 refine' z0L (i:=9) (v:=?v7) rfl (by kernel_rfl) (by kernel_rfl) (by kernel_rfl) ?y7 hH0 ?r7
 case y7=>(intro w hSw;(try dsimp only at hSw);go_simp;(try with_reducible rfl))
 try simp only [Act.put,z0A,z0B,z0C,z0D,z0E,z0F]
 refine' z0L (i:=14) (v:=?v8) rfl (by kernel_rfl) (by kernel_rfl) (by kernel_rfl) ?y8 hH0 ?r8
 case y8=>(intro w hSw;(try dsimp only at hSw);go_simp;(try with_reducible rfl))
 try simp only [Act.put,z0A,z0B,z0C,z0D,z0E,z0F]
 refine' z0L (i:=15) (v:=?v9) rfl (by kernel_rfl) (by kernel_rfl) (by kernel_rfl) ?y9 hH0 ?r9
 case y9=>(intro w hSw;(try dsimp only at hSw);go_simp;(try with_reducible rfl))
 try simp only [Act.put,z0A,z0B,z0C,z0D,z0E,z0F]
 refine' z0L (i:=18) (v:=?v10) rfl (by kernel_rfl) (by kernel_rfl) (by kernel_rfl) ?y10 hH0 ?r10
 case y10=>(intro w hSw;(try dsimp only at hSw);go_simp;(try with_reducible rfl))
 try simp only [Act.put,z0A,z0B,z0C,z0D,z0E,z0F]
 refine' z0L (i:=19) (v:=?v11) rfl (by kernel_rfl) (by kernel_rfl) (by kernel_rfl) ?y11 hH0 ?r11
 case y11=>(intro w hSw;(try dsimp only at hSw);go_simp;(try with_reducible rfl))
 try simp only [Act.put,z0A,z0B,z0C,z0D,z0E,z0F]
 refine' z0L (i:=22) (v:=?v12) rfl (by kernel_rfl) (by kernel_rfl) (by kernel_rfl) ?y12 hH0 ?r12
 case y12=>(intro w hSw;(try dsimp only at hSw);go_simp;(try with_reducible rfl))
 try simp only [Act.put,z0A,z0B,z0C,z0D,z0E,z0F]
 refine' z0L (i:=23) (v:=?v13) rfl (by kernel_rfl) (by kernel_rfl) (by kernel_rfl) ?y13 hH0 ?r13
 case y13=>(intro w hSw;(try dsimp only at hSw);go_simp;(try with_reducible rfl))
 try simp only [Act.put,z0A,z0B,z0C,z0D,z0E,z0F]
 refine' z0L (i:=26) (v:=?v14) rfl (by kernel_rfl) (by kernel_rfl) (by kernel_rfl) ?y14 hH0 ?r14
 case y14=>(intro w hSw;(try dsimp only at hSw);go_simp;(try with_reducible rfl))
 try simp only [Act.put,z0A,z0B,z0C,z0D,z0E,z0F]
 refine' z0L (i:=27) (v:=?v15) rfl (by kernel_rfl) (by kernel_rfl) (by kernel_rfl) ?y15 hH0 ?r15
 case y15=>(intro w hSw;(try dsimp only at hSw);go_simp;(try with_reducible rfl))
 try simp only [Act.put,z0A,z0B,z0C,z0D,z0E,z0F]
 refine' z0L (i:=30) (v:=?v16) rfl (by kernel_rfl) (by kernel_rfl) (by kernel_rfl) ?y16 hH0 ?r16
 case y16=>(intro w hSw;(try dsimp only at hSw);go_simp;(try with_reducible rfl))
 try simp only [Act.put,z0A,z0B,z0C,z0D,z0E,z0F]
 refine wpAnyH_ready (rs:=[6]) (by as_aux_lemma=>kernel_rfl) (by simp) ?_;refine AllReadyH.cons (o:=_) rfl (fun K hK=>?_) AllReadyH.nil
 go_simp
 refine (HC2.out _ hH0.2.2.2.2.2.2.2.2.2.2.2.2.2.tab).mono ?_;rintro e w2 ⟨rfl,hb⟩;refine hK.out _ _ (EV hb hH0) (fun hN=>?_);clear hK K hH0;have hH1:=hN;clear hN
 try simp only [Act.put,z0A,z0B,z0C,z0D,z0E,z0F]
 refine' z0L (i:=7) (v:=?v17) rfl (by kernel_rfl) (by kernel_rfl) (by kernel_rfl) ?y17 hH1 ?r17
 case y17=>(intro w hSw;(try dsimp only at hSw);go_simp;(try with_reducible rfl))
 try simp only [Act.put,z0A,z0B,z0C,z0D,z0E,z0F]
 refine wpAnyH_ready (rs:=[10]) (by as_aux_lemma=>kernel_rfl) (by simp) ?_;refine AllReadyH.cons (o:=_) rfl (fun K hK=>?_) AllReadyH.nil
 go_simp
 refine (HC3.out _ hH1.2.2.2.2.2.2.2.2.2.2.2.2.2.tab).mono ?_;rintro e w2 ⟨rfl,hb⟩;refine hK.out _ _ (EV hb hH1) (fun hN=>?_);clear hK K hH1;have hH2:=hN;clear hN
 try simp only [Act.put,z0A,z0B,z0C,z0D,z0E,z0F]
 refine' z0L (i:=11) (v:=?v18) rfl (by kernel_rfl) (by kernel_rfl) (by kernel_rfl) ?y18 hH2 ?r18
 case y18=>(intro w hSw;(try dsimp only at hSw);go_simp;rw [if_neg (by omega)])
 try simp only [Act.put,z0A,z0B,z0C,z0D,z0E,z0F]
 refine' z0L (i:=12) (v:=?v19) rfl (by kernel_rfl) (by kernel_rfl) (by kernel_rfl) ?y19 hH2 ?r19
 case y19=>(intro w hSw;(try dsimp only at hSw);go_simp;rw [if_neg (by omega)])
 try simp only [Act.put,z0A,z0B,z0C,z0D,z0E,z0F]
 refine' z0L (i:=13) (v:=?v20) rfl (by kernel_rfl) (by kernel_rfl) (by kernel_rfl) ?y20 hH2 ?r20
 case y20=>(intro w hSw;(try dsimp only at hSw);go_simp;(try with_reducible rfl))
 try simp only [Act.put,z0A,z0B,z0C,z0D,z0E,z0F]
 refine wpAnyH_ready (rs:=[16]) (by as_aux_lemma=>kernel_rfl) (by simp) ?_;refine AllReadyH.cons (o:=_) rfl (fun K hK=>?_) AllReadyH.nil
 go_simp
 refine (HC4.out _ hH2.2.2.2.2.2.2.2.2.2.2.2.2.2.l hH2.2.2.2.2.2.2.2.2.2.2.2.2.2.tab).mono ?_;rintro e w2 ⟨rfl,hb⟩;refine hK.out _ _ (EV hb hH2) (fun hN=>?_);clear hK K hH2;have hH3:=hN;clear hN
 try simp only [Act.put,z0A,z0B,z0C,z0D,z0E,z0F]
 refine' z0L (i:=17) (v:=?v21) rfl (by kernel_rfl) (by kernel_rfl) (by kernel_rfl) ?y21 hH3 ?r21
 case y21=>(intro w hSw;(try dsimp only at hSw);go_simp;(try with_reducible rfl))
 try simp only [Act.put,z0A,z0B,z0C,z0D,z0E,z0F]
 refine wpAnyH_ready (rs:=[20]) (by as_aux_lemma=>kernel_rfl) (by simp) ?_;refine AllReadyH.cons (o:=_) rfl (fun K hK=>?_) AllReadyH.nil
 go_simp
 refine (HC5.out _ hH3.2.2.2.2.2.2.2.2.2.2.2.2.2.l hH3.2.2.2.2.2.2.2.2.2.2.2.2.2.tab).mono ?_;rintro e w2 ⟨rfl,hb⟩;refine hK.out _ _ (EV hb hH3) (fun hN=>?_);clear hK K hH3;have hH4:=hN;clear hN
 try simp only [Act.put,z0A,z0B,z0C,z0D,z0E,z0F]
 refine' z0L (i:=21) (v:=?v22) rfl (by kernel_rfl) (by kernel_rfl) (by kernel_rfl) ?y22 hH4 ?r22
 case y22=>(intro w hSw;(try dsimp only at hSw);go_simp;(try with_reducible rfl))
 try simp only [Act.put,z0A,z0B,z0C,z0D,z0E,z0F]
 refine wpAnyH_ready (rs:=[24]) (by as_aux_lemma=>kernel_rfl) (by simp) ?_;refine AllReadyH.cons (o:=_) rfl (fun K hK=>?_) AllReadyH.nil
 go_simp
 refine (HC6.out _ hH4.2.2.2.2.2.2.2.2.2.2.2.2.2.l hH4.2.2.2.2.2.2.2.2.2.2.2.2.2.tab).mono ?_;rintro e w2 ⟨rfl,hb⟩;refine hK.out _ _ (EV hb hH4) (fun hN=>?_);clear hK K hH4;have hH5:=hN;clear hN
 try simp only [Act.put,z0A,z0B,z0C,z0D,z0E,z0F]
 refine' z0L (i:=25) (v:=?v23) rfl (by kernel_rfl) (by kernel_rfl) (by kernel_rfl) ?y23 hH5 ?r23
 case y23=>(intro w hSw;(try dsimp only at hSw);go_simp;(try with_reducible rfl))
 try simp only [Act.put,z0A,z0B,z0C,z0D,z0E,z0F]
 refine wpAnyH_ready (rs:=[28]) (by as_aux_lemma=>kernel_rfl) (by simp) ?_;refine AllReadyH.cons (o:=_) rfl (fun K hK=>?_) AllReadyH.nil
 go_simp
 refine (HC7.out _).mono ?_;rintro e w2 ⟨rfl,hb⟩;refine hK.out _ _ (EV hb hH5) (fun hN=>?_);clear hK K hH5;have hH6:=hN;clear hN
 try simp only [Act.put,z0A,z0B,z0C,z0D,z0E,z0F]
 refine' z0L (i:=29) (v:=?v24) rfl (by kernel_rfl) (by kernel_rfl) (by kernel_rfl) ?y24 hH6 ?r24
 case y24=>(intro w hSw;(try dsimp only at hSw);go_simp;(try with_reducible rfl))
 try simp only [Act.put,z0A,z0B,z0C,z0D,z0E,z0F]
 refine wpAnyH_ready (rs:=[31]) (by as_aux_lemma=>kernel_rfl) (by simp) ?_;refine AllReadyH.cons (o:=_) rfl (fun K hK=>?_) AllReadyH.nil
 go_simp
 refine hK.out _ _ (EV (more (start _) _) hH6) (fun hN=>?_);clear hK K hH6;have hH7:=hN;clear hN
 try simp only [Act.put,z0A,z0B,z0C,z0D,z0E,z0F]
 refine wpAnyH_ready (rs:=[32]) (by as_aux_lemma=>kernel_rfl) (by simp) ?_;refine AllReadyH.cons (o:=_) rfl (fun K hK=>?_) AllReadyH.nil
 go_simp
 refine (A23 (some ⟨_,0,none⟩) 9 9 [(Ev.AP,Ev.wEV),(Ev.ER,T1),(Ev.BR,T2),(Ev.CQ,T3),(Ev.DG,T4),(Ev.nEX,T5),(Ev.BP,T6),(Ev.DH,T7),(Ev.DD,Ev.wEV)] _ (rowP9 T1 T2 T3 T4 T5 T6 T7 _ _) rfl (by show 9<=1000;omega) HBD.out).mono ?_;rintro e w2 ⟨vL,rfl,hown,hb⟩;have hsz:=hH7.2.2.2.2.2.2.2.2.2.2.2.2.2.below.size;refine hK.out _ _ (EV hb hH7) (fun hN=>?_);clear hK K hH7;have hH8:=hN;clear hN
 try simp only [Act.put,z0A,z0B,z0C,z0D,z0E,z0F]
 refine' z0L (i:=33) (v:=?v25) rfl (by kernel_rfl) (by kernel_rfl) (by kernel_rfl) ?y25 hH8 ?r25
 case y25=>(intro w hSw;(try dsimp only at hSw);go_simp;(try with_reducible rfl))
 try simp only [Act.put,z0A,z0B,z0C,z0D,z0E,z0F]
 refine wpAnyH_done (by as_aux_lemma=>kernel_rfl) ?_ _;obtain ⟨_,_,_,_,_,_,_,_,_,_,_,_,_,hpc⟩:=hH8;go_wp2_with fail;go_ret;rw [HP.out];exact ⟨_,rfl,hown.low hsz,hpc.below⟩
end Go.Proofs.YtfecnkhoojnkbaaGreatDoor

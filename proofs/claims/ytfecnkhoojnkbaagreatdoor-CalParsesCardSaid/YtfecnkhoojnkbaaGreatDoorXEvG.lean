import Derived.Test.YtfecnkhoojnkbaaGreatDoorXEvF
set_option maxHeartbeats 8000000
set_option maxRecDepth 1000000
namespace Go.Proofs.YtfecnkhoojnkbaaGreatDoor
open Go.RowKit Rul Rt Go.Sort Tryz
structure AX (w:World) (b:Nat) (vs:List Value):Prop where
 cell:∀ i (h:i<vs.length),w.cell? ⟨b,i,none⟩=some vs[i]
 free:∀ i,w.frozen? ⟨b,i,none⟩=false
 lt:b<w.heap.size
theorem DY (w:World) (vs:Array Value) (t:TypeId):AX (w.alloc (.cells vs t)) w.heap.size vs.toList :=
 ⟨fun i h=>AS w vs t i _ (by rw [Array.length_toList] at h;rw [Array.getElem?_eq_getElem h];simp),fun i=>World.frozen?_alloc_at _ _ _ _ rfl,by simp⟩
theorem AX.keep {w w':World} {b:Nat} {vs:List Value} (h:AX w b vs) (hb:Below w.heap.size w w'):AX w' b vs :=
 ⟨fun i hi=>A9 hb (h.cell i hi),fun i=>(hb.frozen (p:=⟨b,i,none⟩) h.lt).trans (h.free i),Nat.lt_of_lt_of_le h.lt hb.size⟩
theorem AX.grow {w w':World} {b:Nat} {vs:List Value} {row:Option Nat} (h:AX w b vs) (g:w.grownBy w' row) (hne:some b≠row):AX w' b vs :=
 ⟨fun i hi=>g.cell (h.cell i hi) hne,fun i=>(World.frozen?_of_block (g.block b h.lt hne)).trans (h.free i),Nat.lt_of_lt_of_le h.lt g.size⟩
theorem AX.set {w:World} {b:Nat} {vs:List Value} (h:AX w b vs) (i:Nat) (y:Value) (hi:i<vs.length):AX (w.setCell ⟨b,i,none⟩ y) b (vs.set i y):=by
 refine ⟨fun j hj=>?_,fun j=>by rw [World.frozen?_setCell];exact h.free j,by rw [World.size_setCell];exact h.lt⟩;have hj2:j<vs.length:=by simpa using hj
 by_cases e:j=i
 ·subst e;rw [World.cell?_setCell_same _ _ _ (h.cell j hj2)];simp
 ·rw [World.cell?_setCell_other _ _ _ _ (by intro hc;injection hc with _ hc1;omega),h.cell j hj2,List.getElem_set_ne (by omega)]
theorem AX.far {w:World} {b c i:Nat} {vs:List Value} {y:Value} (h:AX w b vs) (hne:c≠b):AX (w.setCell ⟨c,i,none⟩ y) b vs :=
 ⟨fun j hj=>(World.cell?_setCell_far w _ _ _ hne).trans (h.cell j hj),fun j=>by rw [World.frozen?_setCell];exact h.free j,by rw [World.size_setCell];exact h.lt⟩
theorem AX.is {w:World} {b:Nat} {vs us:List Value} (h:AX w b vs) (e:vs=us):AX w b us:=e▸h
theorem AX.c13 {w:World} {b:Nat} {v0 v1 v2 v3 v4 v5 v6 v7 v8 v9 v10 v11 v12:Value} (h:AX w b [v0,v1,v2,v3,v4,v5,v6,v7,v8,v9,v10,v11,v12]):(w.cell? ⟨b,0,none⟩=some v0/\w.frozen? ⟨b,0,none⟩=false)/\(w.cell? ⟨b,1,none⟩=some v1/\w.frozen? ⟨b,1,none⟩=false)/\(w.cell? ⟨b,2,none⟩=some v2/\w.frozen? ⟨b,2,none⟩=false)/\(w.cell? ⟨b,3,none⟩=some v3/\w.frozen? ⟨b,3,none⟩=false)/\(w.cell? ⟨b,4,none⟩=some v4/\w.frozen? ⟨b,4,none⟩=false)/\(w.cell? ⟨b,5,none⟩=some v5/\w.frozen? ⟨b,5,none⟩=false)/\(w.cell? ⟨b,6,none⟩=some v6/\w.frozen? ⟨b,6,none⟩=false)/\(w.cell? ⟨b,7,none⟩=some v7/\w.frozen? ⟨b,7,none⟩=false)/\(w.cell? ⟨b,8,none⟩=some v8/\w.frozen? ⟨b,8,none⟩=false)/\(w.cell? ⟨b,9,none⟩=some v9/\w.frozen? ⟨b,9,none⟩=false)/\(w.cell? ⟨b,10,none⟩=some v10/\w.frozen? ⟨b,10,none⟩=false)/\(w.cell? ⟨b,11,none⟩=some v11/\w.frozen? ⟨b,11,none⟩=false)/\(w.cell? ⟨b,12,none⟩=some v12/\w.frozen? ⟨b,12,none⟩=false) :=
 ⟨⟨h.cell 0 (by simp),h.free 0⟩,⟨h.cell 1 (by simp),h.free 1⟩,⟨h.cell 2 (by simp),h.free 2⟩,⟨h.cell 3 (by simp),h.free 3⟩,⟨h.cell 4 (by simp),h.free 4⟩,⟨h.cell 5 (by simp),h.free 5⟩,⟨h.cell 6 (by simp),h.free 6⟩,⟨h.cell 7 (by simp),h.free 7⟩,⟨h.cell 8 (by simp),h.free 8⟩,⟨h.cell 9 (by simp),h.free 9⟩,⟨h.cell 10 (by simp),h.free 10⟩,⟨h.cell 11 (by simp),h.free 11⟩,⟨h.cell 12 (by simp),h.free 12⟩⟩
theorem AX.c14 {w:World} {b:Nat} {v0 v1 v2 v3 v4 v5 v6 v7 v8 v9 v10 v11 v12 v13:Value} (h:AX w b [v0,v1,v2,v3,v4,v5,v6,v7,v8,v9,v10,v11,v12,v13]):(w.cell? ⟨b,0,none⟩=some v0/\w.frozen? ⟨b,0,none⟩=false)/\(w.cell? ⟨b,1,none⟩=some v1/\w.frozen? ⟨b,1,none⟩=false)/\(w.cell? ⟨b,2,none⟩=some v2/\w.frozen? ⟨b,2,none⟩=false)/\(w.cell? ⟨b,3,none⟩=some v3/\w.frozen? ⟨b,3,none⟩=false)/\(w.cell? ⟨b,4,none⟩=some v4/\w.frozen? ⟨b,4,none⟩=false)/\(w.cell? ⟨b,5,none⟩=some v5/\w.frozen? ⟨b,5,none⟩=false)/\(w.cell? ⟨b,6,none⟩=some v6/\w.frozen? ⟨b,6,none⟩=false)/\(w.cell? ⟨b,7,none⟩=some v7/\w.frozen? ⟨b,7,none⟩=false)/\(w.cell? ⟨b,8,none⟩=some v8/\w.frozen? ⟨b,8,none⟩=false)/\(w.cell? ⟨b,9,none⟩=some v9/\w.frozen? ⟨b,9,none⟩=false)/\(w.cell? ⟨b,10,none⟩=some v10/\w.frozen? ⟨b,10,none⟩=false)/\(w.cell? ⟨b,11,none⟩=some v11/\w.frozen? ⟨b,11,none⟩=false)/\(w.cell? ⟨b,12,none⟩=some v12/\w.frozen? ⟨b,12,none⟩=false)/\(w.cell? ⟨b,13,none⟩=some v13/\w.frozen? ⟨b,13,none⟩=false) :=
 ⟨⟨h.cell 0 (by simp),h.free 0⟩,⟨h.cell 1 (by simp),h.free 1⟩,⟨h.cell 2 (by simp),h.free 2⟩,⟨h.cell 3 (by simp),h.free 3⟩,⟨h.cell 4 (by simp),h.free 4⟩,⟨h.cell 5 (by simp),h.free 5⟩,⟨h.cell 6 (by simp),h.free 6⟩,⟨h.cell 7 (by simp),h.free 7⟩,⟨h.cell 8 (by simp),h.free 8⟩,⟨h.cell 9 (by simp),h.free 9⟩,⟨h.cell 10 (by simp),h.free 10⟩,⟨h.cell 11 (by simp),h.free 11⟩,⟨h.cell 12 (by simp),h.free 12⟩,⟨h.cell 13 (by simp),h.free 13⟩⟩
def CA (w:World) (b:Nat):Nat->List Value->World
 | _,[]=>w
 | i,v :: vs=>CA (w.setCell ⟨b,i,none⟩ v) b (i+1) vs
theorem kZ:∀ (us:List Value) (w:World) (b i:Nat) (vs:List Value),i+us.length=vs.length->AX w b vs->AX (CA w b i us) b (vs.take i++us)
 | [],w,b,i,vs,hl,h=>by
  rw [List.append_nil,List.take_of_length_le (by simp at hl;omega)];exact h
 | u :: us,w,b,i,vs,hl,h=>by
  have hi:i<vs.length:=by rw [List.length_cons] at hl;omega
  have:=kZ us (w.setCell ⟨b,i,none⟩ u) b (i+1) (vs.set i u) (by rw [List.length_set,<- hl,List.length_cons];omega) (h.set i u hi);have e:(vs.set i u).take (i+1)++us=vs.take i++u :: us:=by
   rw [List.take_succ_eq_append_getElem (by rw [List.length_set];exact hi),List.take_set_of_le (Nat.le_refl i)];simp
  rw [e] at this;exact this
theorem AX.all {w:World} {b:Nat} {vs:List Value} (h:AX w b vs) (us:List Value) (hl:us.length=vs.length):AX (CA w b 0 us) b us:=by
 have:=kZ us w b 0 vs (by omega) h;rw [List.take_zero,List.nil_append] at this;exact this
theorem BK (us:List Value):∀ {B:Nat} {w0 w:World} (b i:Nat),Below B w0 w->B<=b->Below B w0 (CA w b i us):=by
 induction us with
 | nil=>intro B w0 w b i h _;exact h
 | cons u us ih=>intro B w0 w b i h hb;exact ih b (i+1) (Below.setCell h (p:=⟨b,i,none⟩) hb u) hb
theorem F9 (us:List Value):∀ (w:World) (b i:Nat),w.grownBy (CA w b i us) (some b):=by
 induction us with
 | nil=>intro w b i;exact BC (start w)
 | cons u us ih=>intro w b i;exact World.grownBy.trans (AG (start w)) (ih (w.setCell ⟨b,i,none⟩ u) b (i+1))
theorem AX.past {w:World} {b c:Nat} {vs:List Value} (h:AX w b vs) (us:List Value) (i:Nat) (hne:c≠b):AX (CA w c i us) b vs:=h.grow (F9 us w c i) (fun e=>hne (by injection e with e;exact e.symm))
theorem J3 {w:World} {B c:Nat} {v:Value} {k:List Int} (h:BV w B v k) (us:List Value) (i:Nat) (hc:c<B):BV (CA w c i us) B v k :=
 World.ownsRow.kept h (F9 us w c i) (Or.inr fun e=>by have:=(h.lt c e).1;omega)
theorem WY {w:World} {B c:Nat} {v:Value} {k:List Wd} (h:DO w B v k) (us:List Value) (i:Nat) (hc:c<B):DO (CA w c i us) B v k :=
 World.ownsRow.kept h (F9 us w c i) (Or.inr fun e=>by have:=(h.lt c e).1;omega)
structure MidE (w:World) (pv:List Value) (fr ev ct un:Int) (ds:List Wd) (ms ys:List Int) (wx:World):Prop where
 p:AX wx w.heap.size pv
 e:AX wx (w.heap.size+1) [.string ⟨#[]⟩,.string ⟨#[]⟩,.int .i64 0,.int .i64 0,.slice none 0 0,.int .i64 0,.int .i64 0,.int .i64 0,.int .i64 0,.slice none 0 0,.slice none 0 0,.slice none 0 0,.slice none 0 0]
 r:∃ vD vM vY,AX wx (w.heap.size+1+1) [.int .i64 fr,.int .i64 ev,.int .i64 ct,.int .i64 un,vD,vM,vY]/\DO wx (w.heap.size+3) vD ds/\BV wx (w.heap.size+3) vM ms/\BV wx (w.heap.size+3) vY ys
 b:Below w.heap.size w wx
theorem oA (w:World) (pv ze rv:Array Value) (t1 t2 t3:TypeId):AX (((w.alloc (.cells pv t1)).alloc (.cells ze t2)).alloc (.cells rv t3)) w.heap.size pv.toList/\AX (((w.alloc (.cells pv t1)).alloc (.cells ze t2)).alloc (.cells rv t3)) (w.heap.size+1) ze.toList/\AX (((w.alloc (.cells pv t1)).alloc (.cells ze t2)).alloc (.cells rv t3)) (w.heap.size+1+1) rv.toList:=by
 have h1:=DY w pv t1;have h2:=DY (w.alloc (.cells pv t1)) ze t2;have h3:=DY ((w.alloc (.cells pv t1)).alloc (.cells ze t2)) rv t3;simp only [World.size_alloc] at h2 h3;exact ⟨(h1.keep (more (start _) _)).keep (more (start _) _),h2.keep (more (start _) _),h3⟩
theorem zT {w w3:World} {pv:List Value} {fr ev ct un:Int} {ds:List Wd} {ms ys:List Int} {x4 x5 x6 vD vM vY:Value} (hp:AX w3 w.heap.size pv) (he:AX w3 (w.heap.size+1) [.string ⟨#[]⟩,.string ⟨#[]⟩,.int .i64 0,.int .i64 0,.slice none 0 0,.int .i64 0,.int .i64 0,.int .i64 0,.int .i64 0,.slice none 0 0,.slice none 0 0,.slice none 0 0,.slice none 0 0]) (hr:AX w3 (w.heap.size+1+1) [.int .i64 fr,.int .i64 ev,.int .i64 ct,.int .i64 un,x4,x5,x6])
  (hD:DO w3 (w.heap.size+3) vD ds) (hM:BV w3 (w.heap.size+3) vM ms) (hY:BV w3 (w.heap.size+3) vY ys) (hb:Below w.heap.size w w3) :
  MidE w pv fr ev ct un ds ms ys (((w3.setCell ⟨w.heap.size+1+1,4,none⟩ vD).setCell ⟨w.heap.size+1+1,5,none⟩ vM).setCell ⟨w.heap.size+1+1,6,none⟩ vY):=by
 have hs:=((hr.set 4 vD (by simp)).set 5 vM (by simp)).set 6 vY (by simp);have e:CA w3 (w.heap.size+1+1) 4 [vD,vM,vY]=(((w3.setCell ⟨w.heap.size+1+1,4,none⟩ vD).setCell ⟨w.heap.size+1+1,5,none⟩ vM).setCell ⟨w.heap.size+1+1,6,none⟩ vY):=rfl;refine ⟨e▸hp.past _ _ (by omega),e▸he.past _ _ (by omega),⟨vD,vM,vY,hs,e▸WY hD _ _ (by omega),e▸J3 hM _ _ (by omega),e▸J3 hY _ _ (by omega)⟩,e▸BK _ _ _ hb (by omega)⟩
theorem tR {w:World} {B:Nat} {D M Y:Option Addr} {dc mc yc:Nat} {ds:List Wd} {ms ys:List Int} (hD:DO w B (.slice D ds.length dc) ds) (hM:BV w B (.slice M ms.length mc) ms) (hY:BV w B (.slice Y ys.length yc) ys) (hd:ds.length<=10000) (hm:ms.length<=10000) (hy:ys.length<=10000):DS w D ds.length M ms.length Y ys.length ds ms ys:=by
 obtain ⟨_,_,e1,r1⟩:=DO.row hD;obtain ⟨_,_,e2,r2⟩:=BV.row hM;obtain ⟨_,_,e3,r3⟩:=BV.row hY;injection e1 with e1 _ _;injection e2 with e2 _ _;injection e3 with e3 _ _;subst e1 e2 e3;exact ⟨r1,rfl,hd,r2,rfl,hm,r3,rfl,hy⟩
theorem l8 {w:World} {B:Nat} {O:Option Addr} {oc:Nat} {o:List Int} (h:BV w B (.slice O o.length oc) o):BS w O o:=by
 obtain ⟨_,_,e1,r1⟩:=BV.row h;injection e1 with e1 _ _;subst e1;exact r1
structure KY (w:World) (B:Nat) (e:Ev.E) (m:Mem):Prop where
 o:BV w B (.slice m.O e.rooms.length m.oc) e.rooms
 x:BV w B (.slice m.X e.ex.length m.xc) e.ex
 d:DO w B (.slice m.D e.r.ds.length m.dc) e.r.ds
 mm:BV w B (.slice m.M e.r.ms.length m.mc) e.r.ms
 y:BV w B (.slice m.Y e.r.ys.length m.yc) e.r.ys
 ol:e.rooms.length<=1000
 xl:e.ex.length<=1000
 dl:e.r.ds.length<=10000
 ml:e.r.ms.length<=10000
 yl:e.r.ys.length<=10000
 ul:e.uid.length<=40000
 tl:e.text.length<=40000
theorem KY.BD {w:World} {B:Nat} {e:Ev.E} {m:Mem} (h:KY w B e m):EvL w e m :=
 ⟨l8 h.o,h.ol,tR h.d h.mm h.y h.dl h.ml h.yl,l8 h.x,h.xl,h.ul,h.tl⟩
theorem KY.keep {w w1:World} {B:Nat} {e:Ev.E} {m:Mem} (h:KY w B e m) (hb:Below w.heap.size w w1):KY w1 B e m :=
 ⟨h.o.keep hb,h.x.keep hb,h.d.keep hb,h.mm.keep hb,h.y.keep hb,h.ol,h.xl,h.dl,h.ml,h.yl,h.ul,h.tl⟩
theorem KY.down {w:World} {B B2:Nat} {e:Ev.E} {m:Mem} (h:KY w B e m) (hb:B2<=B):KY w B2 e m :=
 ⟨h.o.down hb,h.x.down hb,h.d.down hb,h.mm.down hb,h.y.down hb,h.ol,h.xl,h.dl,h.ml,h.yl,h.ul,h.tl⟩
theorem KY.past {w:World} {B c:Nat} {e:Ev.E} {m:Mem} (h:KY w B e m) (us:List Value) (i:Nat) (hc:c<B):KY (CA w c i us) B e m :=
 ⟨J3 h.o us i hc,J3 h.x us i hc,WY h.d us i hc,J3 h.mm us i hc,J3 h.y us i hc,h.ol,h.xl,h.dl,h.ml,h.yl,h.ul,h.tl⟩
structure FinE (w:World) (b:Nat) (e:Ev.E) (m:Mem) (W:World):Prop where
 k:AX W b [.string (str e.uid),.string (str e.text),.int .i64 e.st,.int .i64 e.lg,.slice m.O e.rooms.length m.oc,.int .i64 e.r.fr,.int .i64 e.r.ev,.int .i64 e.r.ct,.int .i64 e.r.un,.slice m.D e.r.ds.length m.dc,.slice m.M e.r.ms.length m.mc,.slice m.Y e.r.ys.length m.yc,.slice m.X e.ex.length m.xc]
 n:KY W w.heap.size e m
 b:Below w.heap.size w W
theorem l9 {w w3:World} {b:Nat} {e:Ev.E} {m:Mem} {ze:List Value} {B:Nat} (he:AX w3 b ze) (hz:ze.length=13) (hB:b<B) (hw:w.heap.size<=b) (hn:KY w3 B e m) (hb:Below w.heap.size w w3) :
  FinE w b e m (CA w3 b 0 [.string (str e.uid),.string (str e.text),.int .i64 e.st,.int .i64 e.lg,.slice m.O e.rooms.length m.oc,.int .i64 e.r.fr,.int .i64 e.r.ev,.int .i64 e.r.ct,.int .i64 e.r.un,.slice m.D e.r.ds.length m.dc,.slice m.M e.r.ms.length m.mc,.slice m.Y e.r.ys.length m.yc,.slice m.X e.ex.length m.xc]) :=
 ⟨he.all _ (by rw [hz];rfl),(hn.past _ _ hB).down (by omega),BK _ _ _ hb hw⟩
theorem zU (A:Option Addr) (m c:Nat) (k:List Wd) (w:World) (hrow:EL w A k) (hm:m=k.length) (hk:k.length<=1000000) :
  Calls prog 173 #[.slice A m c] w fun e w'=>∃ v,e=.returned v/\DO w' w.heap.size v k/\Below w.heap.size w w':=xF A m c k w hrow hm hk
theorem SY (A:Option Addr) (m c:Nat) (k:List Int) (w:World) (hrow:BS w A k) (hm:m=k.length) (hk:k.length<=1000000) :
  Calls prog 174 #[.slice A m c] w fun e w'=>∃ v,e=.returned v/\BV w' w.heap.size v k/\Below w.heap.size w w':=xD A m c k w hrow hm hk
def tS (w:World) (e:Ev.E) (x:Ending) (w':World):Prop:=∃ m,x=.returned (evV e m)/\KY w' w.heap.size e m/\Below w.heap.size w w'
theorem QK {W W1:World} {P R:Nat} {v0 v1 v2 v3 v4 v5 v6 v7 v8 v9 v10 v11 v12:Value} (hb:Below W.heap.size W W1) (h:W.cell? ⟨P,0,none⟩=some v0/\W.cell? ⟨P,1,none⟩=some v1/\W.cell? ⟨P,2,none⟩=some v2/\W.cell? ⟨P,3,none⟩=some v3/\W.cell? ⟨P,11,none⟩=some v4/\W.cell? ⟨P,12,none⟩=some v5/\W.cell? ⟨R,0,none⟩=some v6/\W.cell? ⟨R,1,none⟩=some v7/\W.cell? ⟨R,2,none⟩=some v8/\W.cell? ⟨R,3,none⟩=some v9/\W.cell? ⟨R,4,none⟩=some v10/\W.cell? ⟨R,5,none⟩=some v11/\W.cell? ⟨R,6,none⟩=some v12):W1.cell? ⟨P,0,none⟩=some v0/\W1.cell? ⟨P,1,none⟩=some v1/\W1.cell? ⟨P,2,none⟩=some v2/\W1.cell? ⟨P,3,none⟩=some v3/\W1.cell? ⟨P,11,none⟩=some v4/\W1.cell? ⟨P,12,none⟩=some v5/\W1.cell? ⟨R,0,none⟩=some v6/\W1.cell? ⟨R,1,none⟩=some v7/\W1.cell? ⟨R,2,none⟩=some v8/\W1.cell? ⟨R,3,none⟩=some v9/\W1.cell? ⟨R,4,none⟩=some v10/\W1.cell? ⟨R,5,none⟩=some v11/\W1.cell? ⟨R,6,none⟩=some v12:=by
 obtain ⟨h0,h1,h2,h3,h4,h5,h6,h7,h8,h9,h10,h11,h12⟩:=h;exact ⟨A9 hb h0,A9 hb h1,A9 hb h2,A9 hb h3,A9 hb h4,A9 hb h5,A9 hb h6,A9 hb h7,A9 hb h8,A9 hb h9,A9 hb h10,A9 hb h11,A9 hb h12⟩
theorem EG {W:World} {b c i:Nat} {v:Value} (us:List Value) (hne:b≠c) (h:W.cell? ⟨b,i,none⟩=some v):(CA W c 0 us).cell? ⟨b,i,none⟩=some v :=
 (F9 us W c 0).cell h (fun e=>hne (by injection e))
theorem tT {W:World} {P R E:Nat} {v0 v1 v2 v3 v4 v5 v6 v7 v8 v9 v10 v11 v12:Value} (us:List Value) (h1:P≠E) (h2:R≠E) (h:W.cell? ⟨P,0,none⟩=some v0/\W.cell? ⟨P,1,none⟩=some v1/\W.cell? ⟨P,2,none⟩=some v2/\W.cell? ⟨P,3,none⟩=some v3/\W.cell? ⟨P,11,none⟩=some v4/\W.cell? ⟨P,12,none⟩=some v5/\W.cell? ⟨R,0,none⟩=some v6/\W.cell? ⟨R,1,none⟩=some v7/\W.cell? ⟨R,2,none⟩=some v8/\W.cell? ⟨R,3,none⟩=some v9/\W.cell? ⟨R,4,none⟩=some v10/\W.cell? ⟨R,5,none⟩=some v11/\W.cell? ⟨R,6,none⟩=some v12):(CA W E 0 us).cell? ⟨P,0,none⟩=some v0/\(CA W E 0 us).cell? ⟨P,1,none⟩=some v1/\(CA W E 0 us).cell? ⟨P,2,none⟩=some v2/\(CA W E 0 us).cell? ⟨P,3,none⟩=some v3/\(CA W E 0 us).cell? ⟨P,11,none⟩=some v4/\(CA W E 0 us).cell? ⟨P,12,none⟩=some v5/\(CA W E 0 us).cell? ⟨R,0,none⟩=some v6/\(CA W E 0 us).cell? ⟨R,1,none⟩=some v7/\(CA W E 0 us).cell? ⟨R,2,none⟩=some v8/\(CA W E 0 us).cell? ⟨R,3,none⟩=some v9/\(CA W E 0 us).cell? ⟨R,4,none⟩=some v10/\(CA W E 0 us).cell? ⟨R,5,none⟩=some v11/\(CA W E 0 us).cell? ⟨R,6,none⟩=some v12:=by
 obtain ⟨h_0,h_1,h_2,h_3,h_4,h_5,h_6,h_7,h_8,h_9,h_10,h_11,h_12⟩:=h;exact ⟨EG us h1 h_0,EG us h1 h_1,EG us h1 h_2,EG us h1 h_3,EG us h1 h_4,EG us h1 h_5,EG us h2 h_6,EG us h2 h_7,EG us h2 h_8,EG us h2 h_9,EG us h2 h_10,EG us h2 h_11,EG us h2 h_12⟩
theorem iD (e:Ev.E) (m:Mem) (w:World) (h:EvL w e m) :
  Calls prog 146 #[paV e m] w (tS w e):=by
 have hul:=h.ul;have htl:=h.tl;have hol:=h.ol;have hxl:=h.xl;have hr:=h.r;have ho:=h.o;have hx:=h.x;obtain ⟨u,t,s,l,o,⟨fr,ev,ct,un,ds,ms,ys⟩,x⟩:=e;obtain ⟨O,oc,D,dc,M,mc,Y,yc,X,xc⟩:=m;clear h;unfold tS;simp only [evV,paV] at hul htl hol hxl hr ho hx ⊢;have hdl:ds.length<=1000000:=by have:=hr.dl;omega
 have hml:ms.length<=1000000:=by have:=hr.ml;omega
 have hyl:ys.length<=1000000:=by have:=hr.yl;omega
 have hxl2:x.length<=1000000:=by omega
 have hol2:o.length<=1000000:=by omega
 have HO:=A5 ho;have HX:=A5 hx;have HRR:=A5 hr;generalize hU:str u=U at *;generalize hT:str t=T at *;have HU:=A5 hU;have HT:=A5 hT;clear hr ho hx hU hT;go_enter func146,ntmps146
 go_upto_region 3 with (fail)
 go_cut [] (fun wx=>MidE w [.string U,.string T,.int .i64 s,.int .i64 l,.int .i64 fr,.int .i64 ev,.int .i64 ct,.int .i64 un,.slice D ds.length dc,.slice M ms.length mc,.slice Y ys.length yc,.slice X x.length xc,.slice O o.length oc] fr ev ct un ds ms ys wx)
 case first =>
  obtain ⟨hp,he,hrr⟩:=oA w #[.string U,.string T,.int .i64 s,.int .i64 l,.int .i64 fr,.int .i64 ev,.int .i64 ct,.int .i64 un,.slice D ds.length dc,.slice M ms.length mc,.slice Y ys.length yc,.slice X x.length xc,.slice O o.length oc] #[.string ⟨#[]⟩,.string ⟨#[]⟩,.int .i64 0,.int .i64 0,.slice none 0 0,.int .i64 0,.int .i64 0,.int .i64 0,.int .i64 0,.slice none 0 0,.slice none 0 0,.slice none 0 0,.slice none 0 0] #[.int .i64 fr,.int .i64 ev,.int .i64 ct,.int .i64 un,.slice D ds.length dc,.slice M ms.length mc,.slice Y ys.length yc] 96 47 44;have hbw:=more (more (more (start w) (.cells #[.string U,.string T,.int .i64 s,.int .i64 l,.int .i64 fr,.int .i64 ev,.int .i64 ct,.int .i64 un,.slice D ds.length dc,.slice M ms.length mc,.slice Y ys.length yc,.slice X x.length xc,.slice O o.length oc] 96)) (.cells #[.string ⟨#[]⟩,.string ⟨#[]⟩,.int .i64 0,.int .i64 0,.slice none 0 0,.int .i64 0,.int .i64 0,.int .i64 0,.int .i64 0,.slice none 0 0,.slice none 0 0,.slice none 0 0,.slice none 0 0] 47)) (.cells #[.int .i64 fr,.int .i64 ev,.int .i64 ct,.int .i64 un,.slice D ds.length dc,.slice M ms.length mc,.slice Y ys.length yc] 44);have HZ:Hid (w.heap.size+3<=((((w.alloc (.cells #[.string U,.string T,.int .i64 s,.int .i64 l,.int .i64 fr,.int .i64 ev,.int .i64 ct,.int .i64 un,.slice D ds.length dc,.slice M ms.length mc,.slice Y ys.length yc,.slice X x.length xc,.slice O o.length oc] 96)).alloc (.cells #[.string ⟨#[]⟩,.string ⟨#[]⟩,.int .i64 0,.int .i64 0,.slice none 0 0,.int .i64 0,.int .i64 0,.int .i64 0,.int .i64 0,.slice none 0 0,.slice none 0 0,.slice none 0 0,.slice none 0 0] 47))).alloc (.cells #[.int .i64 fr,.int .i64 ev,.int .i64 ct,.int .i64 un,.slice D ds.length dc,.slice M ms.length mc,.slice Y ys.length yc] 44)).heap.size):=A5 (by simp only [World.size_alloc];omega);generalize ((((w.alloc (.cells #[.string U,.string T,.int .i64 s,.int .i64 l,.int .i64 fr,.int .i64 ev,.int .i64 ct,.int .i64 un,.slice D ds.length dc,.slice M ms.length mc,.slice Y ys.length yc,.slice X x.length xc,.slice O o.length oc] 96)).alloc (.cells #[.string ⟨#[]⟩,.string ⟨#[]⟩,.int .i64 0,.int .i64 0,.slice none 0 0,.int .i64 0,.int .i64 0,.int .i64 0,.int .i64 0,.slice none 0 0,.slice none 0 0,.slice none 0 0,.slice none 0 0] 47))).alloc (.cells #[.int .i64 fr,.int .i64 ev,.int .i64 ct,.int .i64 un,.slice D ds.length dc,.slice M ms.length mc,.slice Y ys.length yc] 44))=W at *;have hD:=(start W).drew;have HB:=A5 (andthen hbw hD);have HP:=A5 (hp.keep hD);have HE:=A5 (he.keep hD);have HR:=A5 (hrr.keep hD);have HRD:=A5 (HRR.out.d.keep HB.out);have HRM:=A5 (HRR.out.m.keep HB.out);have HRY:=A5 (HRR.out.y.keep HB.out);have HZ2:Hid (w.heap.size+3<=W.drew.heap.size):=HZ;clear HZ;have HZ:=HZ2;clear HZ2;have c4:W.drew.cell? ⟨w.heap.size+1+1,4,none⟩=some (.slice D ds.length dc):=HR.out.cell 4 (by simp);have c5:W.drew.cell? ⟨w.heap.size+1+1,5,none⟩=some (.slice M ms.length mc):=HR.out.cell 5 (by simp);have c6:W.drew.cell? ⟨w.heap.size+1+1,6,none⟩=some (.slice Y ys.length yc):=HR.out.cell 6 (by simp);have g4:=HR.out.free 4;have g5:=HR.out.free 5;have g6:=HR.out.free 6;clear hp he hrr hbw hD
  go_region_with (first|(go_at_call 173;with_reducible refine (zU D _ dc ds _ HRD.out rfl hdl).mono ?_;rintro e w2 ⟨vD,rfl,hownD,hb⟩;obtain ⟨D2,dc2,rfl,hrowD⟩:=DO.row hownD;clear hrowD;have HOD:=A5 (DO.down hownD HZ.out);replace HRM:=A5 (HRM.out.keep hb);replace HRY:=A5 (HRY.out.keep hb);replace HP:=A5 (HP.out.keep hb);replace HE:=A5 (HE.out.keep hb);replace HR:=A5 (HR.out.keep hb);replace HB:=A5 (andthen HB.out hb);replace HZ:=A5 (Nat.le_trans HZ.out hb.size);replace c4:=A9 hb c4;replace c5:=A9 hb c5;replace c6:=A9 hb c6;replace g4:=HR.out.free 4;replace g5:=HR.out.free 5;replace g6:=HR.out.free 6;clear hb)|(go_at_call 174;with_reducible refine (SY M _ mc ms _ HRM.out rfl hml).mono ?_;rintro e w2 ⟨vM,rfl,hownM,hb⟩;obtain ⟨M2,mc2,rfl,hrowM⟩:=BV.row hownM;clear hrowM;have HOM:=A5 (BV.down hownM HZ.out);replace HOD:=A5 (HOD.out.keep hb);replace HRM:=A5 (HRM.out.keep hb);replace HRY:=A5 (HRY.out.keep hb);replace HP:=A5 (HP.out.keep hb);replace HE:=A5 (HE.out.keep hb);replace HR:=A5 (HR.out.keep hb);replace HB:=A5 (andthen HB.out hb);replace HZ:=A5 (Nat.le_trans HZ.out hb.size);replace c4:=A9 hb c4;replace c5:=A9 hb c5;replace c6:=A9 hb c6;replace g4:=HR.out.free 4;replace g5:=HR.out.free 5;replace g6:=HR.out.free 6;clear hb)|(go_at_call 174;with_reducible refine (SY Y _ yc ys _ HRY.out rfl hyl).mono ?_;rintro e w2 ⟨vY,rfl,hownY,hb⟩;obtain ⟨Y2,yc2,rfl,hrowY⟩:=BV.row hownY;clear hrowY;have HOY:=A5 (BV.down hownY HZ.out);replace HOD:=A5 (HOD.out.keep hb);replace HOM:=A5 (HOM.out.keep hb);replace HRM:=A5 (HRM.out.keep hb);replace HRY:=A5 (HRY.out.keep hb);replace HP:=A5 (HP.out.keep hb);replace HE:=A5 (HE.out.keep hb);replace HR:=A5 (HR.out.keep hb);replace HB:=A5 (andthen HB.out hb);replace HZ:=A5 (Nat.le_trans HZ.out hb.size);replace c4:=A9 hb c4;replace c5:=A9 hb c5;replace c6:=A9 hb c6;replace g4:=HR.out.free 4;replace g5:=HR.out.free 5;replace g6:=HR.out.free 6;clear hb))
  all_goals
   go_wp2_with fail
   go_meet
   exact zT HP.out HE.out HR.out HOD.out HOM.out HOY.out HB.out
 case rest =>
  obtain ⟨hp,he,⟨vD,vM,vY,hr,hD,hM,hY⟩,hb⟩:=hcut;obtain ⟨D2,dc2,rfl,hrow⟩:=DO.row hD;clear hrow;obtain ⟨M2,mc2,rfl,hrow⟩:=BV.row hM;clear hrow;obtain ⟨Y2,yc2,rfl,hrow⟩:=BV.row hY;clear hrow;have hds3:ds.length<=10000:=HRR.out.dl;have hms3:ms.length<=10000:=HRR.out.ml;have hys3:ys.length<=10000:=HRR.out.yl;have hdw:=(start wc).drew;have hS:wc.cell? ⟨w.heap.size,0,none⟩=some (.string U)/\wc.cell? ⟨w.heap.size,1,none⟩=some (.string T)/\wc.cell? ⟨w.heap.size,2,none⟩=some (.int .i64 s)/\wc.cell? ⟨w.heap.size,3,none⟩=some (.int .i64 l)/\wc.cell? ⟨w.heap.size,11,none⟩=some (.slice X x.length xc)/\wc.cell? ⟨w.heap.size,12,none⟩=some (.slice O o.length oc)/\wc.cell? ⟨w.heap.size+1+1,0,none⟩=some (.int .i64 fr)/\wc.cell? ⟨w.heap.size+1+1,1,none⟩=some (.int .i64 ev)/\wc.cell? ⟨w.heap.size+1+1,2,none⟩=some (.int .i64 ct)/\wc.cell? ⟨w.heap.size+1+1,3,none⟩=some (.int .i64 un)/\wc.cell? ⟨w.heap.size+1+1,4,none⟩=some (.slice D2 ds.length dc2)/\wc.cell? ⟨w.heap.size+1+1,5,none⟩=some (.slice M2 ms.length mc2)/\wc.cell? ⟨w.heap.size+1+1,6,none⟩=some (.slice Y2 ys.length yc2):=⟨hp.cell 0 (by simp),hp.cell 1 (by simp),hp.cell 2 (by simp),hp.cell 3 (by simp),hp.cell 11 (by simp),hp.cell 12 (by simp),hr.cell 0 (by simp),hr.cell 1 (by simp),hr.cell 2 (by simp),hr.cell 3 (by simp),hr.cell 4 (by simp),hr.cell 5 (by simp),hr.cell 6 (by simp)⟩;have HE:=A5 (he.keep hdw);have HOD:=A5 (hD.keep hdw);have HOM:=A5 (hM.keep hdw);have HOY:=A5 (hY.keep hdw);have HB:=A5 (andthen hb hdw);have HO3:=A5 (HO.out.keep HB.out);have HX3:=A5 (HX.out.keep HB.out);have HZ:Hid (w.heap.size+3<=wc.drew.heap.size):=A5 (by have:=hr.lt;exact this);clear hp he hr hD hM hY hb hdw HO HX;go_wp2_with fail
  try simp only [List.append]
  refine wp_region_held_drew (S:=(fun w'=>w'.cell? ⟨w.heap.size,0,none⟩=some (.string U)/\w'.cell? ⟨w.heap.size,1,none⟩=some (.string T)/\w'.cell? ⟨w.heap.size,2,none⟩=some (.int .i64 s)/\w'.cell? ⟨w.heap.size,3,none⟩=some (.int .i64 l)/\w'.cell? ⟨w.heap.size,11,none⟩=some (.slice X x.length xc)/\w'.cell? ⟨w.heap.size,12,none⟩=some (.slice O o.length oc)/\w'.cell? ⟨w.heap.size+1+1,0,none⟩=some (.int .i64 fr)/\w'.cell? ⟨w.heap.size+1+1,1,none⟩=some (.int .i64 ev)/\w'.cell? ⟨w.heap.size+1+1,2,none⟩=some (.int .i64 ct)/\w'.cell? ⟨w.heap.size+1+1,3,none⟩=some (.int .i64 un)/\w'.cell? ⟨w.heap.size+1+1,4,none⟩=some (.slice D2 ds.length dc2)/\w'.cell? ⟨w.heap.size+1+1,5,none⟩=some (.slice M2 ms.length mc2)/\w'.cell? ⟨w.heap.size+1+1,6,none⟩=some (.slice Y2 ys.length yc2))) (by kernel_rfl) ?_ (fun hH0=>?_)
  ·exact QK (start _).drew hS
  refine' z0L (i:=0) (v:=?v0) rfl (by kernel_rfl) (by kernel_rfl) (by kernel_rfl) ?y0 hH0 ?r0
  case y0=>(intro w hSw;(try dsimp only at hSw);go_simp;(try with_reducible rfl))
  try simp only [Act.put,z0A,z0C,z0D,z0E,z0F]
  refine' z0L (i:=1) (v:=?v1) rfl (by kernel_rfl) (by kernel_rfl) (by kernel_rfl) ?y1 hH0 ?r1
  case y1=>(intro w hSw;(try dsimp only at hSw);go_simp;(try with_reducible rfl))
  try simp only [Act.put,z0A,z0B,z0C,z0D,z0E,z0F]
  refine' z0L (i:=2) (v:=?v2) rfl (by kernel_rfl) (by kernel_rfl) (by kernel_rfl) ?y2 hH0 ?r2
  case y2=>(intro w hSw;(try dsimp only at hSw);go_simp;(try with_reducible rfl))
  try simp only [Act.put,z0A,z0B,z0C,z0D,z0E,z0F]
  refine' z0L (i:=3) (v:=?v3) rfl (by kernel_rfl) (by kernel_rfl) (by kernel_rfl) ?y3 hH0 ?r3
  case y3=>(intro w hSw;(try dsimp only at hSw);go_simp;(try with_reducible rfl))
  try simp only [Act.put,z0A,z0B,z0C,z0D,z0E,z0F]
  refine' z0L (i:=4) (v:=?v4) rfl (by kernel_rfl) (by kernel_rfl) (by kernel_rfl) ?y4 hH0 ?r4
  case y4=>(intro w hSw;(try dsimp only at hSw);go_simp;(try with_reducible rfl))
  try simp only [Act.put,z0A,z0B,z0C,z0D,z0E,z0F]
  refine' z0L (i:=5) (v:=?v5) rfl (by kernel_rfl) (by kernel_rfl) (by kernel_rfl) ?y5 hH0 ?r5
  case y5=>(intro w hSw;(try dsimp only at hSw);go_simp;(try with_reducible rfl))
  try simp only [Act.put,z0A,z0B,z0C,z0D,z0E,z0F]
  refine' z0L (i:=6) (v:=?v6) rfl (by kernel_rfl) (by kernel_rfl) (by kernel_rfl) ?y6 hH0 ?r6
  case y6=>(intro w hSw;(try dsimp only at hSw);go_simp;(try with_reducible rfl))
  try simp only [Act.put,z0A,z0B,z0C,z0D,z0E,z0F]
  refine' z0L (i:=7) (v:=?v7) rfl (by kernel_rfl) (by kernel_rfl) (by kernel_rfl) ?y7 hH0 ?r7
  case y7=>(intro w hSw;(try dsimp only at hSw);go_simp;(try with_reducible rfl))
  try simp only [Act.put,z0A,z0B,z0C,z0D,z0E,z0F]
  refine' z0L (i:=8) (v:=?v8) rfl (by kernel_rfl) (by kernel_rfl) (by kernel_rfl) ?y8 hH0 ?r8
  case y8=>(intro w hSw;(try dsimp only at hSw);go_simp;(try with_reducible rfl))
  try simp only [Act.put,z0A,z0B,z0C,z0D,z0E,z0F]
  refine' z0L (i:=9) (v:=?v9) rfl (by kernel_rfl) (by kernel_rfl) (by kernel_rfl) ?y9 hH0 ?r9
  case y9=>(intro w hSw;(try dsimp only at hSw);go_simp;(try with_reducible rfl))
  try simp only [Act.put,z0A,z0B,z0C,z0D,z0E,z0F]
  refine' z0L (i:=10) (v:=?v10) rfl (by kernel_rfl) (by kernel_rfl) (by kernel_rfl) ?y10 hH0 ?r10
  case y10=>(intro w hSw;(try dsimp only at hSw);go_simp;(try with_reducible rfl))
  try simp only [Act.put,z0A,z0B,z0C,z0D,z0E,z0F]
  refine' z0L (i:=11) (v:=?v11) rfl (by kernel_rfl) (by kernel_rfl) (by kernel_rfl) ?y11 hH0 ?r11
  case y11=>(intro w hSw;(try dsimp only at hSw);go_simp;(try with_reducible rfl))
  try simp only [Act.put,z0A,z0B,z0C,z0D,z0E,z0F]
  refine' z0L (i:=12) (v:=?v12) rfl (by kernel_rfl) (by kernel_rfl) (by kernel_rfl) ?y12 hH0 ?r12
  case y12=>(intro w hSw;(try dsimp only at hSw);go_simp;(try with_reducible rfl))
  try simp only [Act.put,z0A,z0B,z0C,z0D,z0E,z0F]
  refine' z0L (i:=13) (v:=?v13) rfl (by kernel_rfl) (by kernel_rfl) (by kernel_rfl) ?y13 hH0 ?r13
  case y13=>(intro w hSw;(try dsimp only at hSw);go_simp;(try with_reducible rfl))
  try simp only [Act.put,z0A,z0B,z0C,z0D,z0E,z0F]
  refine' z0L (i:=14) (v:=?v14) rfl (by kernel_rfl) (by kernel_rfl) (by kernel_rfl) ?y14 hH0 ?r14
  case y14=>(intro w hSw;(try dsimp only at hSw);go_simp;(try with_reducible rfl))
  try simp only [Act.put,z0A,z0B,z0C,z0D,z0E,z0F]
  refine' z0L (i:=16) (v:=?v15) rfl (by kernel_rfl) (by kernel_rfl) (by kernel_rfl) ?y15 hH0 ?r15
  case y15=>(intro w hSw;(try dsimp only at hSw);go_simp;(try with_reducible rfl))
  try simp only [Act.put,z0A,z0B,z0C,z0D,z0E,z0F]
  refine' z0L (i:=17) (v:=?v16) rfl (by kernel_rfl) (by kernel_rfl) (by kernel_rfl) ?y16 hH0 ?r16
  case y16=>(intro w hSw;(try dsimp only at hSw);go_simp;(try with_reducible rfl))
  try simp only [Act.put,z0A,z0B,z0C,z0D,z0E,z0F]
  refine' z0L (i:=18) (v:=?v17) rfl (by kernel_rfl) (by kernel_rfl) (by kernel_rfl) ?y17 hH0 ?r17
  case y17=>(intro w hSw;(try dsimp only at hSw);go_simp;(try with_reducible rfl))
  try simp only [Act.put,z0A,z0B,z0C,z0D,z0E,z0F]
  refine' z0L (i:=19) (v:=?v18) rfl (by kernel_rfl) (by kernel_rfl) (by kernel_rfl) ?y18 hH0 ?r18
  case y18=>(intro w hSw;(try dsimp only at hSw);go_simp;(try with_reducible rfl))
  try simp only [Act.put,z0A,z0B,z0C,z0D,z0E,z0F]
  refine wpAnyH_ready (rs:=[15]) (by as_aux_lemma=>kernel_rfl) (by simp) ?_;refine AllReadyH.cons (o:=_) rfl (fun K hK=>?_) AllReadyH.nil
  go_simp
  refine (SY O _ oc o _ HO3.out rfl hol2).mono ?_;rintro e w2 ⟨vO,rfl,hownO,hb⟩;obtain ⟨O2,oc2,rfl,hrowO⟩:=BV.row hownO;clear hrowO;have HOO:=A5 (BV.down hownO HZ.out);clear hownO;replace HE:=A5 (HE.out.keep hb);replace HOD:=A5 (HOD.out.keep hb);replace HOM:=A5 (HOM.out.keep hb);replace HOY:=A5 (HOY.out.keep hb);replace HX3:=A5 (HX3.out.keep hb);replace HB:=A5 (andthen HB.out hb);have HZ2:=A5 (Nat.le_trans HZ.out hb.size);clear HZ;have HZ:=HZ2;clear HZ2;refine hK.out _ _ (QK hb hH0) (fun hN=>?_);clear hK K hH0;have hH1:=hN;clear hN
  try simp only [Act.put,z0A,z0B,z0C,z0D,z0E,z0F]
  refine wpAnyH_ready (rs:=[20]) (by as_aux_lemma=>kernel_rfl) (by simp) ?_;refine AllReadyH.cons (o:=_) rfl (fun K hK=>?_) AllReadyH.nil
  go_simp
  refine (SY X _ xc x _ HX3.out rfl hxl2).mono ?_;rintro e w2b ⟨vX,rfl,hownX,hb⟩;obtain ⟨X2,xc2,rfl,hrowX⟩:=BV.row hownX;clear hrowX;have HOX:=A5 (BV.down hownX HZ.out);clear hownX;replace HOO:=A5 (HOO.out.keep hb);replace HE:=A5 (HE.out.keep hb);replace HOD:=A5 (HOD.out.keep hb);replace HOM:=A5 (HOM.out.keep hb);replace HOY:=A5 (HOY.out.keep hb);replace HX3:=A5 (HX3.out.keep hb);replace HB:=A5 (andthen HB.out hb);have HZ2:=A5 (Nat.le_trans HZ.out hb.size);clear HZ;have HZ:=HZ2;clear HZ2;have z0:w2b.cell? ⟨w.heap.size+1,0,none⟩=some (.string ⟨#[]⟩):=HE.out.cell 0 (by simp);have gz0:=HE.out.free 0;have z1:w2b.cell? ⟨w.heap.size+1,1,none⟩=some (.string ⟨#[]⟩):=HE.out.cell 1 (by simp);have gz1:=HE.out.free 1;have z2:w2b.cell? ⟨w.heap.size+1,2,none⟩=some (.int .i64 0):=HE.out.cell 2 (by simp);have gz2:=HE.out.free 2;have z3:w2b.cell? ⟨w.heap.size+1,3,none⟩=some (.int .i64 0):=HE.out.cell 3 (by simp);have gz3:=HE.out.free 3;have z4:w2b.cell? ⟨w.heap.size+1,4,none⟩=some (.slice none 0 0):=HE.out.cell 4 (by simp);have gz4:=HE.out.free 4;have z5:w2b.cell? ⟨w.heap.size+1,5,none⟩=some (.int .i64 0):=HE.out.cell 5 (by simp);have gz5:=HE.out.free 5;have z6:w2b.cell? ⟨w.heap.size+1,6,none⟩=some (.int .i64 0):=HE.out.cell 6 (by simp);have gz6:=HE.out.free 6;have z7:w2b.cell? ⟨w.heap.size+1,7,none⟩=some (.int .i64 0):=HE.out.cell 7 (by simp);have gz7:=HE.out.free 7;have z8:w2b.cell? ⟨w.heap.size+1,8,none⟩=some (.int .i64 0):=HE.out.cell 8 (by simp);have gz8:=HE.out.free 8;have z9:w2b.cell? ⟨w.heap.size+1,9,none⟩=some (.slice none 0 0):=HE.out.cell 9 (by simp);have gz9:=HE.out.free 9;have z10:w2b.cell? ⟨w.heap.size+1,10,none⟩=some (.slice none 0 0):=HE.out.cell 10 (by simp);have gz10:=HE.out.free 10;have z11:w2b.cell? ⟨w.heap.size+1,11,none⟩=some (.slice none 0 0):=HE.out.cell 11 (by simp);have gz11:=HE.out.free 11;have z12:w2b.cell? ⟨w.heap.size+1,12,none⟩=some (.slice none 0 0):=HE.out.cell 12 (by simp);have gz12:=HE.out.free 12;refine hK.out _ _ (QK hb hH1) (fun hN=>?_);clear hK K hH1;have hH2:=hN;clear hN
  try simp only [Act.put,z0A,z0B,z0C,z0D,z0E,z0F]
  refine' z0L (i:=21) (v:=?v19) rfl (by kernel_rfl) (by kernel_rfl) (by kernel_rfl) ?y19 hH2 ?r19
  case y19=>(intro w hSw;(try dsimp only at hSw);go_simp;(try with_reducible rfl))
  try simp only [Act.put,z0A,z0B,z0C,z0D,z0E,z0F]
  refine wpAnyH_ready (rs:=[22]) (by as_aux_lemma=>kernel_rfl) (by simp) ?_;refine AllReadyH.cons (o:=_) rfl (fun K hK=>?_) AllReadyH.nil
  go_simp
  refine hK.out _ _ (tT (W:=w2b) (P:=w.heap.size) (R:=w.heap.size+1+1) (E:=w.heap.size+1) [.string U,.string T,.int .i64 s,.int .i64 l,.slice O2 o.length oc2,.int .i64 fr,.int .i64 ev,.int .i64 ct,.int .i64 un,.slice D2 ds.length dc2,.slice M2 ms.length mc2,.slice Y2 ys.length yc2,.slice X2 x.length xc2] (by omega) (by omega) hH2) (fun hN=>?_);clear hK K hH2;have hH3:=hN;clear hN
  try simp only [Act.put,z0A,z0B,z0C,z0D,z0E,z0F]
  refine wpAnyH_done (by as_aux_lemma=>kernel_rfl) ?_ _;clear hH3 z0 gz0 z1 gz1 z2 gz2 z3 gz3 z4 gz4 z5 gz5 z6 gz6 z7 gz7 z8 gz8 z9 gz9 z10 gz10 z11 gz11 z12 gz12;go_wp2_with fail;obtain rfl:=HU.out;obtain rfl:=HT.out;refine B6 (FinE w (w.heap.size+1) ⟨u,t,s,l,o,⟨fr,ev,ct,un,ds,ms,ys⟩,x⟩ ⟨O2,oc2,D2,dc2,M2,mc2,Y2,yc2,X2,xc2⟩) (l9 HE.out rfl (by omega) (by omega) ⟨HOO.out,HOX.out,HOD.out,HOM.out,HOY.out,hol,hxl,hds3,hms3,hys3,hul,htl⟩ HB.out) ?_;rintro WF ⟨hk,hn,hb⟩;obtain ⟨⟨k0,-⟩,⟨k1,-⟩,⟨k2,-⟩,⟨k3,-⟩,⟨k4,-⟩,⟨k5,-⟩,⟨k6,-⟩,⟨k7,-⟩,⟨k8,-⟩,⟨k9,-⟩,⟨k10,-⟩,⟨k11,-⟩,⟨k12,-⟩⟩:=hk.c13;exact bodyPost_ret (v:=.agg #[.string (str u),.string (str t),.int .i64 s,.int .i64 l,.slice O2 o.length oc2,.int .i64 fr,.int .i64 ev,.int .i64 ct,.int .i64 un,.slice D2 ds.length dc2,.slice M2 ms.length mc2,.slice Y2 ys.length yc2,.slice X2 x.length xc2]) (by simp [results,Tryz.results146,go_sem,k0,k1,k2,k3,k4,k5,k6,k7,k8,k9,k10,k11,k12]) rfl ⟨⟨O2,oc2,D2,dc2,M2,mc2,Y2,yc2,X2,xc2⟩,rfl,hn,hb⟩
end Go.Proofs.YtfecnkhoojnkbaaGreatDoor

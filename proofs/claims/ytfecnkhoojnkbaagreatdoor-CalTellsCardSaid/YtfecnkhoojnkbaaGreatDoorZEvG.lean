/- Walks of package event: blocks of cells; an event with lists of its own: event, Copy. -/
import Derived.Deep.Cut
import Derived.Deep.DeepCutAuto
import Derived.Deep.RegionWith
import Derived.Test.YtfecnkhoojnkbaaGreatDoorZEvF
set_option maxHeartbeats 8000000
set_option maxRecDepth 100000
namespace Go.Proofs.YtfecnkhoojnkbaaGreatDoor
open Go.RowKit Rul Rt Go.Sort
structure BlkAt (w : World) (b : Nat) (vs : List Value) : Prop where
 cell : ∀ i (h : i < vs.length),w.cell? ⟨b,i,none⟩ = some vs[i]
 free : ∀ i,w.frozen? ⟨b,i,none⟩ = false
 lt : b < w.heap.size
theorem blk_new (w : World) (vs : Array Value) (t : TypeId) : BlkAt (w.alloc (.cells vs t)) w.heap.size vs.toList :=
 ⟨fun i h => cell_new w vs t i _ (by rw [Array.length_toList] at h; rw [Array.getElem?_eq_getElem h]; simp),fun i => World.frozen?_alloc_at _ _ _ _ rfl,by simp⟩
theorem BlkAt.keep {w w' : World} {b : Nat} {vs : List Value} (h : BlkAt w b vs) (hb : Below w.heap.size w w') : BlkAt w' b vs :=
 ⟨fun i hi => cell_keep hb (h.cell i hi),fun i => (hb.frozen (p:=⟨b,i,none⟩) h.lt).trans (h.free i),Nat.lt_of_lt_of_le h.lt hb.size⟩
theorem BlkAt.grow {w w' : World} {b : Nat} {vs : List Value} {row : Option Nat} (h : BlkAt w b vs) (g : w.grownBy w' row) (hne : some b ≠ row) : BlkAt w' b vs :=
 ⟨fun i hi => g.cell (h.cell i hi) hne,fun i => (World.frozen?_of_block (g.block b h.lt hne)).trans (h.free i),Nat.lt_of_lt_of_le h.lt g.size⟩
theorem BlkAt.set {w : World} {b : Nat} {vs : List Value} (h : BlkAt w b vs) (i : Nat) (y : Value) (hi : i < vs.length) : BlkAt (w.setCell ⟨b,i,none⟩ y) b (vs.set i y):=by
 refine ⟨fun j hj => ?_,fun j => by rw [World.frozen?_setCell]; exact h.free j,by rw [World.size_setCell]; exact h.lt⟩
 have hj2 : j < vs.length:=by simpa using hj
 by_cases e : j = i
 ·subst e
  rw [World.cell?_setCell_same _ _ _ (h.cell j hj2)]; simp
 ·rw [World.cell?_setCell_other _ _ _ _ (by intro hc; injection hc with _ hc1; omega),h.cell j hj2,List.getElem_set_ne (by omega)]
theorem BlkAt.far {w : World} {b c i : Nat} {vs : List Value} {y : Value} (h : BlkAt w b vs) (hne : c ≠ b) : BlkAt (w.setCell ⟨c,i,none⟩ y) b vs :=
 ⟨fun j hj => (World.cell?_setCell_far w _ _ _ hne).trans (h.cell j hj),fun j => by rw [World.frozen?_setCell]; exact h.free j,by rw [World.size_setCell]; exact h.lt⟩
theorem BlkAt.is {w : World} {b : Nat} {vs us : List Value} (h : BlkAt w b vs) (e : vs = us) : BlkAt w b us:=e ▸ h
theorem BlkAt.c13 {w : World} {b : Nat} {v0 v1 v2 v3 v4 v5 v6 v7 v8 v9 v10 v11 v12 : Value} (h : BlkAt w b [v0,v1,v2,v3,v4,v5,v6,v7,v8,v9,v10,v11,v12]) : (w.cell? ⟨b,0,none⟩ = some v0 /\ w.frozen? ⟨b,0,none⟩ = false) /\ (w.cell? ⟨b,1,none⟩ = some v1 /\ w.frozen? ⟨b,1,none⟩ = false) /\ (w.cell? ⟨b,2,none⟩ = some v2 /\ w.frozen? ⟨b,2,none⟩ = false) /\ (w.cell? ⟨b,3,none⟩ = some v3 /\ w.frozen? ⟨b,3,none⟩ = false) /\ (w.cell? ⟨b,4,none⟩ = some v4 /\ w.frozen? ⟨b,4,none⟩ = false) /\ (w.cell? ⟨b,5,none⟩ = some v5 /\ w.frozen? ⟨b,5,none⟩ = false) /\ (w.cell? ⟨b,6,none⟩ = some v6 /\ w.frozen? ⟨b,6,none⟩ = false) /\ (w.cell? ⟨b,7,none⟩ = some v7 /\ w.frozen? ⟨b,7,none⟩ = false) /\ (w.cell? ⟨b,8,none⟩ = some v8 /\ w.frozen? ⟨b,8,none⟩ = false) /\ (w.cell? ⟨b,9,none⟩ = some v9 /\ w.frozen? ⟨b,9,none⟩ = false) /\ (w.cell? ⟨b,10,none⟩ = some v10 /\ w.frozen? ⟨b,10,none⟩ = false) /\ (w.cell? ⟨b,11,none⟩ = some v11 /\ w.frozen? ⟨b,11,none⟩ = false) /\ (w.cell? ⟨b,12,none⟩ = some v12 /\ w.frozen? ⟨b,12,none⟩ = false) :=
 ⟨⟨h.cell 0 (by simp),h.free 0⟩,⟨h.cell 1 (by simp),h.free 1⟩,⟨h.cell 2 (by simp),h.free 2⟩,⟨h.cell 3 (by simp),h.free 3⟩,⟨h.cell 4 (by simp),h.free 4⟩,⟨h.cell 5 (by simp),h.free 5⟩,⟨h.cell 6 (by simp),h.free 6⟩,⟨h.cell 7 (by simp),h.free 7⟩,⟨h.cell 8 (by simp),h.free 8⟩,⟨h.cell 9 (by simp),h.free 9⟩,⟨h.cell 10 (by simp),h.free 10⟩,⟨h.cell 11 (by simp),h.free 11⟩,⟨h.cell 12 (by simp),h.free 12⟩⟩
theorem BlkAt.c14 {w : World} {b : Nat} {v0 v1 v2 v3 v4 v5 v6 v7 v8 v9 v10 v11 v12 v13 : Value} (h : BlkAt w b [v0,v1,v2,v3,v4,v5,v6,v7,v8,v9,v10,v11,v12,v13]) : (w.cell? ⟨b,0,none⟩ = some v0 /\ w.frozen? ⟨b,0,none⟩ = false) /\ (w.cell? ⟨b,1,none⟩ = some v1 /\ w.frozen? ⟨b,1,none⟩ = false) /\ (w.cell? ⟨b,2,none⟩ = some v2 /\ w.frozen? ⟨b,2,none⟩ = false) /\ (w.cell? ⟨b,3,none⟩ = some v3 /\ w.frozen? ⟨b,3,none⟩ = false) /\ (w.cell? ⟨b,4,none⟩ = some v4 /\ w.frozen? ⟨b,4,none⟩ = false) /\ (w.cell? ⟨b,5,none⟩ = some v5 /\ w.frozen? ⟨b,5,none⟩ = false) /\ (w.cell? ⟨b,6,none⟩ = some v6 /\ w.frozen? ⟨b,6,none⟩ = false) /\ (w.cell? ⟨b,7,none⟩ = some v7 /\ w.frozen? ⟨b,7,none⟩ = false) /\ (w.cell? ⟨b,8,none⟩ = some v8 /\ w.frozen? ⟨b,8,none⟩ = false) /\ (w.cell? ⟨b,9,none⟩ = some v9 /\ w.frozen? ⟨b,9,none⟩ = false) /\ (w.cell? ⟨b,10,none⟩ = some v10 /\ w.frozen? ⟨b,10,none⟩ = false) /\ (w.cell? ⟨b,11,none⟩ = some v11 /\ w.frozen? ⟨b,11,none⟩ = false) /\ (w.cell? ⟨b,12,none⟩ = some v12 /\ w.frozen? ⟨b,12,none⟩ = false) /\ (w.cell? ⟨b,13,none⟩ = some v13 /\ w.frozen? ⟨b,13,none⟩ = false) :=
 ⟨⟨h.cell 0 (by simp),h.free 0⟩,⟨h.cell 1 (by simp),h.free 1⟩,⟨h.cell 2 (by simp),h.free 2⟩,⟨h.cell 3 (by simp),h.free 3⟩,⟨h.cell 4 (by simp),h.free 4⟩,⟨h.cell 5 (by simp),h.free 5⟩,⟨h.cell 6 (by simp),h.free 6⟩,⟨h.cell 7 (by simp),h.free 7⟩,⟨h.cell 8 (by simp),h.free 8⟩,⟨h.cell 9 (by simp),h.free 9⟩,⟨h.cell 10 (by simp),h.free 10⟩,⟨h.cell 11 (by simp),h.free 11⟩,⟨h.cell 12 (by simp),h.free 12⟩,⟨h.cell 13 (by simp),h.free 13⟩⟩
def setAll (w : World) (b : Nat) : Nat -> List Value -> World
 | _,[] => w
 | i,v :: vs => setAll (w.setCell ⟨b,i,none⟩ v) b (i + 1) vs
theorem blk_all : ∀ (us : List Value) (w : World) (b i : Nat) (vs : List Value),i + us.length = vs.length -> BlkAt w b vs -> BlkAt (setAll w b i us) b (vs.take i ++ us)
 | [],w,b,i,vs,hl,h => by
  rw [List.append_nil,List.take_of_length_le (by simp at hl; omega)]; exact h
 | u :: us,w,b,i,vs,hl,h => by
  have hi : i < vs.length:=by rw [List.length_cons] at hl; omega
  have:=blk_all us (w.setCell ⟨b,i,none⟩ u) b (i + 1) (vs.set i u) (by rw [List.length_set,<- hl,List.length_cons]; omega) (h.set i u hi)
  have e : (vs.set i u).take (i + 1) ++ us = vs.take i ++ u :: us:=by
   rw [List.take_succ_eq_append_getElem (by rw [List.length_set]; exact hi),List.take_set_of_le (Nat.le_refl i)]; simp
  rw [e] at this
  exact this
theorem BlkAt.all {w : World} {b : Nat} {vs : List Value} (h : BlkAt w b vs) (us : List Value) (hl : us.length = vs.length) : BlkAt (setAll w b 0 us) b us:=by
 have:=blk_all us w b 0 vs (by omega) h
 rw [List.take_zero,List.nil_append] at this
 exact this
theorem all_below (us : List Value) : ∀ {B : Nat} {w0 w : World} (b i : Nat),Below B w0 w -> B <= b -> Below B w0 (setAll w b i us):=by
 induction us with
 | nil => intro B w0 w b i h _; exact h
 | cons u us ih => intro B w0 w b i h hb; exact ih b (i + 1) (Below.setCell h (p:=⟨b,i,none⟩) hb u) hb
theorem all_grown (us : List Value) : ∀ (w : World) (b i : Nat),w.grownBy (setAll w b i us) (some b):=by
 induction us with
 | nil => intro w b i; exact grown_below (start w)
 | cons u us ih => intro w b i; exact World.grownBy.trans (grown_set (start w)) (ih (w.setCell ⟨b,i,none⟩ u) b (i + 1))
theorem BlkAt.past {w : World} {b c : Nat} {vs : List Value} (h : BlkAt w b vs) (us : List Value) (i : Nat) (hne : c ≠ b) : BlkAt (setAll w c i us) b vs:=h.grow (all_grown us w c i) (fun e => hne (by injection e with e; exact e.symm))
theorem ownI_past {w : World} {B c : Nat} {v : Value} {k : List Int} (h : OwnI w B v k) (us : List Value) (i : Nat) (hc : c < B) : OwnI (setAll w c i us) B v k :=
 World.ownsRow.kept h (all_grown us w c i) (Or.inr fun e => by have:=(h.lt c e).1; omega)
theorem ownD_past {w : World} {B c : Nat} {v : Value} {k : List Wd} (h : OwnD w B v k) (us : List Value) (i : Nat) (hc : c < B) : OwnD (setAll w c i us) B v k :=
 World.ownsRow.kept h (all_grown us w c i) (Or.inr fun e => by have:=(h.lt c e).1; omega)
structure MidE (w : World) (pv : List Value) (fr ev ct un : Int) (ds : List Wd) (ms ys : List Int) (wx : World) : Prop where
 p : BlkAt wx w.heap.size pv
 e : BlkAt wx (w.heap.size + 1) [.string ⟨#[]⟩,.string ⟨#[]⟩,.int .i64 0,.int .i64 0,.slice none 0 0,.int .i64 0,.int .i64 0,.int .i64 0,.int .i64 0,.slice none 0 0,.slice none 0 0,.slice none 0 0,.slice none 0 0]
 r : ∃ vD vM vY,BlkAt wx (w.heap.size + 1 + 1) [.int .i64 fr,.int .i64 ev,.int .i64 ct,.int .i64 un,vD,vM,vY] /\ OwnD wx (w.heap.size + 3) vD ds /\ OwnI wx (w.heap.size + 3) vM ms /\ OwnI wx (w.heap.size + 3) vY ys
 b : Below w.heap.size w wx
theorem mid_start (w : World) (pv ze rv : Array Value) (t1 t2 t3 : TypeId) : BlkAt (((w.alloc (.cells pv t1)).alloc (.cells ze t2)).alloc (.cells rv t3)) w.heap.size pv.toList /\ BlkAt (((w.alloc (.cells pv t1)).alloc (.cells ze t2)).alloc (.cells rv t3)) (w.heap.size + 1) ze.toList /\ BlkAt (((w.alloc (.cells pv t1)).alloc (.cells ze t2)).alloc (.cells rv t3)) (w.heap.size + 1 + 1) rv.toList:=by
 have h1:=blk_new w pv t1
 have h2:=blk_new (w.alloc (.cells pv t1)) ze t2
 have h3:=blk_new ((w.alloc (.cells pv t1)).alloc (.cells ze t2)) rv t3
 simp only [World.size_alloc] at h2 h3
 exact ⟨(h1.keep (more (start _) _)).keep (more (start _) _),h2.keep (more (start _) _),h3⟩
theorem mid_end {w w3 : World} {pv : List Value} {fr ev ct un : Int} {ds : List Wd} {ms ys : List Int} {x4 x5 x6 vD vM vY : Value} (hp : BlkAt w3 w.heap.size pv) (he : BlkAt w3 (w.heap.size + 1) [.string ⟨#[]⟩,.string ⟨#[]⟩,.int .i64 0,.int .i64 0,.slice none 0 0,.int .i64 0,.int .i64 0,.int .i64 0,.int .i64 0,.slice none 0 0,.slice none 0 0,.slice none 0 0,.slice none 0 0]) (hr : BlkAt w3 (w.heap.size + 1 + 1) [.int .i64 fr,.int .i64 ev,.int .i64 ct,.int .i64 un,x4,x5,x6])
  (hD : OwnD w3 (w.heap.size + 3) vD ds) (hM : OwnI w3 (w.heap.size + 3) vM ms) (hY : OwnI w3 (w.heap.size + 3) vY ys) (hb : Below w.heap.size w w3) :
  MidE w pv fr ev ct un ds ms ys (((w3.setCell ⟨w.heap.size + 1 + 1,4,none⟩ vD).setCell ⟨w.heap.size + 1 + 1,5,none⟩ vM).setCell ⟨w.heap.size + 1 + 1,6,none⟩ vY):=by
 have hs:=((hr.set 4 vD (by simp)).set 5 vM (by simp)).set 6 vY (by simp)
 have e : setAll w3 (w.heap.size + 1 + 1) 4 [vD,vM,vY] = (((w3.setCell ⟨w.heap.size + 1 + 1,4,none⟩ vD).setCell ⟨w.heap.size + 1 + 1,5,none⟩ vM).setCell ⟨w.heap.size + 1 + 1,6,none⟩ vY):=rfl
 refine ⟨e ▸ hp.past _ _ (by omega),e ▸ he.past _ _ (by omega),⟨vD,vM,vY,hs,e ▸ ownD_past hD _ _ (by omega),e ▸ ownI_past hM _ _ (by omega),e ▸ ownI_past hY _ _ (by omega)⟩,e ▸ all_below _ _ _ hb (by omega)⟩
theorem lies_own {w : World} {B : Nat} {D M Y : Option Addr} {dc mc yc : Nat} {ds : List Wd} {ms ys : List Int} (hD : OwnD w B (.slice D ds.length dc) ds) (hM : OwnI w B (.slice M ms.length mc) ms) (hY : OwnI w B (.slice Y ys.length yc) ys) (hd : ds.length <= 10000) (hm : ms.length <= 10000) (hy : ys.length <= 10000) : Lies w D ds.length M ms.length Y ys.length ds ms ys:=by
 obtain ⟨_,_,e1,r1⟩:=OwnD.row hD
 obtain ⟨_,_,e2,r2⟩:=OwnI.row hM
 obtain ⟨_,_,e3,r3⟩:=OwnI.row hY
 injection e1 with e1 _ _
 injection e2 with e2 _ _
 injection e3 with e3 _ _
 subst e1 e2 e3
 exact ⟨r1,rfl,hd,r2,rfl,hm,r3,rfl,hy⟩
theorem row_own {w : World} {B : Nat} {O : Option Addr} {oc : Nat} {o : List Int} (h : OwnI w B (.slice O o.length oc) o) : RowI w O o:=by
 obtain ⟨_,_,e1,r1⟩:=OwnI.row h
 injection e1 with e1 _ _
 subst e1
 exact r1
structure NewE (w : World) (B : Nat) (e : Ev.E) (m : Mem) : Prop where
 o : OwnI w B (.slice m.O e.rooms.length m.oc) e.rooms
 x : OwnI w B (.slice m.X e.ex.length m.xc) e.ex
 d : OwnD w B (.slice m.D e.r.ds.length m.dc) e.r.ds
 mm : OwnI w B (.slice m.M e.r.ms.length m.mc) e.r.ms
 y : OwnI w B (.slice m.Y e.r.ys.length m.yc) e.r.ys
 ol : e.rooms.length <= 1000
 xl : e.ex.length <= 1000
 dl : e.r.ds.length <= 10000
 ml : e.r.ms.length <= 10000
 yl : e.r.ys.length <= 10000
 ul : e.uid.length <= 40000
 tl : e.text.length <= 40000
theorem NewE.lies {w : World} {B : Nat} {e : Ev.E} {m : Mem} (h : NewE w B e m) : EvL w e m :=
 ⟨row_own h.o,h.ol,lies_own h.d h.mm h.y h.dl h.ml h.yl,row_own h.x,h.xl,h.ul,h.tl⟩
theorem NewE.keep {w w1 : World} {B : Nat} {e : Ev.E} {m : Mem} (h : NewE w B e m) (hb : Below w.heap.size w w1) : NewE w1 B e m :=
 ⟨h.o.keep hb,h.x.keep hb,h.d.keep hb,h.mm.keep hb,h.y.keep hb,h.ol,h.xl,h.dl,h.ml,h.yl,h.ul,h.tl⟩
theorem NewE.down {w : World} {B B2 : Nat} {e : Ev.E} {m : Mem} (h : NewE w B e m) (hb : B2 <= B) : NewE w B2 e m :=
 ⟨h.o.down hb,h.x.down hb,h.d.down hb,h.mm.down hb,h.y.down hb,h.ol,h.xl,h.dl,h.ml,h.yl,h.ul,h.tl⟩
theorem NewE.past {w : World} {B c : Nat} {e : Ev.E} {m : Mem} (h : NewE w B e m) (us : List Value) (i : Nat) (hc : c < B) : NewE (setAll w c i us) B e m :=
 ⟨ownI_past h.o us i hc,ownI_past h.x us i hc,ownD_past h.d us i hc,ownI_past h.mm us i hc,ownI_past h.y us i hc,h.ol,h.xl,h.dl,h.ml,h.yl,h.ul,h.tl⟩
structure FinE (w : World) (b : Nat) (e : Ev.E) (m : Mem) (W : World) : Prop where
 k : BlkAt W b [.string (str e.uid),.string (str e.text),.int .i64 e.st,.int .i64 e.lg,.slice m.O e.rooms.length m.oc,.int .i64 e.r.fr,.int .i64 e.r.ev,.int .i64 e.r.ct,.int .i64 e.r.un,.slice m.D e.r.ds.length m.dc,.slice m.M e.r.ms.length m.mc,.slice m.Y e.r.ys.length m.yc,.slice m.X e.ex.length m.xc]
 n : NewE W w.heap.size e m
 b : Below w.heap.size w W
theorem fin_end {w w3 : World} {b : Nat} {e : Ev.E} {m : Mem} {ze : List Value} {B : Nat} (he : BlkAt w3 b ze) (hz : ze.length = 13) (hB : b < B) (hw : w.heap.size <= b) (hn : NewE w3 B e m) (hb : Below w.heap.size w w3) :
  FinE w b e m (setAll w3 b 0 [.string (str e.uid),.string (str e.text),.int .i64 e.st,.int .i64 e.lg,.slice m.O e.rooms.length m.oc,.int .i64 e.r.fr,.int .i64 e.r.ev,.int .i64 e.r.ct,.int .i64 e.r.un,.slice m.D e.r.ds.length m.dc,.slice m.M e.r.ms.length m.mc,.slice m.Y e.r.ys.length m.yc,.slice m.X e.ex.length m.xc]) :=
 ⟨he.all _ (by rw [hz]; rfl),(hn.past _ _ hB).down (by omega),all_below _ _ _ hb hw⟩
theorem ownD_ex (A : Option Addr) (m c : Nat) (k : List Wd) (w : World) (hrow : RowD w A k) (hm : m = k.length) (hk : k.length <= 1000000) :
  Calls Tryz.prog 173 #[.slice A m c] w fun e w' => ∃ v,e = .returned v /\ OwnD w' w.heap.size v k /\ Below w.heap.size w w':=ownD_any A m c k w hrow hm hk
theorem ownI_ex (A : Option Addr) (m c : Nat) (k : List Int) (w : World) (hrow : RowI w A k) (hm : m = k.length) (hk : k.length <= 1000000) :
  Calls Tryz.prog 174 #[.slice A m c] w fun e w' => ∃ v,e = .returned v /\ OwnI w' w.heap.size v k /\ Below w.heap.size w w':=ownI_any A m c k w hrow hm hk
def GivesV (w : World) (e : Ev.E) (x : Ending) (w' : World) : Prop:=∃ m,x = .returned (evV e m) /\ NewE w' w.heap.size e m /\ Below w.heap.size w w'
theorem OwnD.row2 {w : World} {B : Nat} {v : Value} {l : List Wd} (h : OwnD w B v l) : ∃ A cap,v = .slice A l.length cap /\ RowD w A l:=OwnD.row h
theorem ev_keep13 {W W1 : World} {P R : Nat} {v0 v1 v2 v3 v4 v5 v6 v7 v8 v9 v10 v11 v12 : Value} (hb : Below W.heap.size W W1) (h : W.cell? ⟨P,0,none⟩ = some v0 /\ W.cell? ⟨P,1,none⟩ = some v1 /\ W.cell? ⟨P,2,none⟩ = some v2 /\ W.cell? ⟨P,3,none⟩ = some v3 /\ W.cell? ⟨P,11,none⟩ = some v4 /\ W.cell? ⟨P,12,none⟩ = some v5 /\ W.cell? ⟨R,0,none⟩ = some v6 /\ W.cell? ⟨R,1,none⟩ = some v7 /\ W.cell? ⟨R,2,none⟩ = some v8 /\ W.cell? ⟨R,3,none⟩ = some v9 /\ W.cell? ⟨R,4,none⟩ = some v10 /\ W.cell? ⟨R,5,none⟩ = some v11 /\ W.cell? ⟨R,6,none⟩ = some v12) : W1.cell? ⟨P,0,none⟩ = some v0 /\ W1.cell? ⟨P,1,none⟩ = some v1 /\ W1.cell? ⟨P,2,none⟩ = some v2 /\ W1.cell? ⟨P,3,none⟩ = some v3 /\ W1.cell? ⟨P,11,none⟩ = some v4 /\ W1.cell? ⟨P,12,none⟩ = some v5 /\ W1.cell? ⟨R,0,none⟩ = some v6 /\ W1.cell? ⟨R,1,none⟩ = some v7 /\ W1.cell? ⟨R,2,none⟩ = some v8 /\ W1.cell? ⟨R,3,none⟩ = some v9 /\ W1.cell? ⟨R,4,none⟩ = some v10 /\ W1.cell? ⟨R,5,none⟩ = some v11 /\ W1.cell? ⟨R,6,none⟩ = some v12:=by
 obtain ⟨h0,h1,h2,h3,h4,h5,h6,h7,h8,h9,h10,h11,h12⟩:=h
 exact ⟨cell_keep hb h0,cell_keep hb h1,cell_keep hb h2,cell_keep hb h3,cell_keep hb h4,cell_keep hb h5,cell_keep hb h6,cell_keep hb h7,cell_keep hb h8,cell_keep hb h9,cell_keep hb h10,cell_keep hb h11,cell_keep hb h12⟩
theorem far_cell {W : World} {b c i : Nat} {v : Value} (us : List Value) (hne : b ≠ c) (h : W.cell? ⟨b,i,none⟩ = some v) : (setAll W c 0 us).cell? ⟨b,i,none⟩ = some v :=
 (all_grown us W c 0).cell h (fun e => hne (by injection e))
theorem ev_far13 {W : World} {P R E : Nat} {v0 v1 v2 v3 v4 v5 v6 v7 v8 v9 v10 v11 v12 : Value} (us : List Value) (h1 : P ≠ E) (h2 : R ≠ E) (h : W.cell? ⟨P,0,none⟩ = some v0 /\ W.cell? ⟨P,1,none⟩ = some v1 /\ W.cell? ⟨P,2,none⟩ = some v2 /\ W.cell? ⟨P,3,none⟩ = some v3 /\ W.cell? ⟨P,11,none⟩ = some v4 /\ W.cell? ⟨P,12,none⟩ = some v5 /\ W.cell? ⟨R,0,none⟩ = some v6 /\ W.cell? ⟨R,1,none⟩ = some v7 /\ W.cell? ⟨R,2,none⟩ = some v8 /\ W.cell? ⟨R,3,none⟩ = some v9 /\ W.cell? ⟨R,4,none⟩ = some v10 /\ W.cell? ⟨R,5,none⟩ = some v11 /\ W.cell? ⟨R,6,none⟩ = some v12) : (setAll W E 0 us).cell? ⟨P,0,none⟩ = some v0 /\ (setAll W E 0 us).cell? ⟨P,1,none⟩ = some v1 /\ (setAll W E 0 us).cell? ⟨P,2,none⟩ = some v2 /\ (setAll W E 0 us).cell? ⟨P,3,none⟩ = some v3 /\ (setAll W E 0 us).cell? ⟨P,11,none⟩ = some v4 /\ (setAll W E 0 us).cell? ⟨P,12,none⟩ = some v5 /\ (setAll W E 0 us).cell? ⟨R,0,none⟩ = some v6 /\ (setAll W E 0 us).cell? ⟨R,1,none⟩ = some v7 /\ (setAll W E 0 us).cell? ⟨R,2,none⟩ = some v8 /\ (setAll W E 0 us).cell? ⟨R,3,none⟩ = some v9 /\ (setAll W E 0 us).cell? ⟨R,4,none⟩ = some v10 /\ (setAll W E 0 us).cell? ⟨R,5,none⟩ = some v11 /\ (setAll W E 0 us).cell? ⟨R,6,none⟩ = some v12:=by
 obtain ⟨h_0,h_1,h_2,h_3,h_4,h_5,h_6,h_7,h_8,h_9,h_10,h_11,h_12⟩:=h
 exact ⟨far_cell us h1 h_0,far_cell us h1 h_1,far_cell us h1 h_2,far_cell us h1 h_3,far_cell us h1 h_4,far_cell us h1 h_5,far_cell us h2 h_6,far_cell us h2 h_7,far_cell us h2 h_8,far_cell us h2 h_9,far_cell us h2 h_10,far_cell us h2 h_11,far_cell us h2 h_12⟩
theorem pevent_any (e : Ev.E) (m : Mem) (w : World) (h : EvL w e m) :
  Calls Tryz.prog 146 #[paV e m] w (GivesV w e):=by
 have hul:=h.ul
 have htl:=h.tl
 have hol:=h.ol
 have hxl:=h.xl
 have hr:=h.r
 have ho:=h.o
 have hx:=h.x
 obtain ⟨u,t,s,l,o,⟨fr,ev,ct,un,ds,ms,ys⟩,x⟩:=e
 obtain ⟨O,oc,D,dc,M,mc,Y,yc,X,xc⟩:=m
 clear h
 unfold GivesV
 simp only [evV,paV] at hul htl hol hxl hr ho hx ⊢
 have hdl : ds.length <= 1000000:=by have:=hr.dl; omega
 have hml : ms.length <= 1000000:=by have:=hr.ml; omega
 have hyl : ys.length <= 1000000:=by have:=hr.yl; omega
 have hxl2 : x.length <= 1000000:=by omega
 have hol2 : o.length <= 1000000:=by omega
 have HO:=hide ho
 have HX:=hide hx
 have HRR:=hide hr
 generalize hU : str u = U at *
 generalize hT : str t = T at *
 have HU:=hide hU
 have HT:=hide hT
 clear hr ho hx hU hT
 go_enter Tryz.func146,Tryz.ntmps146
 go_upto_region 3 with (fail)
 go_cut [] (fun wx => MidE w [.string U,.string T,.int .i64 s,.int .i64 l,.int .i64 fr,.int .i64 ev,.int .i64 ct,.int .i64 un,.slice D ds.length dc,.slice M ms.length mc,.slice Y ys.length yc,.slice X x.length xc,.slice O o.length oc] fr ev ct un ds ms ys wx)
 case first =>
  obtain ⟨hp,he,hrr⟩:=mid_start w #[.string U,.string T,.int .i64 s,.int .i64 l,.int .i64 fr,.int .i64 ev,.int .i64 ct,.int .i64 un,.slice D ds.length dc,.slice M ms.length mc,.slice Y ys.length yc,.slice X x.length xc,.slice O o.length oc] #[.string ⟨#[]⟩,.string ⟨#[]⟩,.int .i64 0,.int .i64 0,.slice none 0 0,.int .i64 0,.int .i64 0,.int .i64 0,.int .i64 0,.slice none 0 0,.slice none 0 0,.slice none 0 0,.slice none 0 0] #[.int .i64 fr,.int .i64 ev,.int .i64 ct,.int .i64 un,.slice D ds.length dc,.slice M ms.length mc,.slice Y ys.length yc] 96 47 44
  have hbw:=more (more (more (start w) (.cells #[.string U,.string T,.int .i64 s,.int .i64 l,.int .i64 fr,.int .i64 ev,.int .i64 ct,.int .i64 un,.slice D ds.length dc,.slice M ms.length mc,.slice Y ys.length yc,.slice X x.length xc,.slice O o.length oc] 96)) (.cells #[.string ⟨#[]⟩,.string ⟨#[]⟩,.int .i64 0,.int .i64 0,.slice none 0 0,.int .i64 0,.int .i64 0,.int .i64 0,.int .i64 0,.slice none 0 0,.slice none 0 0,.slice none 0 0,.slice none 0 0] 47)) (.cells #[.int .i64 fr,.int .i64 ev,.int .i64 ct,.int .i64 un,.slice D ds.length dc,.slice M ms.length mc,.slice Y ys.length yc] 44)
  have HZ : Hid (w.heap.size + 3 <= ((((w.alloc (.cells #[.string U,.string T,.int .i64 s,.int .i64 l,.int .i64 fr,.int .i64 ev,.int .i64 ct,.int .i64 un,.slice D ds.length dc,.slice M ms.length mc,.slice Y ys.length yc,.slice X x.length xc,.slice O o.length oc] 96)).alloc (.cells #[.string ⟨#[]⟩,.string ⟨#[]⟩,.int .i64 0,.int .i64 0,.slice none 0 0,.int .i64 0,.int .i64 0,.int .i64 0,.int .i64 0,.slice none 0 0,.slice none 0 0,.slice none 0 0,.slice none 0 0] 47))).alloc (.cells #[.int .i64 fr,.int .i64 ev,.int .i64 ct,.int .i64 un,.slice D ds.length dc,.slice M ms.length mc,.slice Y ys.length yc] 44)).heap.size):=hide (by simp only [World.size_alloc]; omega)
  generalize ((((w.alloc (.cells #[.string U,.string T,.int .i64 s,.int .i64 l,.int .i64 fr,.int .i64 ev,.int .i64 ct,.int .i64 un,.slice D ds.length dc,.slice M ms.length mc,.slice Y ys.length yc,.slice X x.length xc,.slice O o.length oc] 96)).alloc (.cells #[.string ⟨#[]⟩,.string ⟨#[]⟩,.int .i64 0,.int .i64 0,.slice none 0 0,.int .i64 0,.int .i64 0,.int .i64 0,.int .i64 0,.slice none 0 0,.slice none 0 0,.slice none 0 0,.slice none 0 0] 47))).alloc (.cells #[.int .i64 fr,.int .i64 ev,.int .i64 ct,.int .i64 un,.slice D ds.length dc,.slice M ms.length mc,.slice Y ys.length yc] 44)) = W at *
  have hD:=(start W).drew
  have HB:=hide (andthen hbw hD)
  have HP:=hide (hp.keep hD)
  have HE:=hide (he.keep hD)
  have HR:=hide (hrr.keep hD)
  have HRD:=hide (HRR.out.d.keep HB.out)
  have HRM:=hide (HRR.out.m.keep HB.out)
  have HRY:=hide (HRR.out.y.keep HB.out)
  have HZ2 : Hid (w.heap.size + 3 <= W.drew.heap.size):=HZ
  clear HZ
  have HZ:=HZ2
  clear HZ2
  have c4 : W.drew.cell? ⟨w.heap.size + 1 + 1,4,none⟩ = some (.slice D ds.length dc):=HR.out.cell 4 (by simp)
  have c5 : W.drew.cell? ⟨w.heap.size + 1 + 1,5,none⟩ = some (.slice M ms.length mc):=HR.out.cell 5 (by simp)
  have c6 : W.drew.cell? ⟨w.heap.size + 1 + 1,6,none⟩ = some (.slice Y ys.length yc):=HR.out.cell 6 (by simp)
  have g4:=HR.out.free 4
  have g5:=HR.out.free 5
  have g6:=HR.out.free 6
  clear hp he hrr hbw hD
  go_region_with (first | (go_at_call 173; with_reducible refine (ownD_ex D _ dc ds _ HRD.out rfl hdl).mono ?_; rintro e w2 ⟨vD,rfl,hownD,hb⟩; obtain ⟨D2,dc2,rfl,hrowD⟩:=OwnD.row hownD; clear hrowD; have HOD:=hide (OwnD.down hownD HZ.out); replace HRM:=hide (HRM.out.keep hb); replace HRY:=hide (HRY.out.keep hb); replace HP:=hide (HP.out.keep hb); replace HE:=hide (HE.out.keep hb); replace HR:=hide (HR.out.keep hb); replace HB:=hide (andthen HB.out hb); replace HZ:=hide (Nat.le_trans HZ.out hb.size); replace c4:=cell_keep hb c4; replace c5:=cell_keep hb c5; replace c6:=cell_keep hb c6; replace g4:=HR.out.free 4; replace g5:=HR.out.free 5; replace g6:=HR.out.free 6; clear hb) | (go_at_call 174; with_reducible refine (ownI_ex M _ mc ms _ HRM.out rfl hml).mono ?_; rintro e w2 ⟨vM,rfl,hownM,hb⟩; obtain ⟨M2,mc2,rfl,hrowM⟩:=OwnI.row hownM; clear hrowM; have HOM:=hide (OwnI.down hownM HZ.out); replace HOD:=hide (HOD.out.keep hb); replace HRM:=hide (HRM.out.keep hb); replace HRY:=hide (HRY.out.keep hb); replace HP:=hide (HP.out.keep hb); replace HE:=hide (HE.out.keep hb); replace HR:=hide (HR.out.keep hb); replace HB:=hide (andthen HB.out hb); replace HZ:=hide (Nat.le_trans HZ.out hb.size); replace c4:=cell_keep hb c4; replace c5:=cell_keep hb c5; replace c6:=cell_keep hb c6; replace g4:=HR.out.free 4; replace g5:=HR.out.free 5; replace g6:=HR.out.free 6; clear hb) | (go_at_call 174; with_reducible refine (ownI_ex Y _ yc ys _ HRY.out rfl hyl).mono ?_; rintro e w2 ⟨vY,rfl,hownY,hb⟩; obtain ⟨Y2,yc2,rfl,hrowY⟩:=OwnI.row hownY; clear hrowY; have HOY:=hide (OwnI.down hownY HZ.out); replace HOD:=hide (HOD.out.keep hb); replace HOM:=hide (HOM.out.keep hb); replace HRM:=hide (HRM.out.keep hb); replace HRY:=hide (HRY.out.keep hb); replace HP:=hide (HP.out.keep hb); replace HE:=hide (HE.out.keep hb); replace HR:=hide (HR.out.keep hb); replace HB:=hide (andthen HB.out hb); replace HZ:=hide (Nat.le_trans HZ.out hb.size); replace c4:=cell_keep hb c4; replace c5:=cell_keep hb c5; replace c6:=cell_keep hb c6; replace g4:=HR.out.free 4; replace g5:=HR.out.free 5; replace g6:=HR.out.free 6; clear hb))
  all_goals
   go_wp2_with fail
   go_meet
   exact mid_end HP.out HE.out HR.out HOD.out HOM.out HOY.out HB.out
 case rest =>
  obtain ⟨hp,he,⟨vD,vM,vY,hr,hD,hM,hY⟩,hb⟩:=hcut
  obtain ⟨D2,dc2,rfl,hrow⟩:=OwnD.row hD
  clear hrow
  obtain ⟨M2,mc2,rfl,hrow⟩:=OwnI.row hM
  clear hrow
  obtain ⟨Y2,yc2,rfl,hrow⟩:=OwnI.row hY
  clear hrow
  have hds3 : ds.length <= 10000:=HRR.out.dl
  have hms3 : ms.length <= 10000:=HRR.out.ml
  have hys3 : ys.length <= 10000:=HRR.out.yl
  have hdw:=(start wc).drew
  have hS : wc.cell? ⟨w.heap.size,0,none⟩ = some (.string U) /\ wc.cell? ⟨w.heap.size,1,none⟩ = some (.string T) /\ wc.cell? ⟨w.heap.size,2,none⟩ = some (.int .i64 s) /\ wc.cell? ⟨w.heap.size,3,none⟩ = some (.int .i64 l) /\ wc.cell? ⟨w.heap.size,11,none⟩ = some (.slice X x.length xc) /\ wc.cell? ⟨w.heap.size,12,none⟩ = some (.slice O o.length oc) /\ wc.cell? ⟨w.heap.size + 1 + 1,0,none⟩ = some (.int .i64 fr) /\ wc.cell? ⟨w.heap.size + 1 + 1,1,none⟩ = some (.int .i64 ev) /\ wc.cell? ⟨w.heap.size + 1 + 1,2,none⟩ = some (.int .i64 ct) /\ wc.cell? ⟨w.heap.size + 1 + 1,3,none⟩ = some (.int .i64 un) /\ wc.cell? ⟨w.heap.size + 1 + 1,4,none⟩ = some (.slice D2 ds.length dc2) /\ wc.cell? ⟨w.heap.size + 1 + 1,5,none⟩ = some (.slice M2 ms.length mc2) /\ wc.cell? ⟨w.heap.size + 1 + 1,6,none⟩ = some (.slice Y2 ys.length yc2):=⟨hp.cell 0 (by simp),hp.cell 1 (by simp),hp.cell 2 (by simp),hp.cell 3 (by simp),hp.cell 11 (by simp),hp.cell 12 (by simp),hr.cell 0 (by simp),hr.cell 1 (by simp),hr.cell 2 (by simp),hr.cell 3 (by simp),hr.cell 4 (by simp),hr.cell 5 (by simp),hr.cell 6 (by simp)⟩
  have HE:=hide (he.keep hdw)
  have HOD:=hide (hD.keep hdw)
  have HOM:=hide (hM.keep hdw)
  have HOY:=hide (hY.keep hdw)
  have HB:=hide (andthen hb hdw)
  have HO3:=hide (HO.out.keep HB.out)
  have HX3:=hide (HX.out.keep HB.out)
  have HZ : Hid (w.heap.size + 3 <= wc.drew.heap.size):=hide (by have:=hr.lt; exact this)
  clear hp he hr hD hM hY hb hdw HO HX
  go_wp2_with fail
  try simp only [List.append]
  refine wp_region_held_drew (S:=(fun w' => w'.cell? ⟨w.heap.size,0,none⟩ = some (.string U) /\ w'.cell? ⟨w.heap.size,1,none⟩ = some (.string T) /\ w'.cell? ⟨w.heap.size,2,none⟩ = some (.int .i64 s) /\ w'.cell? ⟨w.heap.size,3,none⟩ = some (.int .i64 l) /\ w'.cell? ⟨w.heap.size,11,none⟩ = some (.slice X x.length xc) /\ w'.cell? ⟨w.heap.size,12,none⟩ = some (.slice O o.length oc) /\ w'.cell? ⟨w.heap.size + 1 + 1,0,none⟩ = some (.int .i64 fr) /\ w'.cell? ⟨w.heap.size + 1 + 1,1,none⟩ = some (.int .i64 ev) /\ w'.cell? ⟨w.heap.size + 1 + 1,2,none⟩ = some (.int .i64 ct) /\ w'.cell? ⟨w.heap.size + 1 + 1,3,none⟩ = some (.int .i64 un) /\ w'.cell? ⟨w.heap.size + 1 + 1,4,none⟩ = some (.slice D2 ds.length dc2) /\ w'.cell? ⟨w.heap.size + 1 + 1,5,none⟩ = some (.slice M2 ms.length mc2) /\ w'.cell? ⟨w.heap.size + 1 + 1,6,none⟩ = some (.slice Y2 ys.length yc2))) (by kernel_rfl) ?_ (fun hH0 => ?_)
  ·exact ev_keep13 (start _).drew hS
  refine' wpAnyH_take (i:=0) (oi:=_) (v:=?v0) rfl (by as_aux_lemma => kernel_rfl) (by as_aux_lemma => kernel_rfl) (by as_aux_lemma => kernel_rfl) (fun _ _ _ h => h) (Or.inl ⟨by rfl,?y0⟩) hH0 ?r0
  case y0 => (intro w hSw; (try dsimp only at hSw); go_simp; (try with_reducible rfl))
  try simp only [Act.put,List.getElem_toArray,List.getElem_cons_zero,List.setIfInBounds_toArray,List.set_cons_zero,List.set_cons_succ]
  refine' wpAnyH_take (i:=1) (oi:=_) (v:=?v1) rfl (by as_aux_lemma => kernel_rfl) (by as_aux_lemma => kernel_rfl) (by as_aux_lemma => kernel_rfl) (fun _ _ _ h => h) (Or.inl ⟨by rfl,?y1⟩) hH0 ?r1
  case y1 => (intro w hSw; (try dsimp only at hSw); go_simp; (try with_reducible rfl))
  try simp only [Act.put,List.getElem_toArray,List.getElem_cons_succ,List.getElem_cons_zero,List.setIfInBounds_toArray,List.set_cons_zero,List.set_cons_succ]
  refine' wpAnyH_take (i:=2) (oi:=_) (v:=?v2) rfl (by as_aux_lemma => kernel_rfl) (by as_aux_lemma => kernel_rfl) (by as_aux_lemma => kernel_rfl) (fun _ _ _ h => h) (Or.inl ⟨by rfl,?y2⟩) hH0 ?r2
  case y2 => (intro w hSw; (try dsimp only at hSw); go_simp; (try with_reducible rfl))
  try simp only [Act.put,List.getElem_toArray,List.getElem_cons_succ,List.getElem_cons_zero,List.setIfInBounds_toArray,List.set_cons_zero,List.set_cons_succ]
  refine' wpAnyH_take (i:=3) (oi:=_) (v:=?v3) rfl (by as_aux_lemma => kernel_rfl) (by as_aux_lemma => kernel_rfl) (by as_aux_lemma => kernel_rfl) (fun _ _ _ h => h) (Or.inl ⟨by rfl,?y3⟩) hH0 ?r3
  case y3 => (intro w hSw; (try dsimp only at hSw); go_simp; (try with_reducible rfl))
  try simp only [Act.put,List.getElem_toArray,List.getElem_cons_succ,List.getElem_cons_zero,List.setIfInBounds_toArray,List.set_cons_zero,List.set_cons_succ]
  refine' wpAnyH_take (i:=4) (oi:=_) (v:=?v4) rfl (by as_aux_lemma => kernel_rfl) (by as_aux_lemma => kernel_rfl) (by as_aux_lemma => kernel_rfl) (fun _ _ _ h => h) (Or.inl ⟨by rfl,?y4⟩) hH0 ?r4
  case y4 => (intro w hSw; (try dsimp only at hSw); go_simp; (try with_reducible rfl))
  try simp only [Act.put,List.getElem_toArray,List.getElem_cons_succ,List.getElem_cons_zero,List.setIfInBounds_toArray,List.set_cons_zero,List.set_cons_succ]
  refine' wpAnyH_take (i:=5) (oi:=_) (v:=?v5) rfl (by as_aux_lemma => kernel_rfl) (by as_aux_lemma => kernel_rfl) (by as_aux_lemma => kernel_rfl) (fun _ _ _ h => h) (Or.inl ⟨by rfl,?y5⟩) hH0 ?r5
  case y5 => (intro w hSw; (try dsimp only at hSw); go_simp; (try with_reducible rfl))
  try simp only [Act.put,List.getElem_toArray,List.getElem_cons_succ,List.getElem_cons_zero,List.setIfInBounds_toArray,List.set_cons_zero,List.set_cons_succ]
  refine' wpAnyH_take (i:=6) (oi:=_) (v:=?v6) rfl (by as_aux_lemma => kernel_rfl) (by as_aux_lemma => kernel_rfl) (by as_aux_lemma => kernel_rfl) (fun _ _ _ h => h) (Or.inl ⟨by rfl,?y6⟩) hH0 ?r6
  case y6 => (intro w hSw; (try dsimp only at hSw); go_simp; (try with_reducible rfl))
  try simp only [Act.put,List.getElem_toArray,List.getElem_cons_succ,List.getElem_cons_zero,List.setIfInBounds_toArray,List.set_cons_zero,List.set_cons_succ]
  refine' wpAnyH_take (i:=7) (oi:=_) (v:=?v7) rfl (by as_aux_lemma => kernel_rfl) (by as_aux_lemma => kernel_rfl) (by as_aux_lemma => kernel_rfl) (fun _ _ _ h => h) (Or.inl ⟨by rfl,?y7⟩) hH0 ?r7
  case y7 => (intro w hSw; (try dsimp only at hSw); go_simp; (try with_reducible rfl))
  try simp only [Act.put,List.getElem_toArray,List.getElem_cons_succ,List.getElem_cons_zero,List.setIfInBounds_toArray,List.set_cons_zero,List.set_cons_succ]
  refine' wpAnyH_take (i:=8) (oi:=_) (v:=?v8) rfl (by as_aux_lemma => kernel_rfl) (by as_aux_lemma => kernel_rfl) (by as_aux_lemma => kernel_rfl) (fun _ _ _ h => h) (Or.inl ⟨by rfl,?y8⟩) hH0 ?r8
  case y8 => (intro w hSw; (try dsimp only at hSw); go_simp; (try with_reducible rfl))
  try simp only [Act.put,List.getElem_toArray,List.getElem_cons_succ,List.getElem_cons_zero,List.setIfInBounds_toArray,List.set_cons_zero,List.set_cons_succ]
  refine' wpAnyH_take (i:=9) (oi:=_) (v:=?v9) rfl (by as_aux_lemma => kernel_rfl) (by as_aux_lemma => kernel_rfl) (by as_aux_lemma => kernel_rfl) (fun _ _ _ h => h) (Or.inl ⟨by rfl,?y9⟩) hH0 ?r9
  case y9 => (intro w hSw; (try dsimp only at hSw); go_simp; (try with_reducible rfl))
  try simp only [Act.put,List.getElem_toArray,List.getElem_cons_succ,List.getElem_cons_zero,List.setIfInBounds_toArray,List.set_cons_zero,List.set_cons_succ]
  refine' wpAnyH_take (i:=10) (oi:=_) (v:=?v10) rfl (by as_aux_lemma => kernel_rfl) (by as_aux_lemma => kernel_rfl) (by as_aux_lemma => kernel_rfl) (fun _ _ _ h => h) (Or.inl ⟨by rfl,?y10⟩) hH0 ?r10
  case y10 => (intro w hSw; (try dsimp only at hSw); go_simp; (try with_reducible rfl))
  try simp only [Act.put,List.getElem_toArray,List.getElem_cons_succ,List.getElem_cons_zero,List.setIfInBounds_toArray,List.set_cons_zero,List.set_cons_succ]
  refine' wpAnyH_take (i:=11) (oi:=_) (v:=?v11) rfl (by as_aux_lemma => kernel_rfl) (by as_aux_lemma => kernel_rfl) (by as_aux_lemma => kernel_rfl) (fun _ _ _ h => h) (Or.inl ⟨by rfl,?y11⟩) hH0 ?r11
  case y11 => (intro w hSw; (try dsimp only at hSw); go_simp; (try with_reducible rfl))
  try simp only [Act.put,List.getElem_toArray,List.getElem_cons_succ,List.getElem_cons_zero,List.setIfInBounds_toArray,List.set_cons_zero,List.set_cons_succ]
  refine' wpAnyH_take (i:=12) (oi:=_) (v:=?v12) rfl (by as_aux_lemma => kernel_rfl) (by as_aux_lemma => kernel_rfl) (by as_aux_lemma => kernel_rfl) (fun _ _ _ h => h) (Or.inl ⟨by rfl,?y12⟩) hH0 ?r12
  case y12 => (intro w hSw; (try dsimp only at hSw); go_simp; (try with_reducible rfl))
  try simp only [Act.put,List.getElem_toArray,List.getElem_cons_succ,List.getElem_cons_zero,List.setIfInBounds_toArray,List.set_cons_zero,List.set_cons_succ]
  refine' wpAnyH_take (i:=13) (oi:=_) (v:=?v13) rfl (by as_aux_lemma => kernel_rfl) (by as_aux_lemma => kernel_rfl) (by as_aux_lemma => kernel_rfl) (fun _ _ _ h => h) (Or.inl ⟨by rfl,?y13⟩) hH0 ?r13
  case y13 => (intro w hSw; (try dsimp only at hSw); go_simp; (try with_reducible rfl))
  try simp only [Act.put,List.getElem_toArray,List.getElem_cons_succ,List.getElem_cons_zero,List.setIfInBounds_toArray,List.set_cons_zero,List.set_cons_succ]
  refine' wpAnyH_take (i:=14) (oi:=_) (v:=?v14) rfl (by as_aux_lemma => kernel_rfl) (by as_aux_lemma => kernel_rfl) (by as_aux_lemma => kernel_rfl) (fun _ _ _ h => h) (Or.inl ⟨by rfl,?y14⟩) hH0 ?r14
  case y14 => (intro w hSw; (try dsimp only at hSw); go_simp; (try with_reducible rfl))
  try simp only [Act.put,List.getElem_toArray,List.getElem_cons_succ,List.getElem_cons_zero,List.setIfInBounds_toArray,List.set_cons_zero,List.set_cons_succ]
  refine' wpAnyH_take (i:=16) (oi:=_) (v:=?v15) rfl (by as_aux_lemma => kernel_rfl) (by as_aux_lemma => kernel_rfl) (by as_aux_lemma => kernel_rfl) (fun _ _ _ h => h) (Or.inl ⟨by rfl,?y15⟩) hH0 ?r15
  case y15 => (intro w hSw; (try dsimp only at hSw); go_simp; (try with_reducible rfl))
  try simp only [Act.put,List.getElem_toArray,List.getElem_cons_succ,List.getElem_cons_zero,List.setIfInBounds_toArray,List.set_cons_zero,List.set_cons_succ]
  refine' wpAnyH_take (i:=17) (oi:=_) (v:=?v16) rfl (by as_aux_lemma => kernel_rfl) (by as_aux_lemma => kernel_rfl) (by as_aux_lemma => kernel_rfl) (fun _ _ _ h => h) (Or.inl ⟨by rfl,?y16⟩) hH0 ?r16
  case y16 => (intro w hSw; (try dsimp only at hSw); go_simp; (try with_reducible rfl))
  try simp only [Act.put,List.getElem_toArray,List.getElem_cons_succ,List.getElem_cons_zero,List.setIfInBounds_toArray,List.set_cons_zero,List.set_cons_succ]
  refine' wpAnyH_take (i:=18) (oi:=_) (v:=?v17) rfl (by as_aux_lemma => kernel_rfl) (by as_aux_lemma => kernel_rfl) (by as_aux_lemma => kernel_rfl) (fun _ _ _ h => h) (Or.inl ⟨by rfl,?y17⟩) hH0 ?r17
  case y17 => (intro w hSw; (try dsimp only at hSw); go_simp; (try with_reducible rfl))
  try simp only [Act.put,List.getElem_toArray,List.getElem_cons_succ,List.getElem_cons_zero,List.setIfInBounds_toArray,List.set_cons_zero,List.set_cons_succ]
  refine' wpAnyH_take (i:=19) (oi:=_) (v:=?v18) rfl (by as_aux_lemma => kernel_rfl) (by as_aux_lemma => kernel_rfl) (by as_aux_lemma => kernel_rfl) (fun _ _ _ h => h) (Or.inl ⟨by rfl,?y18⟩) hH0 ?r18
  case y18 => (intro w hSw; (try dsimp only at hSw); go_simp; (try with_reducible rfl))
  try simp only [Act.put,List.getElem_toArray,List.getElem_cons_succ,List.getElem_cons_zero,List.setIfInBounds_toArray,List.set_cons_zero,List.set_cons_succ]
  refine wpAnyH_ready (rs:=[15]) (by as_aux_lemma => kernel_rfl) (by simp) ?_
  refine AllReadyH.cons (o:=_) rfl (fun K hK => ?_) AllReadyH.nil
  go_simp
  refine (ownI_ex O _ oc o _ HO3.out rfl hol2).mono ?_
  rintro e w2 ⟨vO,rfl,hownO,hb⟩
  obtain ⟨O2,oc2,rfl,hrowO⟩:=OwnI.row hownO
  clear hrowO
  have HOO:=hide (OwnI.down hownO HZ.out)
  clear hownO
  replace HE:=hide (HE.out.keep hb)
  replace HOD:=hide (HOD.out.keep hb)
  replace HOM:=hide (HOM.out.keep hb)
  replace HOY:=hide (HOY.out.keep hb)
  replace HX3:=hide (HX3.out.keep hb)
  replace HB:=hide (andthen HB.out hb)
  have HZ2:=hide (Nat.le_trans HZ.out hb.size)
  clear HZ
  have HZ:=HZ2
  clear HZ2
  refine hK.out _ _ (ev_keep13 hb hH0) (fun hN => ?_)
  clear hK K hH0
  have hH1:=hN
  clear hN
  try simp only [Act.put,List.getElem_toArray,List.getElem_cons_succ,List.getElem_cons_zero,List.setIfInBounds_toArray,List.set_cons_zero,List.set_cons_succ]
  refine wpAnyH_ready (rs:=[20]) (by as_aux_lemma => kernel_rfl) (by simp) ?_
  refine AllReadyH.cons (o:=_) rfl (fun K hK => ?_) AllReadyH.nil
  go_simp
  refine (ownI_ex X _ xc x _ HX3.out rfl hxl2).mono ?_
  rintro e w2b ⟨vX,rfl,hownX,hb⟩
  obtain ⟨X2,xc2,rfl,hrowX⟩:=OwnI.row hownX
  clear hrowX
  have HOX:=hide (OwnI.down hownX HZ.out)
  clear hownX
  replace HOO:=hide (HOO.out.keep hb)
  replace HE:=hide (HE.out.keep hb)
  replace HOD:=hide (HOD.out.keep hb)
  replace HOM:=hide (HOM.out.keep hb)
  replace HOY:=hide (HOY.out.keep hb)
  replace HX3:=hide (HX3.out.keep hb)
  replace HB:=hide (andthen HB.out hb)
  have HZ2:=hide (Nat.le_trans HZ.out hb.size)
  clear HZ
  have HZ:=HZ2
  clear HZ2
  have z0 : w2b.cell? ⟨w.heap.size + 1,0,none⟩ = some (.string ⟨#[]⟩):=HE.out.cell 0 (by simp)
  have gz0:=HE.out.free 0
  have z1 : w2b.cell? ⟨w.heap.size + 1,1,none⟩ = some (.string ⟨#[]⟩):=HE.out.cell 1 (by simp)
  have gz1:=HE.out.free 1
  have z2 : w2b.cell? ⟨w.heap.size + 1,2,none⟩ = some (.int .i64 0):=HE.out.cell 2 (by simp)
  have gz2:=HE.out.free 2
  have z3 : w2b.cell? ⟨w.heap.size + 1,3,none⟩ = some (.int .i64 0):=HE.out.cell 3 (by simp)
  have gz3:=HE.out.free 3
  have z4 : w2b.cell? ⟨w.heap.size + 1,4,none⟩ = some (.slice none 0 0):=HE.out.cell 4 (by simp)
  have gz4:=HE.out.free 4
  have z5 : w2b.cell? ⟨w.heap.size + 1,5,none⟩ = some (.int .i64 0):=HE.out.cell 5 (by simp)
  have gz5:=HE.out.free 5
  have z6 : w2b.cell? ⟨w.heap.size + 1,6,none⟩ = some (.int .i64 0):=HE.out.cell 6 (by simp)
  have gz6:=HE.out.free 6
  have z7 : w2b.cell? ⟨w.heap.size + 1,7,none⟩ = some (.int .i64 0):=HE.out.cell 7 (by simp)
  have gz7:=HE.out.free 7
  have z8 : w2b.cell? ⟨w.heap.size + 1,8,none⟩ = some (.int .i64 0):=HE.out.cell 8 (by simp)
  have gz8:=HE.out.free 8
  have z9 : w2b.cell? ⟨w.heap.size + 1,9,none⟩ = some (.slice none 0 0):=HE.out.cell 9 (by simp)
  have gz9:=HE.out.free 9
  have z10 : w2b.cell? ⟨w.heap.size + 1,10,none⟩ = some (.slice none 0 0):=HE.out.cell 10 (by simp)
  have gz10:=HE.out.free 10
  have z11 : w2b.cell? ⟨w.heap.size + 1,11,none⟩ = some (.slice none 0 0):=HE.out.cell 11 (by simp)
  have gz11:=HE.out.free 11
  have z12 : w2b.cell? ⟨w.heap.size + 1,12,none⟩ = some (.slice none 0 0):=HE.out.cell 12 (by simp)
  have gz12:=HE.out.free 12
  refine hK.out _ _ (ev_keep13 hb hH1) (fun hN => ?_)
  clear hK K hH1
  have hH2:=hN
  clear hN
  try simp only [Act.put,List.getElem_toArray,List.getElem_cons_succ,List.getElem_cons_zero,List.setIfInBounds_toArray,List.set_cons_zero,List.set_cons_succ]
  refine' wpAnyH_take (i:=21) (oi:=_) (v:=?v19) rfl (by as_aux_lemma => kernel_rfl) (by as_aux_lemma => kernel_rfl) (by as_aux_lemma => kernel_rfl) (fun _ _ _ h => h) (Or.inl ⟨by rfl,?y19⟩) hH2 ?r19
  case y19 => (intro w hSw; (try dsimp only at hSw); go_simp; (try with_reducible rfl))
  try simp only [Act.put,List.getElem_toArray,List.getElem_cons_succ,List.getElem_cons_zero,List.setIfInBounds_toArray,List.set_cons_zero,List.set_cons_succ]
  refine wpAnyH_ready (rs:=[22]) (by as_aux_lemma => kernel_rfl) (by simp) ?_
  refine AllReadyH.cons (o:=_) rfl (fun K hK => ?_) AllReadyH.nil
  go_simp
  refine hK.out _ _ (ev_far13 (W:=w2b) (P:=w.heap.size) (R:=w.heap.size + 1 + 1) (E:=w.heap.size + 1) [.string U,.string T,.int .i64 s,.int .i64 l,.slice O2 o.length oc2,.int .i64 fr,.int .i64 ev,.int .i64 ct,.int .i64 un,.slice D2 ds.length dc2,.slice M2 ms.length mc2,.slice Y2 ys.length yc2,.slice X2 x.length xc2] (by omega) (by omega) hH2) (fun hN => ?_)
  clear hK K hH2
  have hH3:=hN
  clear hN
  try simp only [Act.put,List.getElem_toArray,List.getElem_cons_succ,List.getElem_cons_zero,List.setIfInBounds_toArray,List.set_cons_zero,List.set_cons_succ]
  refine wpAnyH_done (by as_aux_lemma => kernel_rfl) ?_ _
  clear hH3 z0 gz0 z1 gz1 z2 gz2 z3 gz3 z4 gz4 z5 gz5 z6 gz6 z7 gz7 z8 gz8 z9 gz9 z10 gz10 z11 gz11 z12 gz12
  go_wp2_with fail
  obtain rfl:=HU.out
  obtain rfl:=HT.out
  refine ret_gen (FinE w (w.heap.size + 1) ⟨u,t,s,l,o,⟨fr,ev,ct,un,ds,ms,ys⟩,x⟩ ⟨O2,oc2,D2,dc2,M2,mc2,Y2,yc2,X2,xc2⟩) (fin_end HE.out rfl (by omega) (by omega) ⟨HOO.out,HOX.out,HOD.out,HOM.out,HOY.out,hol,hxl,hds3,hms3,hys3,hul,htl⟩ HB.out) ?_
  rintro WF ⟨hk,hn,hb⟩
  obtain ⟨⟨k0,-⟩,⟨k1,-⟩,⟨k2,-⟩,⟨k3,-⟩,⟨k4,-⟩,⟨k5,-⟩,⟨k6,-⟩,⟨k7,-⟩,⟨k8,-⟩,⟨k9,-⟩,⟨k10,-⟩,⟨k11,-⟩,⟨k12,-⟩⟩:=hk.c13
  exact bodyPost_ret (v:=.agg #[.string (str u),.string (str t),.int .i64 s,.int .i64 l,.slice O2 o.length oc2,.int .i64 fr,.int .i64 ev,.int .i64 ct,.int .i64 un,.slice D2 ds.length dc2,.slice M2 ms.length mc2,.slice Y2 ys.length yc2,.slice X2 x.length xc2]) (by simp [results,Tryz.results146,go_sem,k0,k1,k2,k3,k4,k5,k6,k7,k8,k9,k10,k11,k12]) rfl ⟨⟨O2,oc2,D2,dc2,M2,mc2,Y2,yc2,X2,xc2⟩,rfl,hn,hb⟩
end Go.Proofs.YtfecnkhoojnkbaaGreatDoor

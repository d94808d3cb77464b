/- Walks of package days: what a rule takes from start. Written by recipes/da3.py. -/
import Derived.Test.YtgihekokbgggcaaGreatZBW11
import Derived.Test.YtgihekokbgggcaaGreatZW5
set_option maxHeartbeats 8000000
set_option maxRecDepth 1000000
namespace Go.Proofs.YtgihekokbgggcaaGreat
open Go.RowKit Rul Go.Sort
abbrev Thr (w : World) (p : Nat) (x0 x1 x2 : Value) (W : World) : Prop :=
 W.cell? ⟨p,0,none⟩ = some x0 /\ W.cell? ⟨p,1,none⟩ = some x1 /\ W.cell? ⟨p,2,none⟩ = some x2 /\ Below w.heap.size w W
theorem thr_set {w W : World} {p : Nat} {x0 x1 x2 y0 y1 y2 : Value} (hp : w.heap.size <= p) (h : Thr w p x0 x1 x2 W) :
  Thr w p y0 y1 y2 (((W.setCell ⟨p,0,none⟩ y0).setCell ⟨p,1,none⟩ y1).setCell ⟨p,2,none⟩ y2):=by
 obtain ⟨c0,c1,c2,hb⟩:=h
 have st : ∀ {W : World} {i : Nat} {x y : Value},W.cell? ⟨p,i,none⟩ = some x -> (W.setCell ⟨p,i,none⟩ y).cell? ⟨p,i,none⟩ = some y:=fun h => World.cell?_setCell_same _ _ _ h
 have ot : ∀ {W : World} {i j : Nat} {x y : Value},i ≠ j -> W.cell? ⟨p,i,none⟩ = some x -> (W.setCell ⟨p,j,none⟩ y).cell? ⟨p,i,none⟩ = some x:=fun hn h => by
  rw [World.cell?_setCell_other _ _ _ _ (by intro hc; injection hc with hc1 hc2; exact hn hc2.symm)]; exact h
 refine ⟨?_,?_,?_,((hb.setCell hp _).setCell hp _).setCell hp _⟩
 ·exact ot (by decide) (ot (by decide) (st c0))
 ·exact ot (by decide) (st (ot (by decide) c1))
 ·exact st (ot (by decide) (ot (by decide) c2))
theorem thr_far {w W : World} {p q i : Nat} {x0 x1 x2 y : Value} (hq : w.heap.size <= q) (hn : p ≠ q) (h : Thr w p x0 x1 x2 W) : Thr w p x0 x1 x2 (W.setCell ⟨q,i,none⟩ y):=by
 obtain ⟨c0,c1,c2,hb⟩:=h
 have ot : ∀ {j : Nat} {x : Value},W.cell? ⟨p,j,none⟩ = some x -> (W.setCell ⟨q,i,none⟩ y).cell? ⟨p,j,none⟩ = some x:=fun h => by
  rw [World.cell?_setCell_other _ _ _ _ (by intro hc; injection hc with hc1; exact hn hc1.symm)]; exact h
 exact ⟨ot c0,ot c1,ot c2,hb.setCell hq _⟩
theorem asked_1 (fr ev ct un : Int) (D M Y : Option Addr) (dn dc mn mc yn yc : Nat) (s : Int) (w : World) (hd : 0 < dn) :
  Calls Tryz.prog 137 #[.agg #[.int .i64 fr,.int .i64 ev,.int .i64 ct,.int .i64 un,.slice D dn dc,.slice M mn mc,.slice Y yn yc],.int .i64 s] w (Ans w (.agg #[.int .i64 (-1),.int .i64 (-1),.int .i64 (-1)])):=by
 go_enter Tryz.func137,Tryz.ntmps137
 go_wp2_with fail
 exact bodyPost_ret (v:=.agg #[.int .i64 (-1),.int .i64 (-1),.int .i64 (-1)]) (by simp [results,Tryz.results137,go_sem]) rfl ⟨rfl,more (more (more (start _) _) _) _⟩
theorem thr_alloc {w W : World} {p : Nat} {x0 x1 x2 : Value} (o : Obj) (h : Thr w p x0 x1 x2 W) : Thr w p x0 x1 x2 (W.alloc o):=by
 have k:=more (start W) o
 exact ⟨cell_keep k h.1,cell_keep k h.2.1,cell_keep k h.2.2.1,andthen h.2.2.2 k⟩
theorem asked_w (fr ev ct un : Int) (D M Y : Option Addr) (dn dc mn mc yn yc : Nat) (s : Int) (w : World) (y m d v : Int) (hd : dn <= 0) (hm : mn <= 0) (f2 : (fr == 2) = true) (f3 : (fr == 3) = false) (f4 : (fr == 4) = false) (h1 : 0 <= s) (h2 : s < 36525) (HD : Hid (Cal.yOf s = y /\ Cal.mOf s = m /\ Cal.dOf s = d)) (HV : Hid (Cal.wday s = v)) :
  Calls Tryz.prog 137 #[.agg #[.int .i64 fr,.int .i64 ev,.int .i64 ct,.int .i64 un,.slice D dn dc,.slice M mn mc,.slice Y yn yc],.int .i64 s] w (Ans w (.agg #[.int .i64 v,.int .i64 (-1),.int .i64 (-1)])):=by
 have s0 : (((w.alloc (.cells #[.int .i64 fr,.int .i64 ev,.int .i64 ct,.int .i64 un,.slice D dn dc,.slice M mn mc,.slice Y yn yc] 39)).alloc (.cells #[.int .i64 0,.int .i64 0,.int .i64 0] 159)).alloc (.cells #[.int .i64 (-1),.int .i64 (-1),.int .i64 (-1)] 159)).cell? ⟨w.heap.size,0,none⟩ = some (.int .i64 fr):=by rw [World.cell?_alloc_past _ _ _ (by simp only [World.size_alloc]; omega),World.cell?_alloc_past _ _ _ (by simp),World.cell?_alloc_at _ _ _ _ rfl]; rfl
 have s5 : (((w.alloc (.cells #[.int .i64 fr,.int .i64 ev,.int .i64 ct,.int .i64 un,.slice D dn dc,.slice M mn mc,.slice Y yn yc] 39)).alloc (.cells #[.int .i64 0,.int .i64 0,.int .i64 0] 159)).alloc (.cells #[.int .i64 (-1),.int .i64 (-1),.int .i64 (-1)] 159)).cell? ⟨w.heap.size,5,none⟩ = some (.slice M mn mc):=by rw [World.cell?_alloc_past _ _ _ (by simp only [World.size_alloc]; omega),World.cell?_alloc_past _ _ _ (by simp),World.cell?_alloc_at _ _ _ _ rfl]; rfl
 have s6 : (((w.alloc (.cells #[.int .i64 fr,.int .i64 ev,.int .i64 ct,.int .i64 un,.slice D dn dc,.slice M mn mc,.slice Y yn yc] 39)).alloc (.cells #[.int .i64 0,.int .i64 0,.int .i64 0] 159)).alloc (.cells #[.int .i64 (-1),.int .i64 (-1),.int .i64 (-1)] 159)).cell? ⟨w.heap.size,6,none⟩ = some (.slice Y yn yc):=by rw [World.cell?_alloc_past _ _ _ (by simp only [World.size_alloc]; omega),World.cell?_alloc_past _ _ _ (by simp),World.cell?_alloc_at _ _ _ _ rfl]; rfl
 have z0 : (((w.alloc (.cells #[.int .i64 fr,.int .i64 ev,.int .i64 ct,.int .i64 un,.slice D dn dc,.slice M mn mc,.slice Y yn yc] 39)).alloc (.cells #[.int .i64 0,.int .i64 0,.int .i64 0] 159)).alloc (.cells #[.int .i64 (-1),.int .i64 (-1),.int .i64 (-1)] 159)).cell? ⟨w.heap.size + 1,0,none⟩ = some (.int .i64 0):=by rw [World.cell?_alloc_past _ _ _ (by simp),World.cell?_alloc_at _ _ _ _ (by simp)]; rfl
 have y0 : (((w.alloc (.cells #[.int .i64 fr,.int .i64 ev,.int .i64 ct,.int .i64 un,.slice D dn dc,.slice M mn mc,.slice Y yn yc] 39)).alloc (.cells #[.int .i64 0,.int .i64 0,.int .i64 0] 159)).alloc (.cells #[.int .i64 (-1),.int .i64 (-1),.int .i64 (-1)] 159)).frozen? ⟨w.heap.size + 1,0,none⟩ = false:=by rw [World.frozen?_alloc_past _ _ _ (by simp),World.frozen?_alloc_at _ _ _ _ (by simp)]
 have k0 : (((w.alloc (.cells #[.int .i64 fr,.int .i64 ev,.int .i64 ct,.int .i64 un,.slice D dn dc,.slice M mn mc,.slice Y yn yc] 39)).alloc (.cells #[.int .i64 0,.int .i64 0,.int .i64 0] 159)).alloc (.cells #[.int .i64 (-1),.int .i64 (-1),.int .i64 (-1)] 159)).cell? ⟨w.heap.size + 1 + 1,0,none⟩ = some (.int .i64 (-1)):=by rw [World.cell?_alloc_at _ _ _ _ (by simp)]; rfl
 have q0 : (((w.alloc (.cells #[.int .i64 fr,.int .i64 ev,.int .i64 ct,.int .i64 un,.slice D dn dc,.slice M mn mc,.slice Y yn yc] 39)).alloc (.cells #[.int .i64 0,.int .i64 0,.int .i64 0] 159)).alloc (.cells #[.int .i64 (-1),.int .i64 (-1),.int .i64 (-1)] 159)).frozen? ⟨w.heap.size + 1 + 1,0,none⟩ = false:=by rw [World.frozen?_alloc_at _ _ _ _ (by simp)]
 have z1 : (((w.alloc (.cells #[.int .i64 fr,.int .i64 ev,.int .i64 ct,.int .i64 un,.slice D dn dc,.slice M mn mc,.slice Y yn yc] 39)).alloc (.cells #[.int .i64 0,.int .i64 0,.int .i64 0] 159)).alloc (.cells #[.int .i64 (-1),.int .i64 (-1),.int .i64 (-1)] 159)).cell? ⟨w.heap.size + 1,1,none⟩ = some (.int .i64 0):=by rw [World.cell?_alloc_past _ _ _ (by simp),World.cell?_alloc_at _ _ _ _ (by simp)]; rfl
 have y1 : (((w.alloc (.cells #[.int .i64 fr,.int .i64 ev,.int .i64 ct,.int .i64 un,.slice D dn dc,.slice M mn mc,.slice Y yn yc] 39)).alloc (.cells #[.int .i64 0,.int .i64 0,.int .i64 0] 159)).alloc (.cells #[.int .i64 (-1),.int .i64 (-1),.int .i64 (-1)] 159)).frozen? ⟨w.heap.size + 1,1,none⟩ = false:=by rw [World.frozen?_alloc_past _ _ _ (by simp),World.frozen?_alloc_at _ _ _ _ (by simp)]
 have k1 : (((w.alloc (.cells #[.int .i64 fr,.int .i64 ev,.int .i64 ct,.int .i64 un,.slice D dn dc,.slice M mn mc,.slice Y yn yc] 39)).alloc (.cells #[.int .i64 0,.int .i64 0,.int .i64 0] 159)).alloc (.cells #[.int .i64 (-1),.int .i64 (-1),.int .i64 (-1)] 159)).cell? ⟨w.heap.size + 1 + 1,1,none⟩ = some (.int .i64 (-1)):=by rw [World.cell?_alloc_at _ _ _ _ (by simp)]; rfl
 have q1 : (((w.alloc (.cells #[.int .i64 fr,.int .i64 ev,.int .i64 ct,.int .i64 un,.slice D dn dc,.slice M mn mc,.slice Y yn yc] 39)).alloc (.cells #[.int .i64 0,.int .i64 0,.int .i64 0] 159)).alloc (.cells #[.int .i64 (-1),.int .i64 (-1),.int .i64 (-1)] 159)).frozen? ⟨w.heap.size + 1 + 1,1,none⟩ = false:=by rw [World.frozen?_alloc_at _ _ _ _ (by simp)]
 have z2 : (((w.alloc (.cells #[.int .i64 fr,.int .i64 ev,.int .i64 ct,.int .i64 un,.slice D dn dc,.slice M mn mc,.slice Y yn yc] 39)).alloc (.cells #[.int .i64 0,.int .i64 0,.int .i64 0] 159)).alloc (.cells #[.int .i64 (-1),.int .i64 (-1),.int .i64 (-1)] 159)).cell? ⟨w.heap.size + 1,2,none⟩ = some (.int .i64 0):=by rw [World.cell?_alloc_past _ _ _ (by simp),World.cell?_alloc_at _ _ _ _ (by simp)]; rfl
 have y2 : (((w.alloc (.cells #[.int .i64 fr,.int .i64 ev,.int .i64 ct,.int .i64 un,.slice D dn dc,.slice M mn mc,.slice Y yn yc] 39)).alloc (.cells #[.int .i64 0,.int .i64 0,.int .i64 0] 159)).alloc (.cells #[.int .i64 (-1),.int .i64 (-1),.int .i64 (-1)] 159)).frozen? ⟨w.heap.size + 1,2,none⟩ = false:=by rw [World.frozen?_alloc_past _ _ _ (by simp),World.frozen?_alloc_at _ _ _ _ (by simp)]
 have k2 : (((w.alloc (.cells #[.int .i64 fr,.int .i64 ev,.int .i64 ct,.int .i64 un,.slice D dn dc,.slice M mn mc,.slice Y yn yc] 39)).alloc (.cells #[.int .i64 0,.int .i64 0,.int .i64 0] 159)).alloc (.cells #[.int .i64 (-1),.int .i64 (-1),.int .i64 (-1)] 159)).cell? ⟨w.heap.size + 1 + 1,2,none⟩ = some (.int .i64 (-1)):=by rw [World.cell?_alloc_at _ _ _ _ (by simp)]; rfl
 have q2 : (((w.alloc (.cells #[.int .i64 fr,.int .i64 ev,.int .i64 ct,.int .i64 un,.slice D dn dc,.slice M mn mc,.slice Y yn yc] 39)).alloc (.cells #[.int .i64 0,.int .i64 0,.int .i64 0] 159)).alloc (.cells #[.int .i64 (-1),.int .i64 (-1),.int .i64 (-1)] 159)).frozen? ⟨w.heap.size + 1 + 1,2,none⟩ = false:=by rw [World.frozen?_alloc_at _ _ _ _ (by simp)]
 have HBX:=hide (more (more (more (start w) (.cells #[.int .i64 fr,.int .i64 ev,.int .i64 ct,.int .i64 un,.slice D dn dc,.slice M mn mc,.slice Y yn yc] 39)) (.cells #[.int .i64 0,.int .i64 0,.int .i64 0] 159)) (.cells #[.int .i64 (-1),.int .i64 (-1),.int .i64 (-1)] 159))
 have hsz : w.heap.size + 1 + 1 < (((w.alloc (.cells #[.int .i64 fr,.int .i64 ev,.int .i64 ct,.int .i64 un,.slice D dn dc,.slice M mn mc,.slice Y yn yc] 39)).alloc (.cells #[.int .i64 0,.int .i64 0,.int .i64 0] 159)).alloc (.cells #[.int .i64 (-1),.int .i64 (-1),.int .i64 (-1)] 159)).heap.size:=by simp
 go_enter Tryz.func137,Tryz.ntmps137
 go_wp2_with fail
 generalize (((w.alloc (.cells #[.int .i64 fr,.int .i64 ev,.int .i64 ct,.int .i64 un,.slice D dn dc,.slice M mn mc,.slice Y yn yc] 39)).alloc (.cells #[.int .i64 0,.int .i64 0,.int .i64 0] 159)).alloc (.cells #[.int .i64 (-1),.int .i64 (-1),.int .i64 (-1)] 159)) = W at *
 refine (weekday_at s v _ h1 h2 HV.out).mono ?_
 rintro e u0 ⟨rfl,hb⟩
 replace HBX:=hide (andthen HBX.out hb)
 replace y0:=(hb.frozen (p:=⟨w.heap.size + 1,0,none⟩) (by show w.heap.size + 1 < _; omega)).trans y0
 replace y1:=(hb.frozen (p:=⟨w.heap.size + 1,1,none⟩) (by show w.heap.size + 1 < _; omega)).trans y1
 replace y2:=(hb.frozen (p:=⟨w.heap.size + 1,2,none⟩) (by show w.heap.size + 1 < _; omega)).trans y2
 replace q0:=(hb.frozen (p:=⟨w.heap.size + 1 + 1,0,none⟩) (by show w.heap.size + 1 + 1 < _; omega)).trans q0
 replace q1:=(hb.frozen (p:=⟨w.heap.size + 1 + 1,1,none⟩) (by show w.heap.size + 1 + 1 < _; omega)).trans q1
 replace q2:=(hb.frozen (p:=⟨w.heap.size + 1 + 1,2,none⟩) (by show w.heap.size + 1 + 1 < _; omega)).trans q2
 replace s0:=cell_keep hb s0
 replace s5:=cell_keep hb s5
 replace s6:=cell_keep hb s6
 replace z0:=cell_keep hb z0
 replace z1:=cell_keep hb z1
 replace z2:=cell_keep hb z2
 replace k0:=cell_keep hb k0
 replace k1:=cell_keep hb k1
 replace k2:=cell_keep hb k2
 replace hsz:=Nat.lt_of_lt_of_le hsz hb.size
 clear hb
 have hs0 : w.heap.size < u0.heap.size:=by omega
 have hs1 : w.heap.size + 1 < u0.heap.size:=by omega
 go_wp2_with fail
 replace s0:=(World.cell?_setCell_other u0 ⟨w.heap.size + 1 + 1,0,none⟩ ⟨w.heap.size,0,none⟩ (.int .i64 v) (by intro hc; injection hc with hc1 hc2; first | (exact absurd hc1 (by omega)) | (exact absurd hc2 (by decide)))).trans s0
 replace s5:=(World.cell?_setCell_other u0 ⟨w.heap.size + 1 + 1,0,none⟩ ⟨w.heap.size,5,none⟩ (.int .i64 v) (by intro hc; injection hc with hc1 hc2; first | (exact absurd hc1 (by omega)) | (exact absurd hc2 (by decide)))).trans s5
 replace s6:=(World.cell?_setCell_other u0 ⟨w.heap.size + 1 + 1,0,none⟩ ⟨w.heap.size,6,none⟩ (.int .i64 v) (by intro hc; injection hc with hc1 hc2; first | (exact absurd hc1 (by omega)) | (exact absurd hc2 (by decide)))).trans s6
 replace z0:=(World.cell?_setCell_other u0 ⟨w.heap.size + 1 + 1,0,none⟩ ⟨w.heap.size + 1,0,none⟩ (.int .i64 v) (by intro hc; injection hc with hc1 hc2; first | (exact absurd hc1 (by omega)) | (exact absurd hc2 (by decide)))).trans z0
 replace z1:=(World.cell?_setCell_other u0 ⟨w.heap.size + 1 + 1,0,none⟩ ⟨w.heap.size + 1,1,none⟩ (.int .i64 v) (by intro hc; injection hc with hc1 hc2; first | (exact absurd hc1 (by omega)) | (exact absurd hc2 (by decide)))).trans z1
 replace z2:=(World.cell?_setCell_other u0 ⟨w.heap.size + 1 + 1,0,none⟩ ⟨w.heap.size + 1,2,none⟩ (.int .i64 v) (by intro hc; injection hc with hc1 hc2; first | (exact absurd hc1 (by omega)) | (exact absurd hc2 (by decide)))).trans z2
 replace k1:=(World.cell?_setCell_other u0 ⟨w.heap.size + 1 + 1,0,none⟩ ⟨w.heap.size + 1 + 1,1,none⟩ (.int .i64 v) (by intro hc; injection hc with hc1 hc2; first | (exact absurd hc1 (by omega)) | (exact absurd hc2 (by decide)))).trans k1
 replace k2:=(World.cell?_setCell_other u0 ⟨w.heap.size + 1 + 1,0,none⟩ ⟨w.heap.size + 1 + 1,2,none⟩ (.int .i64 v) (by intro hc; injection hc with hc1 hc2; first | (exact absurd hc1 (by omega)) | (exact absurd hc2 (by decide)))).trans k2
 replace k0:=World.cell?_setCell_same u0 ⟨w.heap.size + 1 + 1,0,none⟩ (.int .i64 v) k0
 replace y0 : (u0.setCell ⟨w.heap.size + 1 + 1,0,none⟩ (.int .i64 v)).frozen? ⟨w.heap.size + 1,0,none⟩ = false:=by rw [World.frozen?_setCell]; exact y0
 replace q0 : (u0.setCell ⟨w.heap.size + 1 + 1,0,none⟩ (.int .i64 v)).frozen? ⟨w.heap.size + 1 + 1,0,none⟩ = false:=by rw [World.frozen?_setCell]; exact q0
 replace y1 : (u0.setCell ⟨w.heap.size + 1 + 1,0,none⟩ (.int .i64 v)).frozen? ⟨w.heap.size + 1,1,none⟩ = false:=by rw [World.frozen?_setCell]; exact y1
 replace q1 : (u0.setCell ⟨w.heap.size + 1 + 1,0,none⟩ (.int .i64 v)).frozen? ⟨w.heap.size + 1 + 1,1,none⟩ = false:=by rw [World.frozen?_setCell]; exact q1
 replace y2 : (u0.setCell ⟨w.heap.size + 1 + 1,0,none⟩ (.int .i64 v)).frozen? ⟨w.heap.size + 1,2,none⟩ = false:=by rw [World.frozen?_setCell]; exact y2
 replace q2 : (u0.setCell ⟨w.heap.size + 1 + 1,0,none⟩ (.int .i64 v)).frozen? ⟨w.heap.size + 1 + 1,2,none⟩ = false:=by rw [World.frozen?_setCell]; exact q2
 replace HBX:=hide (HBX.out.setCell (p:=⟨w.heap.size + 1 + 1,0,none⟩) (by show w.heap.size <= w.heap.size + 1 + 1; omega) (.int .i64 v))
 replace hsz : w.heap.size + 1 + 1 < (u0.setCell ⟨w.heap.size + 1 + 1,0,none⟩ (.int .i64 v)).heap.size:=by rw [World.size_setCell]; exact hsz
 clear hs0 hs1
 generalize (u0.setCell ⟨w.heap.size + 1 + 1,0,none⟩ (.int .i64 v)) = U at *
 refine (date_is s y m d _ h1 h2 HD.out.1 HD.out.2.1 HD.out.2.2).mono ?_
 rintro e u1 ⟨rfl,hb⟩
 replace HBX:=hide (andthen HBX.out hb)
 replace y0:=(hb.frozen (p:=⟨w.heap.size + 1,0,none⟩) (by show w.heap.size + 1 < _; omega)).trans y0
 replace y1:=(hb.frozen (p:=⟨w.heap.size + 1,1,none⟩) (by show w.heap.size + 1 < _; omega)).trans y1
 replace y2:=(hb.frozen (p:=⟨w.heap.size + 1,2,none⟩) (by show w.heap.size + 1 < _; omega)).trans y2
 replace q0:=(hb.frozen (p:=⟨w.heap.size + 1 + 1,0,none⟩) (by show w.heap.size + 1 + 1 < _; omega)).trans q0
 replace q1:=(hb.frozen (p:=⟨w.heap.size + 1 + 1,1,none⟩) (by show w.heap.size + 1 + 1 < _; omega)).trans q1
 replace q2:=(hb.frozen (p:=⟨w.heap.size + 1 + 1,2,none⟩) (by show w.heap.size + 1 + 1 < _; omega)).trans q2
 replace s0:=cell_keep hb s0
 replace s5:=cell_keep hb s5
 replace s6:=cell_keep hb s6
 replace z0:=cell_keep hb z0
 replace z1:=cell_keep hb z1
 replace z2:=cell_keep hb z2
 replace k0:=cell_keep hb k0
 replace k1:=cell_keep hb k1
 replace k2:=cell_keep hb k2
 replace hsz:=Nat.lt_of_lt_of_le hsz hb.size
 clear hb
 have hs0 : w.heap.size < u1.heap.size:=by omega
 have hs1 : w.heap.size + 1 < u1.heap.size:=by omega
 have d0 : (u1.alloc (.cells #[.int .i64 y,.int .i64 m,.int .i64 d] 110)).cell? ⟨u1.heap.size,0,none⟩ = some (.int .i64 y):=by rw [World.cell?_alloc_at _ _ _ _ rfl]; rfl
 have d1 : (u1.alloc (.cells #[.int .i64 y,.int .i64 m,.int .i64 d] 110)).cell? ⟨u1.heap.size,1,none⟩ = some (.int .i64 m):=by rw [World.cell?_alloc_at _ _ _ _ rfl]; rfl
 have d2 : (u1.alloc (.cells #[.int .i64 y,.int .i64 m,.int .i64 d] 110)).cell? ⟨u1.heap.size,2,none⟩ = some (.int .i64 d):=by rw [World.cell?_alloc_at _ _ _ _ rfl]; rfl
 go_wp2_with fail
 refine ret_gen (Thr w (w.heap.size + 1) _ _ _) (thr_alloc _ (thr_set (Nat.le_succ _) ⟨z0,z1,z2,HBX.out⟩)) ?_
 rintro WF ⟨c0,c1,c2,hb⟩
 exact bodyPost_ret (v:=.agg #[.int .i64 v,.int .i64 (-1),.int .i64 (-1)]) (by simp [results,Tryz.results137,go_sem,c0,c1,c2]) rfl ⟨rfl,hb⟩
theorem asked_d (fr ev ct un : Int) (D M Y : Option Addr) (dn dc mn mc yn yc : Nat) (s : Int) (w : World) (y m d v : Int) (hd : dn <= 0) (hm : mn <= 0) (f2 : (fr == 2) = false) (f3 : (fr == 3) = false) (f4 : (fr == 4) = false) (h1 : 0 <= s) (h2 : s < 36525) (HD : Hid (Cal.yOf s = y /\ Cal.mOf s = m /\ Cal.dOf s = d)) (_HV : Hid (Cal.wday s = v)) :
  Calls Tryz.prog 137 #[.agg #[.int .i64 fr,.int .i64 ev,.int .i64 ct,.int .i64 un,.slice D dn dc,.slice M mn mc,.slice Y yn yc],.int .i64 s] w (Ans w (.agg #[.int .i64 (-1),.int .i64 (-1),.int .i64 (-1)])):=by
 have s0 : (((w.alloc (.cells #[.int .i64 fr,.int .i64 ev,.int .i64 ct,.int .i64 un,.slice D dn dc,.slice M mn mc,.slice Y yn yc] 39)).alloc (.cells #[.int .i64 0,.int .i64 0,.int .i64 0] 159)).alloc (.cells #[.int .i64 (-1),.int .i64 (-1),.int .i64 (-1)] 159)).cell? ⟨w.heap.size,0,none⟩ = some (.int .i64 fr):=by rw [World.cell?_alloc_past _ _ _ (by simp only [World.size_alloc]; omega),World.cell?_alloc_past _ _ _ (by simp),World.cell?_alloc_at _ _ _ _ rfl]; rfl
 have s5 : (((w.alloc (.cells #[.int .i64 fr,.int .i64 ev,.int .i64 ct,.int .i64 un,.slice D dn dc,.slice M mn mc,.slice Y yn yc] 39)).alloc (.cells #[.int .i64 0,.int .i64 0,.int .i64 0] 159)).alloc (.cells #[.int .i64 (-1),.int .i64 (-1),.int .i64 (-1)] 159)).cell? ⟨w.heap.size,5,none⟩ = some (.slice M mn mc):=by rw [World.cell?_alloc_past _ _ _ (by simp only [World.size_alloc]; omega),World.cell?_alloc_past _ _ _ (by simp),World.cell?_alloc_at _ _ _ _ rfl]; rfl
 have s6 : (((w.alloc (.cells #[.int .i64 fr,.int .i64 ev,.int .i64 ct,.int .i64 un,.slice D dn dc,.slice M mn mc,.slice Y yn yc] 39)).alloc (.cells #[.int .i64 0,.int .i64 0,.int .i64 0] 159)).alloc (.cells #[.int .i64 (-1),.int .i64 (-1),.int .i64 (-1)] 159)).cell? ⟨w.heap.size,6,none⟩ = some (.slice Y yn yc):=by rw [World.cell?_alloc_past _ _ _ (by simp only [World.size_alloc]; omega),World.cell?_alloc_past _ _ _ (by simp),World.cell?_alloc_at _ _ _ _ rfl]; rfl
 have z0 : (((w.alloc (.cells #[.int .i64 fr,.int .i64 ev,.int .i64 ct,.int .i64 un,.slice D dn dc,.slice M mn mc,.slice Y yn yc] 39)).alloc (.cells #[.int .i64 0,.int .i64 0,.int .i64 0] 159)).alloc (.cells #[.int .i64 (-1),.int .i64 (-1),.int .i64 (-1)] 159)).cell? ⟨w.heap.size + 1,0,none⟩ = some (.int .i64 0):=by rw [World.cell?_alloc_past _ _ _ (by simp),World.cell?_alloc_at _ _ _ _ (by simp)]; rfl
 have y0 : (((w.alloc (.cells #[.int .i64 fr,.int .i64 ev,.int .i64 ct,.int .i64 un,.slice D dn dc,.slice M mn mc,.slice Y yn yc] 39)).alloc (.cells #[.int .i64 0,.int .i64 0,.int .i64 0] 159)).alloc (.cells #[.int .i64 (-1),.int .i64 (-1),.int .i64 (-1)] 159)).frozen? ⟨w.heap.size + 1,0,none⟩ = false:=by rw [World.frozen?_alloc_past _ _ _ (by simp),World.frozen?_alloc_at _ _ _ _ (by simp)]
 have k0 : (((w.alloc (.cells #[.int .i64 fr,.int .i64 ev,.int .i64 ct,.int .i64 un,.slice D dn dc,.slice M mn mc,.slice Y yn yc] 39)).alloc (.cells #[.int .i64 0,.int .i64 0,.int .i64 0] 159)).alloc (.cells #[.int .i64 (-1),.int .i64 (-1),.int .i64 (-1)] 159)).cell? ⟨w.heap.size + 1 + 1,0,none⟩ = some (.int .i64 (-1)):=by rw [World.cell?_alloc_at _ _ _ _ (by simp)]; rfl
 have q0 : (((w.alloc (.cells #[.int .i64 fr,.int .i64 ev,.int .i64 ct,.int .i64 un,.slice D dn dc,.slice M mn mc,.slice Y yn yc] 39)).alloc (.cells #[.int .i64 0,.int .i64 0,.int .i64 0] 159)).alloc (.cells #[.int .i64 (-1),.int .i64 (-1),.int .i64 (-1)] 159)).frozen? ⟨w.heap.size + 1 + 1,0,none⟩ = false:=by rw [World.frozen?_alloc_at _ _ _ _ (by simp)]
 have z1 : (((w.alloc (.cells #[.int .i64 fr,.int .i64 ev,.int .i64 ct,.int .i64 un,.slice D dn dc,.slice M mn mc,.slice Y yn yc] 39)).alloc (.cells #[.int .i64 0,.int .i64 0,.int .i64 0] 159)).alloc (.cells #[.int .i64 (-1),.int .i64 (-1),.int .i64 (-1)] 159)).cell? ⟨w.heap.size + 1,1,none⟩ = some (.int .i64 0):=by rw [World.cell?_alloc_past _ _ _ (by simp),World.cell?_alloc_at _ _ _ _ (by simp)]; rfl
 have y1 : (((w.alloc (.cells #[.int .i64 fr,.int .i64 ev,.int .i64 ct,.int .i64 un,.slice D dn dc,.slice M mn mc,.slice Y yn yc] 39)).alloc (.cells #[.int .i64 0,.int .i64 0,.int .i64 0] 159)).alloc (.cells #[.int .i64 (-1),.int .i64 (-1),.int .i64 (-1)] 159)).frozen? ⟨w.heap.size + 1,1,none⟩ = false:=by rw [World.frozen?_alloc_past _ _ _ (by simp),World.frozen?_alloc_at _ _ _ _ (by simp)]
 have k1 : (((w.alloc (.cells #[.int .i64 fr,.int .i64 ev,.int .i64 ct,.int .i64 un,.slice D dn dc,.slice M mn mc,.slice Y yn yc] 39)).alloc (.cells #[.int .i64 0,.int .i64 0,.int .i64 0] 159)).alloc (.cells #[.int .i64 (-1),.int .i64 (-1),.int .i64 (-1)] 159)).cell? ⟨w.heap.size + 1 + 1,1,none⟩ = some (.int .i64 (-1)):=by rw [World.cell?_alloc_at _ _ _ _ (by simp)]; rfl
 have q1 : (((w.alloc (.cells #[.int .i64 fr,.int .i64 ev,.int .i64 ct,.int .i64 un,.slice D dn dc,.slice M mn mc,.slice Y yn yc] 39)).alloc (.cells #[.int .i64 0,.int .i64 0,.int .i64 0] 159)).alloc (.cells #[.int .i64 (-1),.int .i64 (-1),.int .i64 (-1)] 159)).frozen? ⟨w.heap.size + 1 + 1,1,none⟩ = false:=by rw [World.frozen?_alloc_at _ _ _ _ (by simp)]
 have z2 : (((w.alloc (.cells #[.int .i64 fr,.int .i64 ev,.int .i64 ct,.int .i64 un,.slice D dn dc,.slice M mn mc,.slice Y yn yc] 39)).alloc (.cells #[.int .i64 0,.int .i64 0,.int .i64 0] 159)).alloc (.cells #[.int .i64 (-1),.int .i64 (-1),.int .i64 (-1)] 159)).cell? ⟨w.heap.size + 1,2,none⟩ = some (.int .i64 0):=by rw [World.cell?_alloc_past _ _ _ (by simp),World.cell?_alloc_at _ _ _ _ (by simp)]; rfl
 have y2 : (((w.alloc (.cells #[.int .i64 fr,.int .i64 ev,.int .i64 ct,.int .i64 un,.slice D dn dc,.slice M mn mc,.slice Y yn yc] 39)).alloc (.cells #[.int .i64 0,.int .i64 0,.int .i64 0] 159)).alloc (.cells #[.int .i64 (-1),.int .i64 (-1),.int .i64 (-1)] 159)).frozen? ⟨w.heap.size + 1,2,none⟩ = false:=by rw [World.frozen?_alloc_past _ _ _ (by simp),World.frozen?_alloc_at _ _ _ _ (by simp)]
 have k2 : (((w.alloc (.cells #[.int .i64 fr,.int .i64 ev,.int .i64 ct,.int .i64 un,.slice D dn dc,.slice M mn mc,.slice Y yn yc] 39)).alloc (.cells #[.int .i64 0,.int .i64 0,.int .i64 0] 159)).alloc (.cells #[.int .i64 (-1),.int .i64 (-1),.int .i64 (-1)] 159)).cell? ⟨w.heap.size + 1 + 1,2,none⟩ = some (.int .i64 (-1)):=by rw [World.cell?_alloc_at _ _ _ _ (by simp)]; rfl
 have q2 : (((w.alloc (.cells #[.int .i64 fr,.int .i64 ev,.int .i64 ct,.int .i64 un,.slice D dn dc,.slice M mn mc,.slice Y yn yc] 39)).alloc (.cells #[.int .i64 0,.int .i64 0,.int .i64 0] 159)).alloc (.cells #[.int .i64 (-1),.int .i64 (-1),.int .i64 (-1)] 159)).frozen? ⟨w.heap.size + 1 + 1,2,none⟩ = false:=by rw [World.frozen?_alloc_at _ _ _ _ (by simp)]
 have HBX:=hide (more (more (more (start w) (.cells #[.int .i64 fr,.int .i64 ev,.int .i64 ct,.int .i64 un,.slice D dn dc,.slice M mn mc,.slice Y yn yc] 39)) (.cells #[.int .i64 0,.int .i64 0,.int .i64 0] 159)) (.cells #[.int .i64 (-1),.int .i64 (-1),.int .i64 (-1)] 159))
 have hsz : w.heap.size + 1 + 1 < (((w.alloc (.cells #[.int .i64 fr,.int .i64 ev,.int .i64 ct,.int .i64 un,.slice D dn dc,.slice M mn mc,.slice Y yn yc] 39)).alloc (.cells #[.int .i64 0,.int .i64 0,.int .i64 0] 159)).alloc (.cells #[.int .i64 (-1),.int .i64 (-1),.int .i64 (-1)] 159)).heap.size:=by simp
 go_enter Tryz.func137,Tryz.ntmps137
 go_wp2_with fail
 generalize (((w.alloc (.cells #[.int .i64 fr,.int .i64 ev,.int .i64 ct,.int .i64 un,.slice D dn dc,.slice M mn mc,.slice Y yn yc] 39)).alloc (.cells #[.int .i64 0,.int .i64 0,.int .i64 0] 159)).alloc (.cells #[.int .i64 (-1),.int .i64 (-1),.int .i64 (-1)] 159)) = W at *
 refine (date_is s y m d _ h1 h2 HD.out.1 HD.out.2.1 HD.out.2.2).mono ?_
 rintro e u1 ⟨rfl,hb⟩
 replace HBX:=hide (andthen HBX.out hb)
 replace y0:=(hb.frozen (p:=⟨w.heap.size + 1,0,none⟩) (by show w.heap.size + 1 < _; omega)).trans y0
 replace y1:=(hb.frozen (p:=⟨w.heap.size + 1,1,none⟩) (by show w.heap.size + 1 < _; omega)).trans y1
 replace y2:=(hb.frozen (p:=⟨w.heap.size + 1,2,none⟩) (by show w.heap.size + 1 < _; omega)).trans y2
 replace q0:=(hb.frozen (p:=⟨w.heap.size + 1 + 1,0,none⟩) (by show w.heap.size + 1 + 1 < _; omega)).trans q0
 replace q1:=(hb.frozen (p:=⟨w.heap.size + 1 + 1,1,none⟩) (by show w.heap.size + 1 + 1 < _; omega)).trans q1
 replace q2:=(hb.frozen (p:=⟨w.heap.size + 1 + 1,2,none⟩) (by show w.heap.size + 1 + 1 < _; omega)).trans q2
 replace s0:=cell_keep hb s0
 replace s5:=cell_keep hb s5
 replace s6:=cell_keep hb s6
 replace z0:=cell_keep hb z0
 replace z1:=cell_keep hb z1
 replace z2:=cell_keep hb z2
 replace k0:=cell_keep hb k0
 replace k1:=cell_keep hb k1
 replace k2:=cell_keep hb k2
 replace hsz:=Nat.lt_of_lt_of_le hsz hb.size
 clear hb
 have hs0 : w.heap.size < u1.heap.size:=by omega
 have hs1 : w.heap.size + 1 < u1.heap.size:=by omega
 have d0 : (u1.alloc (.cells #[.int .i64 y,.int .i64 m,.int .i64 d] 110)).cell? ⟨u1.heap.size,0,none⟩ = some (.int .i64 y):=by rw [World.cell?_alloc_at _ _ _ _ rfl]; rfl
 have d1 : (u1.alloc (.cells #[.int .i64 y,.int .i64 m,.int .i64 d] 110)).cell? ⟨u1.heap.size,1,none⟩ = some (.int .i64 m):=by rw [World.cell?_alloc_at _ _ _ _ rfl]; rfl
 have d2 : (u1.alloc (.cells #[.int .i64 y,.int .i64 m,.int .i64 d] 110)).cell? ⟨u1.heap.size,2,none⟩ = some (.int .i64 d):=by rw [World.cell?_alloc_at _ _ _ _ rfl]; rfl
 go_wp2_with fail
 refine ret_gen (Thr w (w.heap.size + 1) _ _ _) (thr_alloc _ (thr_set (Nat.le_succ _) ⟨z0,z1,z2,HBX.out⟩)) ?_
 rintro WF ⟨c0,c1,c2,hb⟩
 exact bodyPost_ret (v:=.agg #[.int .i64 (-1),.int .i64 (-1),.int .i64 (-1)]) (by simp [results,Tryz.results137,go_sem,c0,c1,c2]) rfl ⟨rfl,hb⟩
theorem asked_m (fr ev ct un : Int) (D M Y : Option Addr) (dn dc mn mc yn yc : Nat) (s : Int) (w : World) (y m d v : Int) (hd : dn <= 0) (hm : mn <= 0) (f2 : (fr == 2) = false) (f3 : (fr == 3) = true) (f4 : (fr == 4) = false) (h1 : 0 <= s) (h2 : s < 36525) (HD : Hid (Cal.yOf s = y /\ Cal.mOf s = m /\ Cal.dOf s = d)) (_HV : Hid (Cal.wday s = v)) :
  Calls Tryz.prog 137 #[.agg #[.int .i64 fr,.int .i64 ev,.int .i64 ct,.int .i64 un,.slice D dn dc,.slice M mn mc,.slice Y yn yc],.int .i64 s] w (Ans w (.agg #[.int .i64 (-1),.int .i64 d,.int .i64 (-1)])):=by
 have s0 : (((w.alloc (.cells #[.int .i64 fr,.int .i64 ev,.int .i64 ct,.int .i64 un,.slice D dn dc,.slice M mn mc,.slice Y yn yc] 39)).alloc (.cells #[.int .i64 0,.int .i64 0,.int .i64 0] 159)).alloc (.cells #[.int .i64 (-1),.int .i64 (-1),.int .i64 (-1)] 159)).cell? ⟨w.heap.size,0,none⟩ = some (.int .i64 fr):=by rw [World.cell?_alloc_past _ _ _ (by simp only [World.size_alloc]; omega),World.cell?_alloc_past _ _ _ (by simp),World.cell?_alloc_at _ _ _ _ rfl]; rfl
 have s5 : (((w.alloc (.cells #[.int .i64 fr,.int .i64 ev,.int .i64 ct,.int .i64 un,.slice D dn dc,.slice M mn mc,.slice Y yn yc] 39)).alloc (.cells #[.int .i64 0,.int .i64 0,.int .i64 0] 159)).alloc (.cells #[.int .i64 (-1),.int .i64 (-1),.int .i64 (-1)] 159)).cell? ⟨w.heap.size,5,none⟩ = some (.slice M mn mc):=by rw [World.cell?_alloc_past _ _ _ (by simp only [World.size_alloc]; omega),World.cell?_alloc_past _ _ _ (by simp),World.cell?_alloc_at _ _ _ _ rfl]; rfl
 have s6 : (((w.alloc (.cells #[.int .i64 fr,.int .i64 ev,.int .i64 ct,.int .i64 un,.slice D dn dc,.slice M mn mc,.slice Y yn yc] 39)).alloc (.cells #[.int .i64 0,.int .i64 0,.int .i64 0] 159)).alloc (.cells #[.int .i64 (-1),.int .i64 (-1),.int .i64 (-1)] 159)).cell? ⟨w.heap.size,6,none⟩ = some (.slice Y yn yc):=by rw [World.cell?_alloc_past _ _ _ (by simp only [World.size_alloc]; omega),World.cell?_alloc_past _ _ _ (by simp),World.cell?_alloc_at _ _ _ _ rfl]; rfl
 have z0 : (((w.alloc (.cells #[.int .i64 fr,.int .i64 ev,.int .i64 ct,.int .i64 un,.slice D dn dc,.slice M mn mc,.slice Y yn yc] 39)).alloc (.cells #[.int .i64 0,.int .i64 0,.int .i64 0] 159)).alloc (.cells #[.int .i64 (-1),.int .i64 (-1),.int .i64 (-1)] 159)).cell? ⟨w.heap.size + 1,0,none⟩ = some (.int .i64 0):=by rw [World.cell?_alloc_past _ _ _ (by simp),World.cell?_alloc_at _ _ _ _ (by simp)]; rfl
 have y0 : (((w.alloc (.cells #[.int .i64 fr,.int .i64 ev,.int .i64 ct,.int .i64 un,.slice D dn dc,.slice M mn mc,.slice Y yn yc] 39)).alloc (.cells #[.int .i64 0,.int .i64 0,.int .i64 0] 159)).alloc (.cells #[.int .i64 (-1),.int .i64 (-1),.int .i64 (-1)] 159)).frozen? ⟨w.heap.size + 1,0,none⟩ = false:=by rw [World.frozen?_alloc_past _ _ _ (by simp),World.frozen?_alloc_at _ _ _ _ (by simp)]
 have k0 : (((w.alloc (.cells #[.int .i64 fr,.int .i64 ev,.int .i64 ct,.int .i64 un,.slice D dn dc,.slice M mn mc,.slice Y yn yc] 39)).alloc (.cells #[.int .i64 0,.int .i64 0,.int .i64 0] 159)).alloc (.cells #[.int .i64 (-1),.int .i64 (-1),.int .i64 (-1)] 159)).cell? ⟨w.heap.size + 1 + 1,0,none⟩ = some (.int .i64 (-1)):=by rw [World.cell?_alloc_at _ _ _ _ (by simp)]; rfl
 have q0 : (((w.alloc (.cells #[.int .i64 fr,.int .i64 ev,.int .i64 ct,.int .i64 un,.slice D dn dc,.slice M mn mc,.slice Y yn yc] 39)).alloc (.cells #[.int .i64 0,.int .i64 0,.int .i64 0] 159)).alloc (.cells #[.int .i64 (-1),.int .i64 (-1),.int .i64 (-1)] 159)).frozen? ⟨w.heap.size + 1 + 1,0,none⟩ = false:=by rw [World.frozen?_alloc_at _ _ _ _ (by simp)]
 have z1 : (((w.alloc (.cells #[.int .i64 fr,.int .i64 ev,.int .i64 ct,.int .i64 un,.slice D dn dc,.slice M mn mc,.slice Y yn yc] 39)).alloc (.cells #[.int .i64 0,.int .i64 0,.int .i64 0] 159)).alloc (.cells #[.int .i64 (-1),.int .i64 (-1),.int .i64 (-1)] 159)).cell? ⟨w.heap.size + 1,1,none⟩ = some (.int .i64 0):=by rw [World.cell?_alloc_past _ _ _ (by simp),World.cell?_alloc_at _ _ _ _ (by simp)]; rfl
 have y1 : (((w.alloc (.cells #[.int .i64 fr,.int .i64 ev,.int .i64 ct,.int .i64 un,.slice D dn dc,.slice M mn mc,.slice Y yn yc] 39)).alloc (.cells #[.int .i64 0,.int .i64 0,.int .i64 0] 159)).alloc (.cells #[.int .i64 (-1),.int .i64 (-1),.int .i64 (-1)] 159)).frozen? ⟨w.heap.size + 1,1,none⟩ = false:=by rw [World.frozen?_alloc_past _ _ _ (by simp),World.frozen?_alloc_at _ _ _ _ (by simp)]
 have k1 : (((w.alloc (.cells #[.int .i64 fr,.int .i64 ev,.int .i64 ct,.int .i64 un,.slice D dn dc,.slice M mn mc,.slice Y yn yc] 39)).alloc (.cells #[.int .i64 0,.int .i64 0,.int .i64 0] 159)).alloc (.cells #[.int .i64 (-1),.int .i64 (-1),.int .i64 (-1)] 159)).cell? ⟨w.heap.size + 1 + 1,1,none⟩ = some (.int .i64 (-1)):=by rw [World.cell?_alloc_at _ _ _ _ (by simp)]; rfl
 have q1 : (((w.alloc (.cells #[.int .i64 fr,.int .i64 ev,.int .i64 ct,.int .i64 un,.slice D dn dc,.slice M mn mc,.slice Y yn yc] 39)).alloc (.cells #[.int .i64 0,.int .i64 0,.int .i64 0] 159)).alloc (.cells #[.int .i64 (-1),.int .i64 (-1),.int .i64 (-1)] 159)).frozen? ⟨w.heap.size + 1 + 1,1,none⟩ = false:=by rw [World.frozen?_alloc_at _ _ _ _ (by simp)]
 have z2 : (((w.alloc (.cells #[.int .i64 fr,.int .i64 ev,.int .i64 ct,.int .i64 un,.slice D dn dc,.slice M mn mc,.slice Y yn yc] 39)).alloc (.cells #[.int .i64 0,.int .i64 0,.int .i64 0] 159)).alloc (.cells #[.int .i64 (-1),.int .i64 (-1),.int .i64 (-1)] 159)).cell? ⟨w.heap.size + 1,2,none⟩ = some (.int .i64 0):=by rw [World.cell?_alloc_past _ _ _ (by simp),World.cell?_alloc_at _ _ _ _ (by simp)]; rfl
 have y2 : (((w.alloc (.cells #[.int .i64 fr,.int .i64 ev,.int .i64 ct,.int .i64 un,.slice D dn dc,.slice M mn mc,.slice Y yn yc] 39)).alloc (.cells #[.int .i64 0,.int .i64 0,.int .i64 0] 159)).alloc (.cells #[.int .i64 (-1),.int .i64 (-1),.int .i64 (-1)] 159)).frozen? ⟨w.heap.size + 1,2,none⟩ = false:=by rw [World.frozen?_alloc_past _ _ _ (by simp),World.frozen?_alloc_at _ _ _ _ (by simp)]
 have k2 : (((w.alloc (.cells #[.int .i64 fr,.int .i64 ev,.int .i64 ct,.int .i64 un,.slice D dn dc,.slice M mn mc,.slice Y yn yc] 39)).alloc (.cells #[.int .i64 0,.int .i64 0,.int .i64 0] 159)).alloc (.cells #[.int .i64 (-1),.int .i64 (-1),.int .i64 (-1)] 159)).cell? ⟨w.heap.size + 1 + 1,2,none⟩ = some (.int .i64 (-1)):=by rw [World.cell?_alloc_at _ _ _ _ (by simp)]; rfl
 have q2 : (((w.alloc (.cells #[.int .i64 fr,.int .i64 ev,.int .i64 ct,.int .i64 un,.slice D dn dc,.slice M mn mc,.slice Y yn yc] 39)).alloc (.cells #[.int .i64 0,.int .i64 0,.int .i64 0] 159)).alloc (.cells #[.int .i64 (-1),.int .i64 (-1),.int .i64 (-1)] 159)).frozen? ⟨w.heap.size + 1 + 1,2,none⟩ = false:=by rw [World.frozen?_alloc_at _ _ _ _ (by simp)]
 have HBX:=hide (more (more (more (start w) (.cells #[.int .i64 fr,.int .i64 ev,.int .i64 ct,.int .i64 un,.slice D dn dc,.slice M mn mc,.slice Y yn yc] 39)) (.cells #[.int .i64 0,.int .i64 0,.int .i64 0] 159)) (.cells #[.int .i64 (-1),.int .i64 (-1),.int .i64 (-1)] 159))
 have hsz : w.heap.size + 1 + 1 < (((w.alloc (.cells #[.int .i64 fr,.int .i64 ev,.int .i64 ct,.int .i64 un,.slice D dn dc,.slice M mn mc,.slice Y yn yc] 39)).alloc (.cells #[.int .i64 0,.int .i64 0,.int .i64 0] 159)).alloc (.cells #[.int .i64 (-1),.int .i64 (-1),.int .i64 (-1)] 159)).heap.size:=by simp
 go_enter Tryz.func137,Tryz.ntmps137
 go_wp2_with fail
 generalize (((w.alloc (.cells #[.int .i64 fr,.int .i64 ev,.int .i64 ct,.int .i64 un,.slice D dn dc,.slice M mn mc,.slice Y yn yc] 39)).alloc (.cells #[.int .i64 0,.int .i64 0,.int .i64 0] 159)).alloc (.cells #[.int .i64 (-1),.int .i64 (-1),.int .i64 (-1)] 159)) = W at *
 refine (date_is s y m d _ h1 h2 HD.out.1 HD.out.2.1 HD.out.2.2).mono ?_
 rintro e u1 ⟨rfl,hb⟩
 replace HBX:=hide (andthen HBX.out hb)
 replace y0:=(hb.frozen (p:=⟨w.heap.size + 1,0,none⟩) (by show w.heap.size + 1 < _; omega)).trans y0
 replace y1:=(hb.frozen (p:=⟨w.heap.size + 1,1,none⟩) (by show w.heap.size + 1 < _; omega)).trans y1
 replace y2:=(hb.frozen (p:=⟨w.heap.size + 1,2,none⟩) (by show w.heap.size + 1 < _; omega)).trans y2
 replace q0:=(hb.frozen (p:=⟨w.heap.size + 1 + 1,0,none⟩) (by show w.heap.size + 1 + 1 < _; omega)).trans q0
 replace q1:=(hb.frozen (p:=⟨w.heap.size + 1 + 1,1,none⟩) (by show w.heap.size + 1 + 1 < _; omega)).trans q1
 replace q2:=(hb.frozen (p:=⟨w.heap.size + 1 + 1,2,none⟩) (by show w.heap.size + 1 + 1 < _; omega)).trans q2
 replace s0:=cell_keep hb s0
 replace s5:=cell_keep hb s5
 replace s6:=cell_keep hb s6
 replace z0:=cell_keep hb z0
 replace z1:=cell_keep hb z1
 replace z2:=cell_keep hb z2
 replace k0:=cell_keep hb k0
 replace k1:=cell_keep hb k1
 replace k2:=cell_keep hb k2
 replace hsz:=Nat.lt_of_lt_of_le hsz hb.size
 clear hb
 have hs0 : w.heap.size < u1.heap.size:=by omega
 have hs1 : w.heap.size + 1 < u1.heap.size:=by omega
 have d0 : (u1.alloc (.cells #[.int .i64 y,.int .i64 m,.int .i64 d] 110)).cell? ⟨u1.heap.size,0,none⟩ = some (.int .i64 y):=by rw [World.cell?_alloc_at _ _ _ _ rfl]; rfl
 have d1 : (u1.alloc (.cells #[.int .i64 y,.int .i64 m,.int .i64 d] 110)).cell? ⟨u1.heap.size,1,none⟩ = some (.int .i64 m):=by rw [World.cell?_alloc_at _ _ _ _ rfl]; rfl
 have d2 : (u1.alloc (.cells #[.int .i64 y,.int .i64 m,.int .i64 d] 110)).cell? ⟨u1.heap.size,2,none⟩ = some (.int .i64 d):=by rw [World.cell?_alloc_at _ _ _ _ rfl]; rfl
 go_wp2_with fail
 refine ret_gen (Thr w (w.heap.size + 1) _ _ _) (thr_alloc _ (thr_set (Nat.le_succ _) (thr_far (by omega) (by omega) ⟨z0,z1,z2,HBX.out⟩))) ?_
 rintro WF ⟨c0,c1,c2,hb⟩
 exact bodyPost_ret (v:=.agg #[.int .i64 (-1),.int .i64 d,.int .i64 (-1)]) (by simp [results,Tryz.results137,go_sem,c0,c1,c2]) rfl ⟨rfl,hb⟩
theorem asked_y (fr ev ct un : Int) (D M Y : Option Addr) (dn dc mn mc yn yc : Nat) (s : Int) (w : World) (y m d v : Int) (hd : dn <= 0) (hm : mn <= 0) (f2 : (fr == 2) = false) (f3 : (fr == 3) = false) (f4 : (fr == 4) = true) (hy : ((yn : Int) == 0) = false) (_hy2 : (yn == 0) = false) (h1 : 0 <= s) (h2 : s < 36525) (HD : Hid (Cal.yOf s = y /\ Cal.mOf s = m /\ Cal.dOf s = d)) (_HV : Hid (Cal.wday s = v)) :
  Calls Tryz.prog 137 #[.agg #[.int .i64 fr,.int .i64 ev,.int .i64 ct,.int .i64 un,.slice D dn dc,.slice M mn mc,.slice Y yn yc],.int .i64 s] w (Ans w (.agg #[.int .i64 (-1),.int .i64 d,.int .i64 (-1)])):=by
 have s0 : (((w.alloc (.cells #[.int .i64 fr,.int .i64 ev,.int .i64 ct,.int .i64 un,.slice D dn dc,.slice M mn mc,.slice Y yn yc] 39)).alloc (.cells #[.int .i64 0,.int .i64 0,.int .i64 0] 159)).alloc (.cells #[.int .i64 (-1),.int .i64 (-1),.int .i64 (-1)] 159)).cell? ⟨w.heap.size,0,none⟩ = some (.int .i64 fr):=by rw [World.cell?_alloc_past _ _ _ (by simp only [World.size_alloc]; omega),World.cell?_alloc_past _ _ _ (by simp),World.cell?_alloc_at _ _ _ _ rfl]; rfl
 have s5 : (((w.alloc (.cells #[.int .i64 fr,.int .i64 ev,.int .i64 ct,.int .i64 un,.slice D dn dc,.slice M mn mc,.slice Y yn yc] 39)).alloc (.cells #[.int .i64 0,.int .i64 0,.int .i64 0] 159)).alloc (.cells #[.int .i64 (-1),.int .i64 (-1),.int .i64 (-1)] 159)).cell? ⟨w.heap.size,5,none⟩ = some (.slice M mn mc):=by rw [World.cell?_alloc_past _ _ _ (by simp only [World.size_alloc]; omega),World.cell?_alloc_past _ _ _ (by simp),World.cell?_alloc_at _ _ _ _ rfl]; rfl
 have s6 : (((w.alloc (.cells #[.int .i64 fr,.int .i64 ev,.int .i64 ct,.int .i64 un,.slice D dn dc,.slice M mn mc,.slice Y yn yc] 39)).alloc (.cells #[.int .i64 0,.int .i64 0,.int .i64 0] 159)).alloc (.cells #[.int .i64 (-1),.int .i64 (-1),.int .i64 (-1)] 159)).cell? ⟨w.heap.size,6,none⟩ = some (.slice Y yn yc):=by rw [World.cell?_alloc_past _ _ _ (by simp only [World.size_alloc]; omega),World.cell?_alloc_past _ _ _ (by simp),World.cell?_alloc_at _ _ _ _ rfl]; rfl
 have z0 : (((w.alloc (.cells #[.int .i64 fr,.int .i64 ev,.int .i64 ct,.int .i64 un,.slice D dn dc,.slice M mn mc,.slice Y yn yc] 39)).alloc (.cells #[.int .i64 0,.int .i64 0,.int .i64 0] 159)).alloc (.cells #[.int .i64 (-1),.int .i64 (-1),.int .i64 (-1)] 159)).cell? ⟨w.heap.size + 1,0,none⟩ = some (.int .i64 0):=by rw [World.cell?_alloc_past _ _ _ (by simp),World.cell?_alloc_at _ _ _ _ (by simp)]; rfl
 have y0 : (((w.alloc (.cells #[.int .i64 fr,.int .i64 ev,.int .i64 ct,.int .i64 un,.slice D dn dc,.slice M mn mc,.slice Y yn yc] 39)).alloc (.cells #[.int .i64 0,.int .i64 0,.int .i64 0] 159)).alloc (.cells #[.int .i64 (-1),.int .i64 (-1),.int .i64 (-1)] 159)).frozen? ⟨w.heap.size + 1,0,none⟩ = false:=by rw [World.frozen?_alloc_past _ _ _ (by simp),World.frozen?_alloc_at _ _ _ _ (by simp)]
 have k0 : (((w.alloc (.cells #[.int .i64 fr,.int .i64 ev,.int .i64 ct,.int .i64 un,.slice D dn dc,.slice M mn mc,.slice Y yn yc] 39)).alloc (.cells #[.int .i64 0,.int .i64 0,.int .i64 0] 159)).alloc (.cells #[.int .i64 (-1),.int .i64 (-1),.int .i64 (-1)] 159)).cell? ⟨w.heap.size + 1 + 1,0,none⟩ = some (.int .i64 (-1)):=by rw [World.cell?_alloc_at _ _ _ _ (by simp)]; rfl
 have q0 : (((w.alloc (.cells #[.int .i64 fr,.int .i64 ev,.int .i64 ct,.int .i64 un,.slice D dn dc,.slice M mn mc,.slice Y yn yc] 39)).alloc (.cells #[.int .i64 0,.int .i64 0,.int .i64 0] 159)).alloc (.cells #[.int .i64 (-1),.int .i64 (-1),.int .i64 (-1)] 159)).frozen? ⟨w.heap.size + 1 + 1,0,none⟩ = false:=by rw [World.frozen?_alloc_at _ _ _ _ (by simp)]
 have z1 : (((w.alloc (.cells #[.int .i64 fr,.int .i64 ev,.int .i64 ct,.int .i64 un,.slice D dn dc,.slice M mn mc,.slice Y yn yc] 39)).alloc (.cells #[.int .i64 0,.int .i64 0,.int .i64 0] 159)).alloc (.cells #[.int .i64 (-1),.int .i64 (-1),.int .i64 (-1)] 159)).cell? ⟨w.heap.size + 1,1,none⟩ = some (.int .i64 0):=by rw [World.cell?_alloc_past _ _ _ (by simp),World.cell?_alloc_at _ _ _ _ (by simp)]; rfl
 have y1 : (((w.alloc (.cells #[.int .i64 fr,.int .i64 ev,.int .i64 ct,.int .i64 un,.slice D dn dc,.slice M mn mc,.slice Y yn yc] 39)).alloc (.cells #[.int .i64 0,.int .i64 0,.int .i64 0] 159)).alloc (.cells #[.int .i64 (-1),.int .i64 (-1),.int .i64 (-1)] 159)).frozen? ⟨w.heap.size + 1,1,none⟩ = false:=by rw [World.frozen?_alloc_past _ _ _ (by simp),World.frozen?_alloc_at _ _ _ _ (by simp)]
 have k1 : (((w.alloc (.cells #[.int .i64 fr,.int .i64 ev,.int .i64 ct,.int .i64 un,.slice D dn dc,.slice M mn mc,.slice Y yn yc] 39)).alloc (.cells #[.int .i64 0,.int .i64 0,.int .i64 0] 159)).alloc (.cells #[.int .i64 (-1),.int .i64 (-1),.int .i64 (-1)] 159)).cell? ⟨w.heap.size + 1 + 1,1,none⟩ = some (.int .i64 (-1)):=by rw [World.cell?_alloc_at _ _ _ _ (by simp)]; rfl
 have q1 : (((w.alloc (.cells #[.int .i64 fr,.int .i64 ev,.int .i64 ct,.int .i64 un,.slice D dn dc,.slice M mn mc,.slice Y yn yc] 39)).alloc (.cells #[.int .i64 0,.int .i64 0,.int .i64 0] 159)).alloc (.cells #[.int .i64 (-1),.int .i64 (-1),.int .i64 (-1)] 159)).frozen? ⟨w.heap.size + 1 + 1,1,none⟩ = false:=by rw [World.frozen?_alloc_at _ _ _ _ (by simp)]
 have z2 : (((w.alloc (.cells #[.int .i64 fr,.int .i64 ev,.int .i64 ct,.int .i64 un,.slice D dn dc,.slice M mn mc,.slice Y yn yc] 39)).alloc (.cells #[.int .i64 0,.int .i64 0,.int .i64 0] 159)).alloc (.cells #[.int .i64 (-1),.int .i64 (-1),.int .i64 (-1)] 159)).cell? ⟨w.heap.size + 1,2,none⟩ = some (.int .i64 0):=by rw [World.cell?_alloc_past _ _ _ (by simp),World.cell?_alloc_at _ _ _ _ (by simp)]; rfl
 have y2 : (((w.alloc (.cells #[.int .i64 fr,.int .i64 ev,.int .i64 ct,.int .i64 un,.slice D dn dc,.slice M mn mc,.slice Y yn yc] 39)).alloc (.cells #[.int .i64 0,.int .i64 0,.int .i64 0] 159)).alloc (.cells #[.int .i64 (-1),.int .i64 (-1),.int .i64 (-1)] 159)).frozen? ⟨w.heap.size + 1,2,none⟩ = false:=by rw [World.frozen?_alloc_past _ _ _ (by simp),World.frozen?_alloc_at _ _ _ _ (by simp)]
 have k2 : (((w.alloc (.cells #[.int .i64 fr,.int .i64 ev,.int .i64 ct,.int .i64 un,.slice D dn dc,.slice M mn mc,.slice Y yn yc] 39)).alloc (.cells #[.int .i64 0,.int .i64 0,.int .i64 0] 159)).alloc (.cells #[.int .i64 (-1),.int .i64 (-1),.int .i64 (-1)] 159)).cell? ⟨w.heap.size + 1 + 1,2,none⟩ = some (.int .i64 (-1)):=by rw [World.cell?_alloc_at _ _ _ _ (by simp)]; rfl
 have q2 : (((w.alloc (.cells #[.int .i64 fr,.int .i64 ev,.int .i64 ct,.int .i64 un,.slice D dn dc,.slice M mn mc,.slice Y yn yc] 39)).alloc (.cells #[.int .i64 0,.int .i64 0,.int .i64 0] 159)).alloc (.cells #[.int .i64 (-1),.int .i64 (-1),.int .i64 (-1)] 159)).frozen? ⟨w.heap.size + 1 + 1,2,none⟩ = false:=by rw [World.frozen?_alloc_at _ _ _ _ (by simp)]
 have HBX:=hide (more (more (more (start w) (.cells #[.int .i64 fr,.int .i64 ev,.int .i64 ct,.int .i64 un,.slice D dn dc,.slice M mn mc,.slice Y yn yc] 39)) (.cells #[.int .i64 0,.int .i64 0,.int .i64 0] 159)) (.cells #[.int .i64 (-1),.int .i64 (-1),.int .i64 (-1)] 159))
 have hsz : w.heap.size + 1 + 1 < (((w.alloc (.cells #[.int .i64 fr,.int .i64 ev,.int .i64 ct,.int .i64 un,.slice D dn dc,.slice M mn mc,.slice Y yn yc] 39)).alloc (.cells #[.int .i64 0,.int .i64 0,.int .i64 0] 159)).alloc (.cells #[.int .i64 (-1),.int .i64 (-1),.int .i64 (-1)] 159)).heap.size:=by simp
 go_enter Tryz.func137,Tryz.ntmps137
 go_wp2_with fail
 generalize (((w.alloc (.cells #[.int .i64 fr,.int .i64 ev,.int .i64 ct,.int .i64 un,.slice D dn dc,.slice M mn mc,.slice Y yn yc] 39)).alloc (.cells #[.int .i64 0,.int .i64 0,.int .i64 0] 159)).alloc (.cells #[.int .i64 (-1),.int .i64 (-1),.int .i64 (-1)] 159)) = W at *
 refine (date_is s y m d _ h1 h2 HD.out.1 HD.out.2.1 HD.out.2.2).mono ?_
 rintro e u1 ⟨rfl,hb⟩
 replace HBX:=hide (andthen HBX.out hb)
 replace y0:=(hb.frozen (p:=⟨w.heap.size + 1,0,none⟩) (by show w.heap.size + 1 < _; omega)).trans y0
 replace y1:=(hb.frozen (p:=⟨w.heap.size + 1,1,none⟩) (by show w.heap.size + 1 < _; omega)).trans y1
 replace y2:=(hb.frozen (p:=⟨w.heap.size + 1,2,none⟩) (by show w.heap.size + 1 < _; omega)).trans y2
 replace q0:=(hb.frozen (p:=⟨w.heap.size + 1 + 1,0,none⟩) (by show w.heap.size + 1 + 1 < _; omega)).trans q0
 replace q1:=(hb.frozen (p:=⟨w.heap.size + 1 + 1,1,none⟩) (by show w.heap.size + 1 + 1 < _; omega)).trans q1
 replace q2:=(hb.frozen (p:=⟨w.heap.size + 1 + 1,2,none⟩) (by show w.heap.size + 1 + 1 < _; omega)).trans q2
 replace s0:=cell_keep hb s0
 replace s5:=cell_keep hb s5
 replace s6:=cell_keep hb s6
 replace z0:=cell_keep hb z0
 replace z1:=cell_keep hb z1
 replace z2:=cell_keep hb z2
 replace k0:=cell_keep hb k0
 replace k1:=cell_keep hb k1
 replace k2:=cell_keep hb k2
 replace hsz:=Nat.lt_of_lt_of_le hsz hb.size
 clear hb
 have hs0 : w.heap.size < u1.heap.size:=by omega
 have hs1 : w.heap.size + 1 < u1.heap.size:=by omega
 have d0 : (u1.alloc (.cells #[.int .i64 y,.int .i64 m,.int .i64 d] 110)).cell? ⟨u1.heap.size,0,none⟩ = some (.int .i64 y):=by rw [World.cell?_alloc_at _ _ _ _ rfl]; rfl
 have d1 : (u1.alloc (.cells #[.int .i64 y,.int .i64 m,.int .i64 d] 110)).cell? ⟨u1.heap.size,1,none⟩ = some (.int .i64 m):=by rw [World.cell?_alloc_at _ _ _ _ rfl]; rfl
 have d2 : (u1.alloc (.cells #[.int .i64 y,.int .i64 m,.int .i64 d] 110)).cell? ⟨u1.heap.size,2,none⟩ = some (.int .i64 d):=by rw [World.cell?_alloc_at _ _ _ _ rfl]; rfl
 go_wp2_with fail
 refine ret_gen (Thr w (w.heap.size + 1) _ _ _) (thr_alloc _ (thr_set (Nat.le_succ _) (thr_far (by omega) (by omega) ⟨z0,z1,z2,HBX.out⟩))) ?_
 rintro WF ⟨c0,c1,c2,hb⟩
 exact bodyPost_ret (v:=.agg #[.int .i64 (-1),.int .i64 d,.int .i64 (-1)]) (by simp [results,Tryz.results137,go_sem,c0,c1,c2]) rfl ⟨rfl,hb⟩
theorem asked_z (fr ev ct un : Int) (D M Y : Option Addr) (dn dc mn mc yn yc : Nat) (s : Int) (w : World) (y m d v : Int) (hd : dn <= 0) (hm : mn <= 0) (f2 : (fr == 2) = false) (f3 : (fr == 3) = false) (f4 : (fr == 4) = true) (hy : ((yn : Int) == 0) = true) (_hy2 : (yn == 0) = true) (h1 : 0 <= s) (h2 : s < 36525) (HD : Hid (Cal.yOf s = y /\ Cal.mOf s = m /\ Cal.dOf s = d)) (_HV : Hid (Cal.wday s = v)) :
  Calls Tryz.prog 137 #[.agg #[.int .i64 fr,.int .i64 ev,.int .i64 ct,.int .i64 un,.slice D dn dc,.slice M mn mc,.slice Y yn yc],.int .i64 s] w (Ans w (.agg #[.int .i64 (-1),.int .i64 d,.int .i64 m])):=by
 have s0 : (((w.alloc (.cells #[.int .i64 fr,.int .i64 ev,.int .i64 ct,.int .i64 un,.slice D dn dc,.slice M mn mc,.slice Y yn yc] 39)).alloc (.cells #[.int .i64 0,.int .i64 0,.int .i64 0] 159)).alloc (.cells #[.int .i64 (-1),.int .i64 (-1),.int .i64 (-1)] 159)).cell? ⟨w.heap.size,0,none⟩ = some (.int .i64 fr):=by rw [World.cell?_alloc_past _ _ _ (by simp only [World.size_alloc]; omega),World.cell?_alloc_past _ _ _ (by simp),World.cell?_alloc_at _ _ _ _ rfl]; rfl
 have s5 : (((w.alloc (.cells #[.int .i64 fr,.int .i64 ev,.int .i64 ct,.int .i64 un,.slice D dn dc,.slice M mn mc,.slice Y yn yc] 39)).alloc (.cells #[.int .i64 0,.int .i64 0,.int .i64 0] 159)).alloc (.cells #[.int .i64 (-1),.int .i64 (-1),.int .i64 (-1)] 159)).cell? ⟨w.heap.size,5,none⟩ = some (.slice M mn mc):=by rw [World.cell?_alloc_past _ _ _ (by simp only [World.size_alloc]; omega),World.cell?_alloc_past _ _ _ (by simp),World.cell?_alloc_at _ _ _ _ rfl]; rfl
 have s6 : (((w.alloc (.cells #[.int .i64 fr,.int .i64 ev,.int .i64 ct,.int .i64 un,.slice D dn dc,.slice M mn mc,.slice Y yn yc] 39)).alloc (.cells #[.int .i64 0,.int .i64 0,.int .i64 0] 159)).alloc (.cells #[.int .i64 (-1),.int .i64 (-1),.int .i64 (-1)] 159)).cell? ⟨w.heap.size,6,none⟩ = some (.slice Y yn yc):=by rw [World.cell?_alloc_past _ _ _ (by simp only [World.size_alloc]; omega),World.cell?_alloc_past _ _ _ (by simp),World.cell?_alloc_at _ _ _ _ rfl]; rfl
 have z0 : (((w.alloc (.cells #[.int .i64 fr,.int .i64 ev,.int .i64 ct,.int .i64 un,.slice D dn dc,.slice M mn mc,.slice Y yn yc] 39)).alloc (.cells #[.int .i64 0,.int .i64 0,.int .i64 0] 159)).alloc (.cells #[.int .i64 (-1),.int .i64 (-1),.int .i64 (-1)] 159)).cell? ⟨w.heap.size + 1,0,none⟩ = some (.int .i64 0):=by rw [World.cell?_alloc_past _ _ _ (by simp),World.cell?_alloc_at _ _ _ _ (by simp)]; rfl
 have y0 : (((w.alloc (.cells #[.int .i64 fr,.int .i64 ev,.int .i64 ct,.int .i64 un,.slice D dn dc,.slice M mn mc,.slice Y yn yc] 39)).alloc (.cells #[.int .i64 0,.int .i64 0,.int .i64 0] 159)).alloc (.cells #[.int .i64 (-1),.int .i64 (-1),.int .i64 (-1)] 159)).frozen? ⟨w.heap.size + 1,0,none⟩ = false:=by rw [World.frozen?_alloc_past _ _ _ (by simp),World.frozen?_alloc_at _ _ _ _ (by simp)]
 have k0 : (((w.alloc (.cells #[.int .i64 fr,.int .i64 ev,.int .i64 ct,.int .i64 un,.slice D dn dc,.slice M mn mc,.slice Y yn yc] 39)).alloc (.cells #[.int .i64 0,.int .i64 0,.int .i64 0] 159)).alloc (.cells #[.int .i64 (-1),.int .i64 (-1),.int .i64 (-1)] 159)).cell? ⟨w.heap.size + 1 + 1,0,none⟩ = some (.int .i64 (-1)):=by rw [World.cell?_alloc_at _ _ _ _ (by simp)]; rfl
 have q0 : (((w.alloc (.cells #[.int .i64 fr,.int .i64 ev,.int .i64 ct,.int .i64 un,.slice D dn dc,.slice M mn mc,.slice Y yn yc] 39)).alloc (.cells #[.int .i64 0,.int .i64 0,.int .i64 0] 159)).alloc (.cells #[.int .i64 (-1),.int .i64 (-1),.int .i64 (-1)] 159)).frozen? ⟨w.heap.size + 1 + 1,0,none⟩ = false:=by rw [World.frozen?_alloc_at _ _ _ _ (by simp)]
 have z1 : (((w.alloc (.cells #[.int .i64 fr,.int .i64 ev,.int .i64 ct,.int .i64 un,.slice D dn dc,.slice M mn mc,.slice Y yn yc] 39)).alloc (.cells #[.int .i64 0,.int .i64 0,.int .i64 0] 159)).alloc (.cells #[.int .i64 (-1),.int .i64 (-1),.int .i64 (-1)] 159)).cell? ⟨w.heap.size + 1,1,none⟩ = some (.int .i64 0):=by rw [World.cell?_alloc_past _ _ _ (by simp),World.cell?_alloc_at _ _ _ _ (by simp)]; rfl
 have y1 : (((w.alloc (.cells #[.int .i64 fr,.int .i64 ev,.int .i64 ct,.int .i64 un,.slice D dn dc,.slice M mn mc,.slice Y yn yc] 39)).alloc (.cells #[.int .i64 0,.int .i64 0,.int .i64 0] 159)).alloc (.cells #[.int .i64 (-1),.int .i64 (-1),.int .i64 (-1)] 159)).frozen? ⟨w.heap.size + 1,1,none⟩ = false:=by rw [World.frozen?_alloc_past _ _ _ (by simp),World.frozen?_alloc_at _ _ _ _ (by simp)]
 have k1 : (((w.alloc (.cells #[.int .i64 fr,.int .i64 ev,.int .i64 ct,.int .i64 un,.slice D dn dc,.slice M mn mc,.slice Y yn yc] 39)).alloc (.cells #[.int .i64 0,.int .i64 0,.int .i64 0] 159)).alloc (.cells #[.int .i64 (-1),.int .i64 (-1),.int .i64 (-1)] 159)).cell? ⟨w.heap.size + 1 + 1,1,none⟩ = some (.int .i64 (-1)):=by rw [World.cell?_alloc_at _ _ _ _ (by simp)]; rfl
 have q1 : (((w.alloc (.cells #[.int .i64 fr,.int .i64 ev,.int .i64 ct,.int .i64 un,.slice D dn dc,.slice M mn mc,.slice Y yn yc] 39)).alloc (.cells #[.int .i64 0,.int .i64 0,.int .i64 0] 159)).alloc (.cells #[.int .i64 (-1),.int .i64 (-1),.int .i64 (-1)] 159)).frozen? ⟨w.heap.size + 1 + 1,1,none⟩ = false:=by rw [World.frozen?_alloc_at _ _ _ _ (by simp)]
 have z2 : (((w.alloc (.cells #[.int .i64 fr,.int .i64 ev,.int .i64 ct,.int .i64 un,.slice D dn dc,.slice M mn mc,.slice Y yn yc] 39)).alloc (.cells #[.int .i64 0,.int .i64 0,.int .i64 0] 159)).alloc (.cells #[.int .i64 (-1),.int .i64 (-1),.int .i64 (-1)] 159)).cell? ⟨w.heap.size + 1,2,none⟩ = some (.int .i64 0):=by rw [World.cell?_alloc_past _ _ _ (by simp),World.cell?_alloc_at _ _ _ _ (by simp)]; rfl
 have y2 : (((w.alloc (.cells #[.int .i64 fr,.int .i64 ev,.int .i64 ct,.int .i64 un,.slice D dn dc,.slice M mn mc,.slice Y yn yc] 39)).alloc (.cells #[.int .i64 0,.int .i64 0,.int .i64 0] 159)).alloc (.cells #[.int .i64 (-1),.int .i64 (-1),.int .i64 (-1)] 159)).frozen? ⟨w.heap.size + 1,2,none⟩ = false:=by rw [World.frozen?_alloc_past _ _ _ (by simp),World.frozen?_alloc_at _ _ _ _ (by simp)]
 have k2 : (((w.alloc (.cells #[.int .i64 fr,.int .i64 ev,.int .i64 ct,.int .i64 un,.slice D dn dc,.slice M mn mc,.slice Y yn yc] 39)).alloc (.cells #[.int .i64 0,.int .i64 0,.int .i64 0] 159)).alloc (.cells #[.int .i64 (-1),.int .i64 (-1),.int .i64 (-1)] 159)).cell? ⟨w.heap.size + 1 + 1,2,none⟩ = some (.int .i64 (-1)):=by rw [World.cell?_alloc_at _ _ _ _ (by simp)]; rfl
 have q2 : (((w.alloc (.cells #[.int .i64 fr,.int .i64 ev,.int .i64 ct,.int .i64 un,.slice D dn dc,.slice M mn mc,.slice Y yn yc] 39)).alloc (.cells #[.int .i64 0,.int .i64 0,.int .i64 0] 159)).alloc (.cells #[.int .i64 (-1),.int .i64 (-1),.int .i64 (-1)] 159)).frozen? ⟨w.heap.size + 1 + 1,2,none⟩ = false:=by rw [World.frozen?_alloc_at _ _ _ _ (by simp)]
 have HBX:=hide (more (more (more (start w) (.cells #[.int .i64 fr,.int .i64 ev,.int .i64 ct,.int .i64 un,.slice D dn dc,.slice M mn mc,.slice Y yn yc] 39)) (.cells #[.int .i64 0,.int .i64 0,.int .i64 0] 159)) (.cells #[.int .i64 (-1),.int .i64 (-1),.int .i64 (-1)] 159))
 have hsz : w.heap.size + 1 + 1 < (((w.alloc (.cells #[.int .i64 fr,.int .i64 ev,.int .i64 ct,.int .i64 un,.slice D dn dc,.slice M mn mc,.slice Y yn yc] 39)).alloc (.cells #[.int .i64 0,.int .i64 0,.int .i64 0] 159)).alloc (.cells #[.int .i64 (-1),.int .i64 (-1),.int .i64 (-1)] 159)).heap.size:=by simp
 go_enter Tryz.func137,Tryz.ntmps137
 go_wp2_with fail
 generalize (((w.alloc (.cells #[.int .i64 fr,.int .i64 ev,.int .i64 ct,.int .i64 un,.slice D dn dc,.slice M mn mc,.slice Y yn yc] 39)).alloc (.cells #[.int .i64 0,.int .i64 0,.int .i64 0] 159)).alloc (.cells #[.int .i64 (-1),.int .i64 (-1),.int .i64 (-1)] 159)) = W at *
 refine (date_is s y m d _ h1 h2 HD.out.1 HD.out.2.1 HD.out.2.2).mono ?_
 rintro e u1 ⟨rfl,hb⟩
 replace HBX:=hide (andthen HBX.out hb)
 replace y0:=(hb.frozen (p:=⟨w.heap.size + 1,0,none⟩) (by show w.heap.size + 1 < _; omega)).trans y0
 replace y1:=(hb.frozen (p:=⟨w.heap.size + 1,1,none⟩) (by show w.heap.size + 1 < _; omega)).trans y1
 replace y2:=(hb.frozen (p:=⟨w.heap.size + 1,2,none⟩) (by show w.heap.size + 1 < _; omega)).trans y2
 replace q0:=(hb.frozen (p:=⟨w.heap.size + 1 + 1,0,none⟩) (by show w.heap.size + 1 + 1 < _; omega)).trans q0
 replace q1:=(hb.frozen (p:=⟨w.heap.size + 1 + 1,1,none⟩) (by show w.heap.size + 1 + 1 < _; omega)).trans q1
 replace q2:=(hb.frozen (p:=⟨w.heap.size + 1 + 1,2,none⟩) (by show w.heap.size + 1 + 1 < _; omega)).trans q2
 replace s0:=cell_keep hb s0
 replace s5:=cell_keep hb s5
 replace s6:=cell_keep hb s6
 replace z0:=cell_keep hb z0
 replace z1:=cell_keep hb z1
 replace z2:=cell_keep hb z2
 replace k0:=cell_keep hb k0
 replace k1:=cell_keep hb k1
 replace k2:=cell_keep hb k2
 replace hsz:=Nat.lt_of_lt_of_le hsz hb.size
 clear hb
 have hs0 : w.heap.size < u1.heap.size:=by omega
 have hs1 : w.heap.size + 1 < u1.heap.size:=by omega
 have d0 : (u1.alloc (.cells #[.int .i64 y,.int .i64 m,.int .i64 d] 110)).cell? ⟨u1.heap.size,0,none⟩ = some (.int .i64 y):=by rw [World.cell?_alloc_at _ _ _ _ rfl]; rfl
 have d1 : (u1.alloc (.cells #[.int .i64 y,.int .i64 m,.int .i64 d] 110)).cell? ⟨u1.heap.size,1,none⟩ = some (.int .i64 m):=by rw [World.cell?_alloc_at _ _ _ _ rfl]; rfl
 have d2 : (u1.alloc (.cells #[.int .i64 y,.int .i64 m,.int .i64 d] 110)).cell? ⟨u1.heap.size,2,none⟩ = some (.int .i64 d):=by rw [World.cell?_alloc_at _ _ _ _ rfl]; rfl
 go_wp2_with fail
 refine ret_gen (Thr w (w.heap.size + 1) _ _ _) (thr_alloc _ (thr_set (Nat.le_succ _) (thr_far (by omega) (by omega) (thr_far (by omega) (by omega) ⟨z0,z1,z2,HBX.out⟩)))) ?_
 rintro WF ⟨c0,c1,c2,hb⟩
 exact bodyPost_ret (v:=.agg #[.int .i64 (-1),.int .i64 d,.int .i64 m]) (by simp [results,Tryz.results137,go_sem,c0,c1,c2]) rfl ⟨rfl,hb⟩
theorem asked_l (fr ev ct un : Int) (D M Y : Option Addr) (dn dc mn mc yn yc : Nat) (s : Int) (w : World) (hd : dn <= 0) (hm : 0 < mn) (f2 : (fr == 2) = false) :
  Calls Tryz.prog 137 #[.agg #[.int .i64 fr,.int .i64 ev,.int .i64 ct,.int .i64 un,.slice D dn dc,.slice M mn mc,.slice Y yn yc],.int .i64 s] w (Ans w (.agg #[.int .i64 (-1),.int .i64 (-1),.int .i64 (-1)])):=by
 go_enter Tryz.func137,Tryz.ntmps137
 go_wp2_with fail
 exact bodyPost_ret (v:=.agg #[.int .i64 (-1),.int .i64 (-1),.int .i64 (-1)]) (by simp [results,Tryz.results137,go_sem]) rfl ⟨rfl,more (more (more (start _) _) _) _⟩
theorem beq_no (a b : Int) (h : a ≠ b) : (a == b) = false:=by rw [beq_eq_false_iff_ne]; exact h
theorem asked_any (fr ev ct un : Int) (D M Y : Option Addr) (dn dc mn mc yn yc : Nat) (ds : List Wd) (ms ys : List Int) (s : Int) (w : World) (h : Lies w D dn M mn Y yn ds ms ys) (h1 : 0 <= s) (h2 : s < 36525) (hr : recB ⟨fr,ev,ct,un,ds,ms,ys⟩ = true) :
  Calls Tryz.prog 137 #[.agg #[.int .i64 fr,.int .i64 ev,.int .i64 ct,.int .i64 un,.slice D dn dc,.slice M mn mc,.slice Y yn yc],.int .i64 s] w (Ans w (.agg #[.int .i64 (wkA ⟨fr,ev,ct,un,ds,ms,ys⟩ s),.int .i64 (dyA ⟨fr,ev,ct,un,ds,ms,ys⟩ s),.int .i64 (moA ⟨fr,ev,ct,un,ds,ms,ys⟩ s)])):=by
 have fb:=recB_fr ⟨fr,ev,ct,un,ds,ms,ys⟩ hr
 have hsuit : suitB ⟨fr,ev,ct,un,ds,ms,ys⟩ = true:=by unfold recB at hr; simp only [Bool.and_eq_true] at hr; exact hr.2.2
 have e1:=h.dn
 have e2:=h.mn
 have e3:=h.yn
 unfold wkA dyA moA
 simp only at fb ⊢
 by_cases c1 : 0 < ds.length
 ·rw [if_pos c1,if_pos c1,if_pos c1]; exact asked_1 fr ev ct un D M Y dn dc mn mc yn yc s w (by omega)
 rw [if_neg c1,if_neg c1,if_neg c1]
 by_cases c2 : fr = 2
 ·have c3 : ms.length = 0:=by unfold suitB at hsuit; simp [c2] at hsuit; simp [hsuit.2]
  rw [if_pos c2,if_neg (by omega),if_neg (by omega),if_neg (by omega),if_neg (by omega)]
  exact asked_w fr ev ct un D M Y dn dc mn mc yn yc s w _ _ _ _ (by omega) (by omega) (by rw [c2]; rfl) (by rw [c2]; rfl) (by rw [c2]; rfl) h1 h2 (hide ⟨rfl,rfl,rfl⟩) (hide rfl)
 rw [if_neg c2]
 by_cases c3 : 0 < ms.length
 ·rw [if_pos c3,if_pos c3]; exact asked_l fr ev ct un D M Y dn dc mn mc yn yc s w (by omega) (by omega) (beq_no _ _ c2)
 rw [if_neg c3,if_neg c3]
 rcases fr_cases fr fb.1 fb.2 with e | e | e | e
 ·rw [if_neg (by omega),if_neg (by omega)]
  exact asked_d fr ev ct un D M Y dn dc mn mc yn yc s w _ _ _ _ (by omega) (by omega) (by rw [e]; rfl) (by rw [e]; rfl) (by rw [e]; rfl) h1 h2 (hide ⟨rfl,rfl,rfl⟩) (hide rfl)
 ·exact absurd e c2
 ·rw [if_pos (by omega),if_neg (by omega)]
  exact asked_m fr ev ct un D M Y dn dc mn mc yn yc s w _ _ _ _ (by omega) (by omega) (by rw [e]; rfl) (by rw [e]; rfl) (by rw [e]; rfl) h1 h2 (hide ⟨rfl,rfl,rfl⟩) (hide rfl)
 ·rw [if_pos (by omega)]
  by_cases c4 : ys.length = 0
  ·rw [if_pos ⟨e,c4⟩]
   exact asked_z fr ev ct un D M Y dn dc mn mc yn yc s w _ _ _ _ (by omega) (by omega) (by rw [e]; rfl) (by rw [e]; rfl) (by rw [e]; rfl) (by rw [beq_iff_eq]; omega) (by rw [beq_iff_eq]; omega) h1 h2 (hide ⟨rfl,rfl,rfl⟩) (hide rfl)
  ·rw [if_neg (by omega)]
   exact asked_y fr ev ct un D M Y dn dc mn mc yn yc s w _ _ _ _ (by omega) (by omega) (by rw [e]; rfl) (by rw [e]; rfl) (by rw [e]; rfl) (by rw [beq_eq_false_iff_ne]; omega) (by rw [beq_eq_false_iff_ne]; omega) h1 h2 (hide ⟨rfl,rfl,rfl⟩) (hide rfl)
end Go.Proofs.YtgihekokbgggcaaGreat

/- Walks of package event: two events compared: same, Same. -/
import Derived.Test.YtgdjeddelcfgeaaGreatDoorXW10
namespace Go.Proofs.YtgdjeddelcfgeaaGreatDoor
open Go.RowKit Rul Rt Go.Sort

theorem cell_two (w : World) (vs us : Array Value) (t t2 : TypeId) (i : Nat) (v : Value) (h : vs[i]? = some v) : ((w.alloc (.cells vs t)).alloc (.cells us t2)).cell? ⟨w.heap.size,i,none⟩ = some v:=by
 rw [World.cell?_alloc_past _ _ _ (by simp)]; exact cell_new w vs t i v h
theorem cell_two2 (w : World) (vs us : Array Value) (t t2 : TypeId) (i : Nat) (v : Value) (h : us[i]? = some v) : ((w.alloc (.cells vs t)).alloc (.cells us t2)).cell? ⟨w.heap.size + 1,i,none⟩ = some v:=by
 have:=cell_new (w.alloc (.cells vs t)) us t2 i v h
 rw [World.size_alloc] at this
 exact this
theorem eqI_at (A B : Option Addr) (n m c d : Nat) (l k : List Int) (b : Bool) (w : World) (hl : RowI w A l) (hk : RowI w B k) (hn : n = l.length) (hm : m = k.length) (hsz : l.length ≤ 1000) (hsk : k.length ≤ 1000) (h : decide (l = k) = b) :
  Calls Tryz.prog 56 #[.slice A n c,.slice B m d] w (Ans w (.bool b)):=by
 subst h; exact eqI_any A B n m c d l k w hl hk hn hm (by omega) (by omega)
def tsB (e f : Ev.E) : Bool:=(e.st == f.st) && ((e.lg == f.lg) && (sameB e.r f.r && decide (e.ex = f.ex)))
set_option maxRecDepth 100000 in
set_option maxHeartbeats 4000000 in
theorem tsame_any (e f : Ev.E) (m n : Mem) (w : World) (h : EvL w e m) (k : EvL w f n) :
  Calls Tryz.prog 55 #[.agg #[.int .i64 e.st,.int .i64 e.lg,.int .i64 e.r.fr,.int .i64 e.r.ev,.int .i64 e.r.ct,.int .i64 e.r.un,.slice m.D e.r.ds.length m.dc,.slice m.M e.r.ms.length m.mc,.slice m.Y e.r.ys.length m.yc,.slice m.X e.ex.length m.xc],.agg #[.int .i64 f.st,.int .i64 f.lg,.int .i64 f.r.fr,.int .i64 f.r.ev,.int .i64 f.r.ct,.int .i64 f.r.un,.slice n.D f.r.ds.length n.dc,.slice n.M f.r.ms.length n.mc,.slice n.Y f.r.ys.length n.yc,.slice n.X f.ex.length n.xc]] w (Ans w (.bool (tsB e f))):=by
 have h1 : tsB e f = ((e.st == f.st) && ((e.lg == f.lg) && (sameB e.r f.r && decide (e.ex = f.ex)))):=rfl
 rw [h1]
 clear h1
 have hr:=h.r
 have hx:=h.x
 have hxl:=h.xl
 have kr:=k.r
 have kx:=k.x
 have kxl:=k.xl
 clear h k
 obtain ⟨_,_,s,l,_,⟨fr,ev,ct,un,ds,ms,ys⟩,x⟩:=e
 obtain ⟨_,_,D,dc,M,mc,Y,yc,X,xc⟩:=m
 obtain ⟨_,_,s2,l2,_,⟨fr2,ev2,ct2,un2,ds2,ms2,ys2⟩,x2⟩:=f
 obtain ⟨_,_,D2,dc2,M2,mc2,Y2,yc2,X2,xc2⟩:=n
 simp only at hr hx hxl kr kx kxl ⊢
 have HBX:=hide (more (more (start w) (.cells #[.int .i64 s,.int .i64 l,.int .i64 fr,.int .i64 ev,.int .i64 ct,.int .i64 un,.slice D ds.length dc,.slice M ms.length mc,.slice Y ys.length yc,.slice X x.length xc] 51)) (.cells #[.int .i64 s2,.int .i64 l2,.int .i64 fr2,.int .i64 ev2,.int .i64 ct2,.int .i64 un2,.slice D2 ds2.length dc2,.slice M2 ms2.length mc2,.slice Y2 ys2.length yc2,.slice X2 x2.length xc2] 51))
 have HR:=hide (hr.keep HBX.out)
 have HX:=hide (hx.keep HBX.out)
 have KR:=hide (kr.keep HBX.out)
 have KX:=hide (kx.keep HBX.out)
 clear hr hx kr kx
 have hAC : ∀ i v,(#[.int .i64 s,.int .i64 l,.int .i64 fr,.int .i64 ev,.int .i64 ct,.int .i64 un,.slice D ds.length dc,.slice M ms.length mc,.slice Y ys.length yc,.slice X x.length xc] : Array Value)[i]? = some v → ((w.alloc (.cells #[.int .i64 s,.int .i64 l,.int .i64 fr,.int .i64 ev,.int .i64 ct,.int .i64 un,.slice D ds.length dc,.slice M ms.length mc,.slice Y ys.length yc,.slice X x.length xc] 51)).alloc (.cells #[.int .i64 s2,.int .i64 l2,.int .i64 fr2,.int .i64 ev2,.int .i64 ct2,.int .i64 un2,.slice D2 ds2.length dc2,.slice M2 ms2.length mc2,.slice Y2 ys2.length yc2,.slice X2 x2.length xc2] 51)).cell? ⟨w.heap.size,i,none⟩ = some v:=fun i v h => cell_two w _ _ _ _ i v h
 have a0:=hAC 0 _ rfl
 have a1:=hAC 1 _ rfl
 have a2:=hAC 2 _ rfl
 have a3:=hAC 3 _ rfl
 have a4:=hAC 4 _ rfl
 have a5:=hAC 5 _ rfl
 have a6:=hAC 6 _ rfl
 have a7:=hAC 7 _ rfl
 have a8:=hAC 8 _ rfl
 have a9:=hAC 9 _ rfl
 clear hAC
 have hAC : ∀ i v,(#[.int .i64 s2,.int .i64 l2,.int .i64 fr2,.int .i64 ev2,.int .i64 ct2,.int .i64 un2,.slice D2 ds2.length dc2,.slice M2 ms2.length mc2,.slice Y2 ys2.length yc2,.slice X2 x2.length xc2] : Array Value)[i]? = some v → ((w.alloc (.cells #[.int .i64 s,.int .i64 l,.int .i64 fr,.int .i64 ev,.int .i64 ct,.int .i64 un,.slice D ds.length dc,.slice M ms.length mc,.slice Y ys.length yc,.slice X x.length xc] 51)).alloc (.cells #[.int .i64 s2,.int .i64 l2,.int .i64 fr2,.int .i64 ev2,.int .i64 ct2,.int .i64 un2,.slice D2 ds2.length dc2,.slice M2 ms2.length mc2,.slice Y2 ys2.length yc2,.slice X2 x2.length xc2] 51)).cell? ⟨w.heap.size + 1,i,none⟩ = some v:=fun i v h => cell_two2 w _ _ _ _ i v h
 have b0:=hAC 0 _ rfl
 have b1:=hAC 1 _ rfl
 have b2:=hAC 2 _ rfl
 have b3:=hAC 3 _ rfl
 have b4:=hAC 4 _ rfl
 have b5:=hAC 5 _ rfl
 have b6:=hAC 6 _ rfl
 have b7:=hAC 7 _ rfl
 have b8:=hAC 8 _ rfl
 have b9:=hAC 9 _ rfl
 clear hAC
 cases h1 : (s == s2)
 ·simp only [Bool.false_and]
  go_enter Tryz.func55,Tryz.ntmps55
  go_wp2_with fail
  go_ret
  exact ⟨rfl,HBX.out⟩
 cases h2 : (l == l2)
 ·simp only [Bool.true_and,Bool.false_and]
  go_enter Tryz.func55,Tryz.ntmps55
  go_wp2_with fail
  go_ret
  exact ⟨rfl,HBX.out⟩
 cases h3 : sameB ⟨fr,ev,ct,un,ds,ms,ys⟩ ⟨fr2,ev2,ct2,un2,ds2,ms2,ys2⟩
 ·simp only [Bool.true_and,Bool.false_and]
  have H3:=hide h3
  clear h3
  go_enter Tryz.func55,Tryz.ntmps55
  go_wp2_with fail
  refine (ans_is (same_any fr ev ct un D M Y _ dc _ mc _ yc fr2 ev2 ct2 un2 D2 M2 Y2 _ dc2 _ mc2 _ yc2 ds ms ys ds2 ms2 ys2 _ HR.out KR.out) H3.out).mono ?_
  rintro e w1 ⟨rfl,hb⟩
  replace HBX:=hide (andthen HBX.out hb)
  clear hb
  clear a0 b0 a1 b1 a2 b2 a3 b3 a4 b4 a5 b5 a6 b6 a7 b7 a8 b8 a9 b9
  go_wp2_with fail
  go_ret
  exact ⟨rfl,HBX.out⟩
 ·simp only [Bool.true_and]
  have H3:=hide h3
  have H4:=hide (fun w h k => eqI_at X X2 x.length x2.length xc xc2 x x2 _ w h k rfl rfl hxl kxl rfl)
  generalize decide (x = x2) = B at *
  clear h3
  go_enter Tryz.func55,Tryz.ntmps55
  go_wp2_with fail
  refine (ans_is (same_any fr ev ct un D M Y _ dc _ mc _ yc fr2 ev2 ct2 un2 D2 M2 Y2 _ dc2 _ mc2 _ yc2 ds ms ys ds2 ms2 ys2 _ HR.out KR.out) H3.out).mono ?_
  rintro e w1 ⟨rfl,hb⟩
  replace HBX:=hide (andthen HBX.out hb)
  replace HX:=hide (HX.out.keep hb)
  replace KX:=hide (KX.out.keep hb)
  replace a9:=cell_keep hb a9
  replace b9:=cell_keep hb b9
  clear hb
  clear a0 b0 a1 b1 a2 b2 a3 b3 a4 b4 a5 b5 a6 b6 a7 b7 a8 b8
  go_wp2_with fail
  refine (H4.out _ HX.out KX.out).mono ?_
  rintro e w2 ⟨rfl,hb⟩
  replace HBX:=hide (andthen HBX.out hb)
  clear hb
  go_wp2_with fail
  go_ret
  exact ⟨rfl,HBX.out⟩

theorem sameE_is (e f : Ev.E) : Ev.sameE e f = ((e.uid == f.uid) && (e.text == f.text) && (tsB e f && decide (e.rooms = f.rooms))):=by
 unfold Ev.sameE tsB
 rw [tx_eq,tx_eq]
 have h1 : (e.st == f.st) = decide (e.st = f.st):=rfl
 have h2 : (e.lg == f.lg) = decide (e.lg = f.lg):=rfl
 rw [h1,h2]
 simp only [Bool.and_assoc]
set_option maxRecDepth 100000 in
set_option maxHeartbeats 4000000 in
theorem psameE_any (e f : Ev.E) (m n : Mem) (w : World) (h : EvL w e m) (k : EvL w f n) :
  Calls Tryz.prog 30 #[paV e m,paV f n] w (Ans w (.bool (Ev.sameE e f))):=by
 have hol:=h.ol
 have kol:=k.ol
 have key : ∀ (z1 z2 z3 : Bool),(e.uid == f.uid) = z1 → (e.text == f.text) = z2 → tsB e f = z3 → Calls Tryz.prog 30 #[paV e m,paV f n] w (Ans w (.bool ((z1 && z2) && (z3 && decide (e.rooms = f.rooms))))):=by
  intro z1 z2 z3 h1 h2 h3
  have C1:=hide (fun w h k => ans_is (tsame_any e f m n w h k) h3)
  have C2:=hide (fun w h k => eqI_at m.O n.O e.rooms.length f.rooms.length m.oc n.oc e.rooms f.rooms _ w h k rfl rfl hol kol rfl)
  have HBX:=hide (more (more (start w) (.cells #[.string (str e.uid),.string (str e.text),.int .i64 e.st,.int .i64 e.lg,.int .i64 e.r.fr,.int .i64 e.r.ev,.int .i64 e.r.ct,.int .i64 e.r.un,.slice m.D e.r.ds.length m.dc,.slice m.M e.r.ms.length m.mc,.slice m.Y e.r.ys.length m.yc,.slice m.X e.ex.length m.xc,.slice m.O e.rooms.length m.oc] 55)) (.cells #[.string (str f.uid),.string (str f.text),.int .i64 f.st,.int .i64 f.lg,.int .i64 f.r.fr,.int .i64 f.r.ev,.int .i64 f.r.ct,.int .i64 f.r.un,.slice n.D f.r.ds.length n.dc,.slice n.M f.r.ms.length n.mc,.slice n.Y f.r.ys.length n.yc,.slice n.X f.ex.length n.xc,.slice n.O f.rooms.length n.oc] 55))
  have HL:=hide (h.keep HBX.out)
  have KL:=hide (k.keep HBX.out)
  have HO:=hide (h.o.keep HBX.out)
  have KO:=hide (k.o.keep HBX.out)
  clear h k h3
  generalize decide (e.rooms = f.rooms) = RB at *
  obtain ⟨u,t,s,l,o,⟨fr,ev,ct,un,ds,ms,ys⟩,x⟩:=e
  obtain ⟨O,oc,D,dc,M,mc,Y,yc,X,xc⟩:=m
  obtain ⟨u2,t2,s2,l2,o2,⟨fr2,ev2,ct2,un2,ds2,ms2,ys2⟩,x2⟩:=f
  obtain ⟨O2,oc2,D2,dc2,M2,mc2,Y2,yc2,X2,xc2⟩:=n
  simp only [paV] at HBX HL KL HO KO C1 C2 h1 h2 ⊢
  have hAC : ∀ i v,(#[.string (str u),.string (str t),.int .i64 s,.int .i64 l,.int .i64 fr,.int .i64 ev,.int .i64 ct,.int .i64 un,.slice D ds.length dc,.slice M ms.length mc,.slice Y ys.length yc,.slice X x.length xc,.slice O o.length oc] : Array Value)[i]? = some v → ((w.alloc (.cells #[.string (str u),.string (str t),.int .i64 s,.int .i64 l,.int .i64 fr,.int .i64 ev,.int .i64 ct,.int .i64 un,.slice D ds.length dc,.slice M ms.length mc,.slice Y ys.length yc,.slice X x.length xc,.slice O o.length oc] 55)).alloc (.cells #[.string (str u2),.string (str t2),.int .i64 s2,.int .i64 l2,.int .i64 fr2,.int .i64 ev2,.int .i64 ct2,.int .i64 un2,.slice D2 ds2.length dc2,.slice M2 ms2.length mc2,.slice Y2 ys2.length yc2,.slice X2 x2.length xc2,.slice O2 o2.length oc2] 55)).cell? ⟨w.heap.size,i,none⟩ = some v:=fun i v h => cell_two w _ _ _ _ i v h
  have a0:=hAC 0 _ rfl
  have a1:=hAC 1 _ rfl
  have a2:=hAC 2 _ rfl
  have a3:=hAC 3 _ rfl
  have a4:=hAC 4 _ rfl
  have a5:=hAC 5 _ rfl
  have a6:=hAC 6 _ rfl
  have a7:=hAC 7 _ rfl
  have a8:=hAC 8 _ rfl
  have a9:=hAC 9 _ rfl
  have a10:=hAC 10 _ rfl
  have a11:=hAC 11 _ rfl
  have a12:=hAC 12 _ rfl
  clear hAC
  have hAC : ∀ i v,(#[.string (str u2),.string (str t2),.int .i64 s2,.int .i64 l2,.int .i64 fr2,.int .i64 ev2,.int .i64 ct2,.int .i64 un2,.slice D2 ds2.length dc2,.slice M2 ms2.length mc2,.slice Y2 ys2.length yc2,.slice X2 x2.length xc2,.slice O2 o2.length oc2] : Array Value)[i]? = some v → ((w.alloc (.cells #[.string (str u),.string (str t),.int .i64 s,.int .i64 l,.int .i64 fr,.int .i64 ev,.int .i64 ct,.int .i64 un,.slice D ds.length dc,.slice M ms.length mc,.slice Y ys.length yc,.slice X x.length xc,.slice O o.length oc] 55)).alloc (.cells #[.string (str u2),.string (str t2),.int .i64 s2,.int .i64 l2,.int .i64 fr2,.int .i64 ev2,.int .i64 ct2,.int .i64 un2,.slice D2 ds2.length dc2,.slice M2 ms2.length mc2,.slice Y2 ys2.length yc2,.slice X2 x2.length xc2,.slice O2 o2.length oc2] 55)).cell? ⟨w.heap.size + 1,i,none⟩ = some v:=fun i v h => cell_two2 w _ _ _ _ i v h
  have b0:=hAC 0 _ rfl
  have b1:=hAC 1 _ rfl
  have b2:=hAC 2 _ rfl
  have b3:=hAC 3 _ rfl
  have b4:=hAC 4 _ rfl
  have b5:=hAC 5 _ rfl
  have b6:=hAC 6 _ rfl
  have b7:=hAC 7 _ rfl
  have b8:=hAC 8 _ rfl
  have b9:=hAC 9 _ rfl
  have b10:=hAC 10 _ rfl
  have b11:=hAC 11 _ rfl
  have b12:=hAC 12 _ rfl
  clear hAC
  have q1:=str_tl u
  have q2:=str_tl t
  have q3:=str_tl u2
  have q4:=str_tl t2
  cases z1
  ·simp only [Bool.false_and]
   go_enter Tryz.func30,Tryz.ntmps30
   go_wp2_with fail
   go_ret
   exact ⟨rfl,HBX.out⟩
  cases z2
  ·simp only [Bool.true_and,Bool.false_and]
   go_enter Tryz.func30,Tryz.ntmps30
   go_wp2_with fail
   go_ret
   exact ⟨rfl,HBX.out⟩
  cases z3
  ·simp only [Bool.true_and,Bool.false_and]
   go_enter Tryz.func30,Tryz.ntmps30
   go_wp2_with fail
   refine (C1.out _ HL.out KL.out).mono ?_
   rintro e w1 ⟨rfl,hb⟩
   replace HBX:=hide (andthen HBX.out hb)
   clear hb a0 b0 a1 b1 a2 b2 a3 b3 a4 b4 a5 b5 a6 b6 a7 b7 a8 b8 a9 b9 a10 b10 a11 b11 a12 b12
   go_wp2_with fail
   go_ret
   exact ⟨rfl,HBX.out⟩
  ·simp only [Bool.true_and]
   go_enter Tryz.func30,Tryz.ntmps30
   go_wp2_with fail
   refine (C1.out _ HL.out KL.out).mono ?_
   rintro e w1 ⟨rfl,hb⟩
   replace HBX:=hide (andthen HBX.out hb)
   replace HO:=hide (HO.out.keep hb)
   replace KO:=hide (KO.out.keep hb)
   replace a12:=cell_keep hb a12
   replace b12:=cell_keep hb b12
   clear hb a0 b0 a1 b1 a2 b2 a3 b3 a4 b4 a5 b5 a6 b6 a7 b7 a8 b8 a9 b9 a10 b10 a11 b11
   go_wp2_with fail
   refine (C2.out _ HO.out KO.out).mono ?_
   rintro e w2 ⟨rfl,hb⟩
   replace HBX:=hide (andthen HBX.out hb)
   clear hb
   go_wp2_with fail
   go_ret
   exact ⟨rfl,HBX.out⟩
 rw [sameE_is]
 exact key _ _ _ rfl rfl rfl
set_option maxRecDepth 100000 in
set_option maxHeartbeats 4000000 in
theorem eSame_any (e f : Ev.E) (m n : Mem) (w : World) (h : EvL w e m) (k : EvL w f n) :
  Calls Tryz.prog 13 #[evV e m,evV f n] w (Ans w (.bool (Ev.sameE e f))):=by
 have HBX:=hide (more (more (start w) (.cells #[.string (str e.uid),.string (str e.text),.int .i64 e.st,.int .i64 e.lg,.slice m.O e.rooms.length m.oc,.int .i64 e.r.fr,.int .i64 e.r.ev,.int .i64 e.r.ct,.int .i64 e.r.un,.slice m.D e.r.ds.length m.dc,.slice m.M e.r.ms.length m.mc,.slice m.Y e.r.ys.length m.yc,.slice m.X e.ex.length m.xc] 27)) (.cells #[.string (str f.uid),.string (str f.text),.int .i64 f.st,.int .i64 f.lg,.slice n.O f.rooms.length n.oc,.int .i64 f.r.fr,.int .i64 f.r.ev,.int .i64 f.r.ct,.int .i64 f.r.un,.slice n.D f.r.ds.length n.dc,.slice n.M f.r.ms.length n.mc,.slice n.Y f.r.ys.length n.yc,.slice n.X f.ex.length n.xc] 27))
 have HL:=hide (h.keep HBX.out)
 have KL:=hide (k.keep HBX.out)
 have C:=hide (fun w h k => psameE_any e f m n w h k)
 clear h k
 generalize Ev.sameE e f = RB at *
 obtain ⟨u,t,s,l,o,⟨fr,ev,ct,un,ds,ms,ys⟩,x⟩:=e
 obtain ⟨O,oc,D,dc,M,mc,Y,yc,X,xc⟩:=m
 obtain ⟨u2,t2,s2,l2,o2,⟨fr2,ev2,ct2,un2,ds2,ms2,ys2⟩,x2⟩:=f
 obtain ⟨O2,oc2,D2,dc2,M2,mc2,Y2,yc2,X2,xc2⟩:=n
 simp only [evV,paV] at HBX HL KL C ⊢
 generalize str u = U at *
 generalize str t = T at *
 generalize str u2 = U2 at *
 generalize str t2 = T2 at *
 have hAC : ∀ i v,(#[.string U,.string T,.int .i64 s,.int .i64 l,.slice O o.length oc,.int .i64 fr,.int .i64 ev,.int .i64 ct,.int .i64 un,.slice D ds.length dc,.slice M ms.length mc,.slice Y ys.length yc,.slice X x.length xc] : Array Value)[i]? = some v → ((w.alloc (.cells #[.string U,.string T,.int .i64 s,.int .i64 l,.slice O o.length oc,.int .i64 fr,.int .i64 ev,.int .i64 ct,.int .i64 un,.slice D ds.length dc,.slice M ms.length mc,.slice Y ys.length yc,.slice X x.length xc] 27)).alloc (.cells #[.string U2,.string T2,.int .i64 s2,.int .i64 l2,.slice O2 o2.length oc2,.int .i64 fr2,.int .i64 ev2,.int .i64 ct2,.int .i64 un2,.slice D2 ds2.length dc2,.slice M2 ms2.length mc2,.slice Y2 ys2.length yc2,.slice X2 x2.length xc2] 27)).cell? ⟨w.heap.size,i,none⟩ = some v:=fun i v h => cell_two w _ _ _ _ i v h
 have a0:=hAC 0 _ rfl
 have a1:=hAC 1 _ rfl
 have a2:=hAC 2 _ rfl
 have a3:=hAC 3 _ rfl
 have a4:=hAC 4 _ rfl
 have a5:=hAC 5 _ rfl
 have a6:=hAC 6 _ rfl
 have a7:=hAC 7 _ rfl
 have a8:=hAC 8 _ rfl
 have a9:=hAC 9 _ rfl
 have a10:=hAC 10 _ rfl
 have a11:=hAC 11 _ rfl
 have a12:=hAC 12 _ rfl
 clear hAC
 have hAC : ∀ i v,(#[.string U2,.string T2,.int .i64 s2,.int .i64 l2,.slice O2 o2.length oc2,.int .i64 fr2,.int .i64 ev2,.int .i64 ct2,.int .i64 un2,.slice D2 ds2.length dc2,.slice M2 ms2.length mc2,.slice Y2 ys2.length yc2,.slice X2 x2.length xc2] : Array Value)[i]? = some v → ((w.alloc (.cells #[.string U,.string T,.int .i64 s,.int .i64 l,.slice O o.length oc,.int .i64 fr,.int .i64 ev,.int .i64 ct,.int .i64 un,.slice D ds.length dc,.slice M ms.length mc,.slice Y ys.length yc,.slice X x.length xc] 27)).alloc (.cells #[.string U2,.string T2,.int .i64 s2,.int .i64 l2,.slice O2 o2.length oc2,.int .i64 fr2,.int .i64 ev2,.int .i64 ct2,.int .i64 un2,.slice D2 ds2.length dc2,.slice M2 ms2.length mc2,.slice Y2 ys2.length yc2,.slice X2 x2.length xc2] 27)).cell? ⟨w.heap.size + 1,i,none⟩ = some v:=fun i v h => cell_two2 w _ _ _ _ i v h
 have b0:=hAC 0 _ rfl
 have b1:=hAC 1 _ rfl
 have b2:=hAC 2 _ rfl
 have b3:=hAC 3 _ rfl
 have b4:=hAC 4 _ rfl
 have b5:=hAC 5 _ rfl
 have b6:=hAC 6 _ rfl
 have b7:=hAC 7 _ rfl
 have b8:=hAC 8 _ rfl
 have b9:=hAC 9 _ rfl
 have b10:=hAC 10 _ rfl
 have b11:=hAC 11 _ rfl
 have b12:=hAC 12 _ rfl
 clear hAC
 go_enter Tryz.func13,Tryz.ntmps13
 go_wp2_with fail
 generalize ((w.alloc (.cells #[.string U,.string T,.int .i64 s,.int .i64 l,.slice O o.length oc,.int .i64 fr,.int .i64 ev,.int .i64 ct,.int .i64 un,.slice D ds.length dc,.slice M ms.length mc,.slice Y ys.length yc,.slice X x.length xc] 27)).alloc (.cells #[.string U2,.string T2,.int .i64 s2,.int .i64 l2,.slice O2 o2.length oc2,.int .i64 fr2,.int .i64 ev2,.int .i64 ct2,.int .i64 un2,.slice D2 ds2.length dc2,.slice M2 ms2.length mc2,.slice Y2 ys2.length yc2,.slice X2 x2.length xc2] 27)) = W at *
 have fa0:=fun d os => cell_regrown a0 d os
 have fb0:=fun d os => cell_regrown b0 d os
 have fa1:=fun d os => cell_regrown a1 d os
 have fb1:=fun d os => cell_regrown b1 d os
 have fa2:=fun d os => cell_regrown a2 d os
 have fb2:=fun d os => cell_regrown b2 d os
 have fa3:=fun d os => cell_regrown a3 d os
 have fb3:=fun d os => cell_regrown b3 d os
 have fa4:=fun d os => cell_regrown a4 d os
 have fb4:=fun d os => cell_regrown b4 d os
 have fa5:=fun d os => cell_regrown a5 d os
 have fb5:=fun d os => cell_regrown b5 d os
 have fa6:=fun d os => cell_regrown a6 d os
 have fb6:=fun d os => cell_regrown b6 d os
 have fa7:=fun d os => cell_regrown a7 d os
 have fb7:=fun d os => cell_regrown b7 d os
 have fa8:=fun d os => cell_regrown a8 d os
 have fb8:=fun d os => cell_regrown b8 d os
 have fa9:=fun d os => cell_regrown a9 d os
 have fb9:=fun d os => cell_regrown b9 d os
 have fa10:=fun d os => cell_regrown a10 d os
 have fb10:=fun d os => cell_regrown b10 d os
 have fa11:=fun d os => cell_regrown a11 d os
 have fb11:=fun d os => cell_regrown b11 d os
 have fa12:=fun d os => cell_regrown a12 d os
 have fb12:=fun d os => cell_regrown b12 d os
 have L1:=hide (fun d os => EvL.keep HL.out (below_regrown W d os))
 have L2:=hide (fun d os => EvL.keep KL.out (below_regrown W d os))
 clear HL KL a0 b0 a1 b1 a2 b2 a3 b3 a4 b4 a5 b5 a6 b6 a7 b7 a8 b8 a9 b9 a10 b10 a11 b11 a12 b12
 refine wp_region_quiet_below (by kernel_rfl) (by kernel_rfl) ?_
 repeat (first | go_big_quiet_step ((first | (go_at_call 24; exact Calls.regrown_of (partsOf_flat _ _ _ _ _ _ _ _ _ _ _ _ _ _ _ _ _ _ _ _ _ _ _ _ )) | (go_at_call 30; exact Calls.regrown_of (C.out _ (L1.out _ _) (L2.out _ _))))) | quiet_step ((first | (go_at_call 24; exact Calls.regrown_of (partsOf_flat _ _ _ _ _ _ _ _ _ _ _ _ _ _ _ _ _ _ _ _ _ _ _ _ )) | (go_at_call 30; exact Calls.regrown_of (C.out _ (L1.out _ _) (L2.out _ _))))))
 refine wpQuiet_nil ?_
 intro _ hw'
 obtain ⟨⟨nq,osq⟩,hw''⟩:=hw'
 subst hw''
 replace HBX:=hide (andthen HBX.out (below_regrown W nq osq))
 go_wp2_with fail
 go_ret
 exact ⟨rfl,HBX.out⟩

end Go.Proofs.YtgdjeddelcfgeaaGreatDoor

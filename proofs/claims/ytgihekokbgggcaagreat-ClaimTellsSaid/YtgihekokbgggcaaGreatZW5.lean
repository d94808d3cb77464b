/- BW5; BW6 of the recipes, what is needed of them. -/
import Derived.Laws.AppendOwn
import Derived.OwnWalk
import Derived.LoopTactic
import Derived.Laws.OwnMore
import Derived.Maps.AppendAt
import Derived.Test.YtgihekokbgggcaaGreatZW4
import Derived.Test.YtgihekokbgggcaaGreatZBM1
set_option maxHeartbeats 8000000
set_option maxRecDepth 1000000
namespace Go.Proofs.YtgihekokbgggcaaGreat
open Go.RowKit Rul Go.Sort
theorem ret_gen {P : Program} {f : Func} {Q : Ending -> World -> Prop} {a : Act} {W : World} (E : World -> Prop) (he : E W) (k : ∀ WF,E WF -> bodyPost P f Q .ret a WF) : bodyPost P f Q .ret a W:=k W he
abbrev Six (w : World) (p : Nat) (x0 x1 x2 x3 x4 x5 : Value) (W : World) : Prop :=
 W.cell? ⟨p,0,none⟩ = some x0 /\ W.cell? ⟨p,1,none⟩ = some x1 /\ W.cell? ⟨p,2,none⟩ = some x2 /\ W.cell? ⟨p,3,none⟩ = some x3 /\ W.cell? ⟨p,4,none⟩ = some x4 /\ W.cell? ⟨p,5,none⟩ = some x5 /\ Below w.heap.size w W
theorem six_set {w W : World} {x0 x1 x2 x3 x4 x5 y0 y1 y2 y3 y4 y5 : Value} (h : Six w w.heap.size x0 x1 x2 x3 x4 x5 W) :
  Six w w.heap.size y0 y1 y2 y3 y4 y5 ((((((W.setCell ⟨w.heap.size,0,none⟩ y0).setCell ⟨w.heap.size,1,none⟩ y1).setCell ⟨w.heap.size,2,none⟩ y2).setCell ⟨w.heap.size,3,none⟩ y3).setCell ⟨w.heap.size,4,none⟩ y4).setCell ⟨w.heap.size,5,none⟩ y5):=by
 obtain ⟨c0,c1,c2,c3,c4,c5,hb⟩:=h
 have st : ∀ {W : World} {i : Nat} {x y : Value},W.cell? ⟨w.heap.size,i,none⟩ = some x -> (W.setCell ⟨w.heap.size,i,none⟩ y).cell? ⟨w.heap.size,i,none⟩ = some y:=fun h => World.cell?_setCell_same _ _ _ h
 have ot : ∀ {W : World} {i j : Nat} {x y : Value},i ≠ j -> W.cell? ⟨w.heap.size,i,none⟩ = some x -> (W.setCell ⟨w.heap.size,j,none⟩ y).cell? ⟨w.heap.size,i,none⟩ = some x:=fun hn h =>
  (World.cell?_setCell_other _ _ _ _ (by intro hc; injection hc with _ hc1; omega)).trans h
 have be : ∀ {W : World} {j : Nat} {y : Value},Below w.heap.size w W -> Below w.heap.size w (W.setCell ⟨w.heap.size,j,none⟩ y):=fun h => h.setCell (Nat.le_refl _) _
 refine ⟨?_,?_,?_,?_,?_,?_,be (be (be (be (be (be hb)))))⟩
 ·exact ot (by omega) (ot (by omega) (ot (by omega) (ot (by omega) (ot (by omega) (st c0)))))
 ·exact ot (by omega) (ot (by omega) (ot (by omega) (ot (by omega) (st (ot (by omega) c1)))))
 ·exact ot (by omega) (ot (by omega) (ot (by omega) (st (ot (by omega) (ot (by omega) c2)))))
 ·exact ot (by omega) (ot (by omega) (st (ot (by omega) (ot (by omega) (ot (by omega) c3)))))
 ·exact ot (by omega) (st (ot (by omega) (ot (by omega) (ot (by omega) (ot (by omega) c4)))))
 ·exact st (ot (by omega) (ot (by omega) (ot (by omega) (ot (by omega) (ot (by omega) c5)))))
theorem Six.keep {w W W1 : World} {p : Nat} {x0 x1 x2 x3 x4 x5 : Value} (h : Six w p x0 x1 x2 x3 x4 x5 W) (hb : Below W.heap.size W W1) : Six w p x0 x1 x2 x3 x4 x5 W1 :=
 ⟨cell_keep hb h.1,cell_keep hb h.2.1,cell_keep hb h.2.2.1,cell_keep hb h.2.2.2.1,cell_keep hb h.2.2.2.2.1,cell_keep hb h.2.2.2.2.2.1,andthen h.2.2.2.2.2.2 hb⟩
theorem six_new (w : World) (x0 x1 x2 x3 x4 x5 : Value) (t : TypeId) : Six w w.heap.size x0 x1 x2 x3 x4 x5 (w.alloc (.cells #[x0,x1,x2,x3,x4,x5] t)):=by
 refine ⟨?_,?_,?_,?_,?_,?_,more (start _) _⟩
 all_goals (rw [World.cell?_alloc_at _ _ _ _ rfl]; rfl)
theorem placeOf_no (n : Int) (w : World) (h : n < 0 ∨ 36525 <= n) :
  Calls Tryz.prog 182 #[.int .i64 n] w (Ans w (.tuple #[.agg #[.int .i64 0,.int .i64 0,.int .i64 0,.int .i64 0,.int .i64 0,.int .i64 0],.bool false])):=by
 have H:=hide h
 clear h
 go_enter Tryz.func182,Tryz.ntmps182
 go_wp2_with fail
 refine (Date_no n _ H.out).mono ?_
 rintro e w1 ⟨rfl,hb1⟩
 obtain ⟨hc,hf⟩:=old hb1
 have hz : w.heap.size < w1.heap.size:=by have:=hb1.size; simp only [World.size_alloc] at this; omega
 go_wp2_with fail
 refine ret_gen (Six w w.heap.size (.int .i64 0) (.int .i64 0) (.int .i64 0) (.int .i64 0) (.int .i64 0) (.int .i64 0)) (Six.keep (six_set (Six.keep (six_new _ _ _ _ _ _ _ _) hb1)) (more (start _) _)) ?_
 rintro WF ⟨c0,c1,c2,c3,c4,c5,hb⟩
 exact bodyPost_ret (v:=.tuple #[.agg #[.int .i64 0,.int .i64 0,.int .i64 0,.int .i64 0,.int .i64 0,.int .i64 0],.bool false]) (by simp [results,Tryz.results182,go_sem,c0,c1,c2,c3,c4,c5]) rfl ⟨rfl,hb⟩
theorem date_is (n y m d : Int) (w : World) (h1 : 0 <= n) (h2 : n < 36525) (hy : Cal.yOf n = y) (hm : Cal.mOf n = m) (hd : Cal.dOf n = d) :
  Calls Tryz.prog 134 #[.int .i64 n] w (Ans w (.tuple #[.agg #[.int .i64 y,.int .i64 m,.int .i64 d],.int .i64 0])):=by
 subst hy hm hd; exact Date_yes n w h1 h2
theorem length_is (y m v : Int) (w : World) (h : Cal.dim y m = v) :
  Calls Tryz.prog 133 #[.int .i64 y,.int .i64 m] w fun e w' => e = .returned (.int .i64 v) /\ w = w':=by subst h; exact length_any y m w
theorem weekday_is (n v : Int) (w : World) (h1 : 0 <= n) (h2 : n < 36525) (h : Cal.wday n = v) :
  Calls Tryz.prog 165 #[.int .i64 n] w (Ans w (.int .i64 v)):=by subst h; exact weekday_any n w (by unfold I64; omega)
abbrev Fresh (p q : Nat) (m : Int) (W : World) : Prop:=W.cell? ⟨q,1,none⟩ = some (.int .i64 m) /\ W.cell? ⟨p,0,none⟩ = some (.int .i64 0) /\ W.cell? ⟨p,1,none⟩ = some (.int .i64 0) /\ W.cell? ⟨p,2,none⟩ = some (.int .i64 0) /\ W.cell? ⟨p,3,none⟩ = some (.int .i64 0) /\ W.cell? ⟨p,4,none⟩ = some (.int .i64 0) /\ W.cell? ⟨p,5,none⟩ = some (.int .i64 0) /\ W.frozen? ⟨p,0,none⟩ = false /\ W.frozen? ⟨p,1,none⟩ = false /\ W.frozen? ⟨p,2,none⟩ = false /\ W.frozen? ⟨p,3,none⟩ = false /\ W.frozen? ⟨p,4,none⟩ = false /\ W.frozen? ⟨p,5,none⟩ = false
theorem Fresh.keep {p q : Nat} {m : Int} {W W1 : World} (hb : Below W.heap.size W W1) (h : Fresh p q m W) : Fresh p q m W1:=by
 obtain ⟨c,z0,z1,z2,z3,z4,z5,f0,f1,f2,f3,f4,f5⟩:=h
 have hp:=block_lt_of_cell z0
 exact ⟨cell_keep hb c,cell_keep hb z0,cell_keep hb z1,cell_keep hb z2,cell_keep hb z3,cell_keep hb z4,cell_keep hb z5,(hb.frozen (p:=⟨p,0,none⟩) hp).trans f0,(hb.frozen (p:=⟨p,1,none⟩) hp).trans f1,(hb.frozen (p:=⟨p,2,none⟩) hp).trans f2,(hb.frozen (p:=⟨p,3,none⟩) hp).trans f3,(hb.frozen (p:=⟨p,4,none⟩) hp).trans f4,(hb.frozen (p:=⟨p,5,none⟩) hp).trans f5⟩
theorem far6 {w : World} {p q : Nat} {u x0 x1 x2 x3 x4 x5 : Value} (h : p < q) (c : w.cell? ⟨q,1,none⟩ = some u) :
  ((((((w.setCell ⟨p,0,none⟩ x0).setCell ⟨p,1,none⟩ x1).setCell ⟨p,2,none⟩ x2).setCell ⟨p,3,none⟩ x3).setCell ⟨p,4,none⟩ x4).setCell ⟨p,5,none⟩ x5).cell? ⟨q,1,none⟩ = some u:=by
 repeat rw [World.cell?_setCell_other _ _ _ _ (by intro hc; injection hc with hc1; omega)]
 exact c
theorem placeOf_walk (n y m d k v : Int) (w : World) (h1 : 0 <= n) (h2 : n < 36525) (hy : Cal.yOf n = y) (hm : Cal.mOf n = m) (hd : Cal.dOf n = d) (hk : Cal.dim y m = k) (hv : Cal.wday n = v)
  (d1 : 1 <= d) (d2 : d <= 31) (k1 : d <= k) (k2 : k <= 31) :
  Calls Tryz.prog 182 #[.int .i64 n] w (Ans w (.tuple #[.agg #[.int .i64 m,.int .i64 d,.int .i64 (-(k - d + 1)),.int .i64 v,.int .i64 ((d - 1) / 7 + 1),.int .i64 (-((k - d) / 7 + 1))],.bool true])):=by
 have HD:=hide (And.intro hy (And.intro hm hd))
 have HK:=hide hk
 have HV:=hide hv
 clear hy hm hd hk hv
 go_enter Tryz.func182,Tryz.ntmps182
 go_wp2_with fail
 refine (date_is n y m d _ h1 h2 HD.out.1 HD.out.2.1 HD.out.2.2).mono ?_
 rintro e w1 ⟨rfl,hb1⟩
 have hz : w.heap.size < w1.heap.size:=by have:=hb1.size; simp only [World.size_alloc] at this; omega
 have hB : Below w.heap.size w w1:=andthen (more (start w) _) hb1
 have hF : Fresh w.heap.size w1.heap.size m (w1.alloc (.cells #[.int .i64 y,.int .i64 m,.int .i64 d] 110)):=by
  have g : ∀ i : Nat,i < 6 -> w1.cell? ⟨w.heap.size,i,none⟩ = some (.int .i64 0):=fun i hi => by
   rw [(old hb1).1 _ _ (by simp),World.cell?_alloc_at _ _ _ _ rfl]
   rcases i with _ | _ | _ | _ | _ | _ | i
   all_goals first | rfl | omega
  have f : ∀ i : Nat,(w1.alloc (.cells #[.int .i64 y,.int .i64 m,.int .i64 d] 110)).frozen? ⟨w.heap.size,i,none⟩ = false:=fun i => by
   rw [(more (start w1) _).frozen (p:=⟨w.heap.size,i,none⟩) hz,(old hb1).2 _ _ (by simp),World.frozen?_alloc_at _ _ _ _ rfl]
  have c : ∀ i : Nat,i < 6 -> (w1.alloc (.cells #[.int .i64 y,.int .i64 m,.int .i64 d] 110)).cell? ⟨w.heap.size,i,none⟩ = some (.int .i64 0):=fun i hi => cell_keep (more (start _) _) (g i hi)
  exact ⟨by rw [World.cell?_alloc_at _ _ _ _ rfl]; rfl,c 0 (by omega),c 1 (by omega),c 2 (by omega),c 3 (by omega),c 4 (by omega),c 5 (by omega),f 0,f 1,f 2,f 3,f 4,f 5⟩
 have HF:=hide hF
 have HB:=hide hB
 clear hF hB
 go_wp2_with fail
 go_quiet ((go_at_call 133; exact quiet_left (length_is _ _ _ _ HK.out)))
 go_wp2_with fail
 have hF2 : Fresh w.heap.size w1.heap.size m ((w1.alloc (.cells #[.int .i64 y,.int .i64 m,.int .i64 d] 110)).drewN nq):=Fresh.keep (below_drawn (start _) nq) HF.out
 have hB2 : Below w.heap.size w ((w1.alloc (.cells #[.int .i64 y,.int .i64 m,.int .i64 d] 110)).drewN nq):=below_drawn (more HB.out _) nq
 clear hb1 HB HF
 generalize (w1.alloc (.cells #[.int .i64 y,.int .i64 m,.int .i64 d] 110)).drewN nq = V at *
 go_region_held3 (fun w' => w'.cell? ⟨w1.heap.size,1,none⟩ = some (.int .i64 m)) (first | with_reducible exact far6 hz (by assumption) | with_reducible exact cell_keep (start _).drew hF2.1 | with_reducible exact cell_keep (by assumption) (by assumption) | with_reducible exact cell_keep (start _).drew (by assumption)) ((go_at_call 165; (with_reducible refine (weekday_is n v _ h1 h2 HV.out).mono ?_); rintro e w2 ⟨rfl,hb2⟩; obtain ⟨q0,q1,q2,q3,q4,q5,q6,q7,q8,q9,q10,q11,q12⟩:=Fresh.keep (andthen (start _).drew hb2) hF2))
 go_wp2_with fail
 have hB3 : Below w.heap.size w w2:=andthen hB2 (andthen (start _).drew hb2)
 clear hF2 hB2 hb2
 refine ret_gen (Six w w.heap.size _ _ _ _ _ _) (six_set ⟨q1,q2,q3,q4,q5,q6,hB3⟩) ?_
 rintro WF ⟨c0,c1,c2,c3,c4,c5,hb⟩
 have w1 : IntKind.i64.wrap d = d:=wrap_i64 _ (by unfold I64; omega)
 have w2 : IntKind.i64.wrap (k - d + 1) = k - d + 1:=wrap_i64 _ (by unfold I64; omega)
 have w3 : IntKind.i64.wrap (-(k - d + 1)) = -(k - d + 1):=wrap_i64 _ (by unfold I64; omega)
 have t1 : (d - 1).tdiv 7 = (d - 1) / 7:=Int.tdiv_eq_ediv_of_nonneg (by omega)
 have t2 : (k - d).tdiv 7 = (k - d) / 7:=Int.tdiv_eq_ediv_of_nonneg (by omega)
 have w4 : IntKind.i64.wrap ((d - 1) / 7) = (d - 1) / 7:=wrap_i64 _ (by unfold I64; omega)
 have w5 : IntKind.i64.wrap ((d - 1) / 7 + 1) = (d - 1) / 7 + 1:=wrap_i64 _ (by unfold I64; omega)
 have w6 : IntKind.i64.wrap ((k - d) / 7) = (k - d) / 7:=wrap_i64 _ (by unfold I64; omega)
 have w7 : IntKind.i64.wrap ((k - d) / 7 + 1) = (k - d) / 7 + 1:=wrap_i64 _ (by unfold I64; omega)
 have w8 : IntKind.i64.wrap (-((k - d) / 7 + 1)) = -((k - d) / 7 + 1):=wrap_i64 _ (by unfold I64; omega)
 rw [w1] at c1
 rw [w2,w3] at c2
 rw [t1,w4,w5] at c4
 rw [t2,w6,w7,w8] at c5
 exact bodyPost_ret (v:=.tuple #[.agg #[.int .i64 m,.int .i64 d,.int .i64 (-(k - d + 1)),.int .i64 v,.int .i64 ((d - 1) / 7 + 1),.int .i64 (-((k - d) / 7 + 1))],.bool true]) (by simp [results,Tryz.results182,go_sem,c0,c1,c2,c3,c4,c5]) rfl ⟨rfl,hb⟩
theorem placeOf_yes (n : Int) (w : World) (h1 : 0 <= n) (h2 : n < 36525) :
  Calls Tryz.prog 182 #[.int .i64 n] w (Ans w (.tuple #[pv (placeOf n),.bool true])):=by
 have hd:=(Cal.isB_iff _ _ _).1 (Cal.of_is n h1 h2)
 have hd2:=Cal.dOf_bd n h1 h2
 have hk:=(Cal.dim_bd (Cal.yOf n) (Cal.mOf n)).2
 exact placeOf_walk n _ _ _ _ _ w h1 h2 rfl rfl rfl rfl rfl hd2.1 hd2.2 hd.2 hk
def admB (p : P) (ds : List Wd) (ms ys : List Int) : Bool:=emptyOr (moFit p) ys && (emptyOr (mdFit p) ms && emptyOr (wdFit p) ds)
theorem admit_any (p : P) (D M Y : Option Addr) (dn dc mn mc yn yc : Nat) (ds : List Wd) (ms ys : List Int) (w : World) (h : Lies w D dn M mn Y yn ds ms ys) :
  Calls Tryz.prog 183 #[.agg #[.slice D dn dc,.slice M mn mc,.slice Y yn yc],pv p] w (Ans w (.bool (admB p ds ms ys))):=by
 have hmf : ∀ (fn : Fn) (first cap : Array Value) (w : World),(Instr.makeFunc fn first cap).run Tryz.prog w = .ok (.func fn first cap) w:=fun _ _ _ _ => rfl
 have HBX:=hide (more (more (start w) (.cells #[.slice D dn dc,.slice M mn mc,.slice Y yn yc] 128)) (.cells #[.int .i64 p.mo,.int .i64 p.dy,.int .i64 p.de,.int .i64 p.wd,.int .i64 p.po,.int .i64 p.pe] 194))
 have s0 : ((w.alloc (.cells #[.slice D dn dc,.slice M mn mc,.slice Y yn yc] 128)).alloc (.cells #[.int .i64 p.mo,.int .i64 p.dy,.int .i64 p.de,.int .i64 p.wd,.int .i64 p.po,.int .i64 p.pe] 194)).cell? ⟨w.heap.size,0,none⟩ = some (.slice D dn dc):=by rw [World.cell?_alloc_past _ _ _ (by simp),World.cell?_alloc_at _ _ _ _ rfl]; rfl
 have s1 : ((w.alloc (.cells #[.slice D dn dc,.slice M mn mc,.slice Y yn yc] 128)).alloc (.cells #[.int .i64 p.mo,.int .i64 p.dy,.int .i64 p.de,.int .i64 p.wd,.int .i64 p.po,.int .i64 p.pe] 194)).cell? ⟨w.heap.size,1,none⟩ = some (.slice M mn mc):=by rw [World.cell?_alloc_past _ _ _ (by simp),World.cell?_alloc_at _ _ _ _ rfl]; rfl
 have s2 : ((w.alloc (.cells #[.slice D dn dc,.slice M mn mc,.slice Y yn yc] 128)).alloc (.cells #[.int .i64 p.mo,.int .i64 p.dy,.int .i64 p.de,.int .i64 p.wd,.int .i64 p.po,.int .i64 p.pe] 194)).cell? ⟨w.heap.size,2,none⟩ = some (.slice Y yn yc):=by rw [World.cell?_alloc_past _ _ _ (by simp),World.cell?_alloc_at _ _ _ _ rfl]; rfl
 have t0 : ((w.alloc (.cells #[.slice D dn dc,.slice M mn mc,.slice Y yn yc] 128)).alloc (.cells #[.int .i64 p.mo,.int .i64 p.dy,.int .i64 p.de,.int .i64 p.wd,.int .i64 p.po,.int .i64 p.pe] 194)).cell? ⟨w.heap.size + 1,0,none⟩ = some (.int .i64 p.mo):=by rw [World.cell?_alloc_at _ _ _ _ (by simp)]; rfl
 have t1 : ((w.alloc (.cells #[.slice D dn dc,.slice M mn mc,.slice Y yn yc] 128)).alloc (.cells #[.int .i64 p.mo,.int .i64 p.dy,.int .i64 p.de,.int .i64 p.wd,.int .i64 p.po,.int .i64 p.pe] 194)).cell? ⟨w.heap.size + 1,1,none⟩ = some (.int .i64 p.dy):=by rw [World.cell?_alloc_at _ _ _ _ (by simp)]; rfl
 have t2 : ((w.alloc (.cells #[.slice D dn dc,.slice M mn mc,.slice Y yn yc] 128)).alloc (.cells #[.int .i64 p.mo,.int .i64 p.dy,.int .i64 p.de,.int .i64 p.wd,.int .i64 p.po,.int .i64 p.pe] 194)).cell? ⟨w.heap.size + 1,2,none⟩ = some (.int .i64 p.de):=by rw [World.cell?_alloc_at _ _ _ _ (by simp)]; rfl
 have t3 : ((w.alloc (.cells #[.slice D dn dc,.slice M mn mc,.slice Y yn yc] 128)).alloc (.cells #[.int .i64 p.mo,.int .i64 p.dy,.int .i64 p.de,.int .i64 p.wd,.int .i64 p.po,.int .i64 p.pe] 194)).cell? ⟨w.heap.size + 1,3,none⟩ = some (.int .i64 p.wd):=by rw [World.cell?_alloc_at _ _ _ _ (by simp)]; rfl
 have t4 : ((w.alloc (.cells #[.slice D dn dc,.slice M mn mc,.slice Y yn yc] 128)).alloc (.cells #[.int .i64 p.mo,.int .i64 p.dy,.int .i64 p.de,.int .i64 p.wd,.int .i64 p.po,.int .i64 p.pe] 194)).cell? ⟨w.heap.size + 1,4,none⟩ = some (.int .i64 p.po):=by rw [World.cell?_alloc_at _ _ _ _ (by simp)]; rfl
 have t5 : ((w.alloc (.cells #[.slice D dn dc,.slice M mn mc,.slice Y yn yc] 128)).alloc (.cells #[.int .i64 p.mo,.int .i64 p.dy,.int .i64 p.de,.int .i64 p.wd,.int .i64 p.po,.int .i64 p.pe] 194)).cell? ⟨w.heap.size + 1,5,none⟩ = some (.int .i64 p.pe):=by rw [World.cell?_alloc_at _ _ _ _ (by simp)]; rfl
 have HL:=hide (h.keep HBX.out)
 clear h
 cases h1 : emptyOr (moFit p) ys
 ·have e:=hide (show admB p ds ms ys = false by unfold admB; simp only [h1]; rfl)
  have H1:=hide h1
  clear h1
  go_enter Tryz.func183,Tryz.ntmps183
  go_wp2_with fail
  refine (ans_is (empMo_any p Y yn yc ys _ HL.out.y HL.out.yn HL.out.yl) H1.out).mono ?_
  rintro e w1 ⟨rfl,hb1⟩
  replace HBX:=hide (andthen HBX.out hb1)
  clear hb1 s0 s1 s2 t0 t1 t2 t3 t4 t5
  go_wp2_with fail
  go_ret
  exact ⟨ret_bool (by rw [e.out]),HBX.out⟩
 ·cases h2 : emptyOr (mdFit p) ms
  ·have e:=hide (show admB p ds ms ys = false by unfold admB; simp only [h1,h2]; rfl)
   have H1:=hide h1
   have H2:=hide h2
   clear h1 h2
   go_enter Tryz.func183,Tryz.ntmps183
   go_wp2_with fail
   refine (ans_is (empMo_any p Y yn yc ys _ HL.out.y HL.out.yn HL.out.yl) H1.out).mono ?_
   rintro e w1 ⟨rfl,hb1⟩
   replace HBX:=hide (andthen HBX.out hb1)
   replace HL:=hide (HL.out.keep hb1)
   replace s0:=cell_keep hb1 s0
   replace s1:=cell_keep hb1 s1
   replace s2:=cell_keep hb1 s2
   replace t0:=cell_keep hb1 t0
   replace t1:=cell_keep hb1 t1
   replace t2:=cell_keep hb1 t2
   replace t3:=cell_keep hb1 t3
   replace t4:=cell_keep hb1 t4
   replace t5:=cell_keep hb1 t5
   clear hb1
   go_wp2_with fail
   refine (ans_is (empMd_any p M mn mc ms _ HL.out.m HL.out.mn HL.out.ml) H2.out).mono ?_
   rintro e w1 ⟨rfl,hb1⟩
   replace HBX:=hide (andthen HBX.out hb1)
   clear hb1 s0 s1 s2 t0 t1 t2 t3 t4 t5
   go_wp2_with fail
   go_ret
   exact ⟨ret_bool (by rw [e.out]),HBX.out⟩
  ·have e:=hide (show admB p ds ms ys = emptyOr (wdFit p) ds by unfold admB; simp only [h1,h2]; rfl)
   have H1:=hide h1
   have H2:=hide h2
   clear h1 h2
   go_enter Tryz.func183,Tryz.ntmps183
   go_wp2_with fail
   refine (ans_is (empMo_any p Y yn yc ys _ HL.out.y HL.out.yn HL.out.yl) H1.out).mono ?_
   rintro e w1 ⟨rfl,hb1⟩
   replace HBX:=hide (andthen HBX.out hb1)
   replace HL:=hide (HL.out.keep hb1)
   replace s0:=cell_keep hb1 s0
   replace s1:=cell_keep hb1 s1
   replace s2:=cell_keep hb1 s2
   replace t0:=cell_keep hb1 t0
   replace t1:=cell_keep hb1 t1
   replace t2:=cell_keep hb1 t2
   replace t3:=cell_keep hb1 t3
   replace t4:=cell_keep hb1 t4
   replace t5:=cell_keep hb1 t5
   clear hb1
   go_wp2_with fail
   refine (ans_is (empMd_any p M mn mc ms _ HL.out.m HL.out.mn HL.out.ml) H2.out).mono ?_
   rintro e w1 ⟨rfl,hb1⟩
   replace HBX:=hide (andthen HBX.out hb1)
   replace HL:=hide (HL.out.keep hb1)
   replace s0:=cell_keep hb1 s0
   replace s1:=cell_keep hb1 s1
   replace s2:=cell_keep hb1 s2
   replace t0:=cell_keep hb1 t0
   replace t1:=cell_keep hb1 t1
   replace t2:=cell_keep hb1 t2
   replace t3:=cell_keep hb1 t3
   replace t4:=cell_keep hb1 t4
   replace t5:=cell_keep hb1 t5
   clear hb1
   go_wp2_with fail
   refine (empWd_any p D dn dc ds _ HL.out.d HL.out.dn HL.out.dl).mono ?_
   rintro e w1 ⟨rfl,hb1⟩
   replace HBX:=hide (andthen HBX.out hb1)
   clear hb1 s0 s1 s2 t0 t1 t2 t3 t4 t5
   go_wp2_with fail
   go_ret
   exact ⟨ret_bool (by rw [e.out]),HBX.out⟩
theorem placeOf_is (n : Int) (p : P) (w : World) (h1 : 0 <= n) (h2 : n < 36525) (h : placeOf n = p) :
  Calls Tryz.prog 182 #[.int .i64 n] w (Ans w (.tuple #[pv p,.bool true])):=by subst h; exact placeOf_yes n w h1 h2
theorem dayB_no (n : Int) (h : dayB n = false) : n < 0 ∨ 36525 <= n:=by unfold dayB at h; rw [decide_eq_false_iff_not] at h; omega
theorem dayB_yes (n : Int) (h : dayB n = true) : 0 <= n /\ n < 36525:=by unfold dayB at h; rwa [decide_eq_true_eq] at h
theorem fits_any (fr ev ct un : Int) (D M Y : Option Addr) (dn dc mn mc yn yc : Nat) (ds : List Wd) (ms ys : List Int) (day : Int) (w : World) (h : Lies w D dn M mn Y yn ds ms ys) :
  Calls Tryz.prog 169 #[.agg #[.int .i64 fr,.int .i64 ev,.int .i64 ct,.int .i64 un,.slice D dn dc,.slice M mn mc,.slice Y yn yc],.int .i64 day] w (Ans w (.bool (fitsB ⟨fr,ev,ct,un,ds,ms,ys⟩ day))):=by
 have HBX:=hide (more (start w) (.cells #[.int .i64 fr,.int .i64 ev,.int .i64 ct,.int .i64 un,.slice D dn dc,.slice M mn mc,.slice Y yn yc] 39))
 have HL:=hide (h.keep HBX.out)
 clear h
 cases h1 : dayB day
 ·have e:=hide (show fitsB ⟨fr,ev,ct,un,ds,ms,ys⟩ day = false by unfold fitsB; rw [h1]; rfl)
  have H1:=hide (dayB_no day h1)
  clear h1 HL
  go_enter Tryz.func169,Tryz.ntmps169
  go_wp2_with fail
  refine (partsOf_any fr ev ct un D M Y dn dc mn mc yn yc _).mono ?_
  rintro e w1 ⟨rfl,hb1⟩
  replace HBX:=hide (andthen HBX.out hb1)
  clear hb1
  go_wp2_with fail
  replace HBX:=hide (more HBX.out (.cells #[.int .i64 fr,.int .i64 ev,.int .i64 ct,.int .i64 un,.slice D dn dc,.slice M mn mc,.slice Y yn yc] 130))
  generalize w1.alloc (.cells #[.int .i64 fr,.int .i64 ev,.int .i64 ct,.int .i64 un,.slice D dn dc,.slice M mn mc,.slice Y yn yc] 130) = W at *
  generalize w1.heap.size = X at *
  refine (placeOf_no day _ H1.out).mono ?_
  rintro e w2 ⟨rfl,hb2⟩
  replace HBX:=hide (more (andthen HBX.out hb2) (.cells #[.int .i64 0,.int .i64 0,.int .i64 0,.int .i64 0,.int .i64 0,.int .i64 0] 194))
  clear hb2
  go_wp2_with fail
  go_ret
  exact ⟨ret_bool (by rw [e.out]),HBX.out⟩
 ·obtain ⟨p,hp⟩ : ∃ p,placeOf day = p:=⟨_,rfl⟩
  have HP:=hide hp
  have hd:=dayB_yes day h1
  clear hp
  cases h2 : recB ⟨fr,ev,ct,un,ds,ms,ys⟩
  ·have e:=hide (show fitsB ⟨fr,ev,ct,un,ds,ms,ys⟩ day = false by unfold fitsB; rw [h1,HP.out,h2]; rfl)
   have H2:=hide h2
   clear h1 h2
   go_enter Tryz.func169,Tryz.ntmps169
   go_wp2_with fail
   refine (partsOf_any fr ev ct un D M Y dn dc mn mc yn yc _).mono ?_
   rintro e w1 ⟨rfl,hb1⟩
   replace HBX:=hide (andthen HBX.out hb1)
   replace HL:=hide (HL.out.keep hb1)
   clear hb1
   go_wp2_with fail
   replace HBX:=hide (more HBX.out (.cells #[.int .i64 fr,.int .i64 ev,.int .i64 ct,.int .i64 un,.slice D dn dc,.slice M mn mc,.slice Y yn yc] 130))
   have hAC : ∀ i v,(#[.int .i64 fr,.int .i64 ev,.int .i64 ct,.int .i64 un,.slice D dn dc,.slice M mn mc,.slice Y yn yc] : Array Value)[i]? = some v -> (w1.alloc (.cells #[.int .i64 fr,.int .i64 ev,.int .i64 ct,.int .i64 un,.slice D dn dc,.slice M mn mc,.slice Y yn yc] 130)).cell? ⟨w1.heap.size,i,none⟩ = some v:=fun i v h => by rw [World.cell?_alloc_at _ _ _ _ rfl]; exact h
   have s0:=hAC 0 _ rfl
   have s1:=hAC 1 _ rfl
   have s2:=hAC 2 _ rfl
   have s3:=hAC 3 _ rfl
   have s4:=hAC 4 _ rfl
   have s5:=hAC 5 _ rfl
   have s6:=hAC 6 _ rfl
   clear hAC
   replace HL:=hide (HL.out.keep (more (start w1) (.cells #[.int .i64 fr,.int .i64 ev,.int .i64 ct,.int .i64 un,.slice D dn dc,.slice M mn mc,.slice Y yn yc] 130)))
   generalize w1.alloc (.cells #[.int .i64 fr,.int .i64 ev,.int .i64 ct,.int .i64 un,.slice D dn dc,.slice M mn mc,.slice Y yn yc] 130) = W at *
   generalize w1.heap.size = X at *
   refine (placeOf_is day p _ hd.1 hd.2 HP.out).mono ?_
   rintro e w2 ⟨rfl,hb2⟩
   have hb3:=more hb2 (.cells #[.int .i64 p.mo,.int .i64 p.dy,.int .i64 p.de,.int .i64 p.wd,.int .i64 p.po,.int .i64 p.pe] 194)
   replace HBX:=hide (andthen HBX.out hb3)
   replace HL:=hide (HL.out.keep hb3)
   replace s0:=cell_keep hb3 s0
   replace s1:=cell_keep hb3 s1
   replace s2:=cell_keep hb3 s2
   replace s3:=cell_keep hb3 s3
   replace s4:=cell_keep hb3 s4
   replace s5:=cell_keep hb3 s5
   replace s6:=cell_keep hb3 s6
   have hAC : ∀ i v,(#[.int .i64 p.mo,.int .i64 p.dy,.int .i64 p.de,.int .i64 p.wd,.int .i64 p.po,.int .i64 p.pe] : Array Value)[i]? = some v -> (w2.alloc (.cells #[.int .i64 p.mo,.int .i64 p.dy,.int .i64 p.de,.int .i64 p.wd,.int .i64 p.po,.int .i64 p.pe] 194)).cell? ⟨w2.heap.size,i,none⟩ = some v:=fun i v h => by rw [World.cell?_alloc_at _ _ _ _ rfl]; exact h
   have t0:=hAC 0 _ rfl
   have t1:=hAC 1 _ rfl
   have t2:=hAC 2 _ rfl
   have t3:=hAC 3 _ rfl
   have t4:=hAC 4 _ rfl
   have t5:=hAC 5 _ rfl
   clear hAC
   clear hb2 hb3
   go_wp2_with fail
   refine (ans_is (recurs_any fr ev ct un D M Y dn dc mn mc yn yc ds ms ys _ HL.out) H2.out).mono ?_
   rintro e w3 ⟨rfl,hb3⟩
   replace HBX:=hide (andthen HBX.out hb3)
   clear hb3
   go_wp2_with fail
   go_ret
   exact ⟨ret_bool (by rw [e.out]),HBX.out⟩
  ·have e:=hide (show fitsB ⟨fr,ev,ct,un,ds,ms,ys⟩ day = admB p ds ms ys by unfold fitsB; rw [h1,HP.out,h2]; rfl)
   have H2:=hide h2
   clear h1 h2
   go_enter Tryz.func169,Tryz.ntmps169
   go_wp2_with fail
   refine (partsOf_any fr ev ct un D M Y dn dc mn mc yn yc _).mono ?_
   rintro e w1 ⟨rfl,hb1⟩
   replace HBX:=hide (andthen HBX.out hb1)
   replace HL:=hide (HL.out.keep hb1)
   clear hb1
   go_wp2_with fail
   replace HBX:=hide (more HBX.out (.cells #[.int .i64 fr,.int .i64 ev,.int .i64 ct,.int .i64 un,.slice D dn dc,.slice M mn mc,.slice Y yn yc] 130))
   have hAC : ∀ i v,(#[.int .i64 fr,.int .i64 ev,.int .i64 ct,.int .i64 un,.slice D dn dc,.slice M mn mc,.slice Y yn yc] : Array Value)[i]? = some v -> (w1.alloc (.cells #[.int .i64 fr,.int .i64 ev,.int .i64 ct,.int .i64 un,.slice D dn dc,.slice M mn mc,.slice Y yn yc] 130)).cell? ⟨w1.heap.size,i,none⟩ = some v:=fun i v h => by rw [World.cell?_alloc_at _ _ _ _ rfl]; exact h
   have s0:=hAC 0 _ rfl
   have s1:=hAC 1 _ rfl
   have s2:=hAC 2 _ rfl
   have s3:=hAC 3 _ rfl
   have s4:=hAC 4 _ rfl
   have s5:=hAC 5 _ rfl
   have s6:=hAC 6 _ rfl
   clear hAC
   replace HL:=hide (HL.out.keep (more (start w1) (.cells #[.int .i64 fr,.int .i64 ev,.int .i64 ct,.int .i64 un,.slice D dn dc,.slice M mn mc,.slice Y yn yc] 130)))
   generalize w1.alloc (.cells #[.int .i64 fr,.int .i64 ev,.int .i64 ct,.int .i64 un,.slice D dn dc,.slice M mn mc,.slice Y yn yc] 130) = W at *
   generalize w1.heap.size = X at *
   refine (placeOf_is day p _ hd.1 hd.2 HP.out).mono ?_
   rintro e w2 ⟨rfl,hb2⟩
   have hb3:=more hb2 (.cells #[.int .i64 p.mo,.int .i64 p.dy,.int .i64 p.de,.int .i64 p.wd,.int .i64 p.po,.int .i64 p.pe] 194)
   replace HBX:=hide (andthen HBX.out hb3)
   replace HL:=hide (HL.out.keep hb3)
   replace s0:=cell_keep hb3 s0
   replace s1:=cell_keep hb3 s1
   replace s2:=cell_keep hb3 s2
   replace s3:=cell_keep hb3 s3
   replace s4:=cell_keep hb3 s4
   replace s5:=cell_keep hb3 s5
   replace s6:=cell_keep hb3 s6
   have hAC : ∀ i v,(#[.int .i64 p.mo,.int .i64 p.dy,.int .i64 p.de,.int .i64 p.wd,.int .i64 p.po,.int .i64 p.pe] : Array Value)[i]? = some v -> (w2.alloc (.cells #[.int .i64 p.mo,.int .i64 p.dy,.int .i64 p.de,.int .i64 p.wd,.int .i64 p.po,.int .i64 p.pe] 194)).cell? ⟨w2.heap.size,i,none⟩ = some v:=fun i v h => by rw [World.cell?_alloc_at _ _ _ _ rfl]; exact h
   have t0:=hAC 0 _ rfl
   have t1:=hAC 1 _ rfl
   have t2:=hAC 2 _ rfl
   have t3:=hAC 3 _ rfl
   have t4:=hAC 4 _ rfl
   have t5:=hAC 5 _ rfl
   clear hAC
   clear hb2 hb3
   go_wp2_with fail
   refine (ans_is (recurs_any fr ev ct un D M Y dn dc mn mc yn yc ds ms ys _ HL.out) H2.out).mono ?_
   rintro e w3 ⟨rfl,hb3⟩
   replace HBX:=hide (andthen HBX.out hb3)
   replace HL:=hide (HL.out.keep hb3)
   replace s0:=cell_keep hb3 s0
   replace s1:=cell_keep hb3 s1
   replace s2:=cell_keep hb3 s2
   replace s3:=cell_keep hb3 s3
   replace s4:=cell_keep hb3 s4
   replace s5:=cell_keep hb3 s5
   replace s6:=cell_keep hb3 s6
   replace t0:=cell_keep hb3 t0
   replace t1:=cell_keep hb3 t1
   replace t2:=cell_keep hb3 t2
   replace t3:=cell_keep hb3 t3
   replace t4:=cell_keep hb3 t4
   replace t5:=cell_keep hb3 t5
   clear hb3
   go_wp2_with fail
   refine (admit_any p D M Y dn dc mn mc yn yc ds ms ys _ HL.out).mono ?_
   rintro e w4 ⟨rfl,hb4⟩
   replace HBX:=hide (andthen HBX.out hb4)
   clear hb4
   go_wp2_with fail
   go_ret
   exact ⟨ret_bool (by rw [e.out]),HBX.out⟩
theorem plus (g j : Nat) : (⟨g,0,none⟩ : Addr).add j = ⟨g,j,none⟩:=by unfold Addr.add; split <;> simp_all
def cellsI (l : List Int) : List Value:=l.map (Value.int .i64)
theorem cellsI_len (l : List Int) : (cellsI l).length = l.length:=List.length_map _
theorem cellsI_append (l k : List Int) : cellsI (l ++ k) = cellsI l ++ cellsI k:=List.map_append
abbrev OwnI (w : World) (B : Nat) (v : Value) (l : List Int) : Prop:=w.ownsRow B 3 1 v l.length (cellsI l)
theorem OwnI.row {w : World} {B : Nat} {v : Value} {l : List Int} (h : OwnI w B v l) : ∃ A cap,v = .slice A l.length cap /\ RowI w A l:=by
 have h2:=h.2
 rcases h2 with ⟨rfl,hn⟩ | ⟨g,cap,cur,rfl,hb,hg,hnc,hcm,hcs,htake⟩
 ·refine ⟨none,0,by rw [hn],fun hl => absurd (List.eq_nil_of_length_eq_zero hn) hl⟩
 ·refine ⟨some ⟨g,0,none⟩,cap,rfl,fun _ => ⟨g,0,rfl,(h.lt g rfl).2,fun i hi => ?_⟩⟩
  have hc:=World.ownsRow.cells h (g:=g) rfl
  have g1:=hc i (.int .i64 l[i]) (by simp [cellsI,hi])
  rw [plus] at g1
  rw [Nat.zero_add]
  exact g1
theorem OwnI.keep {w w1 : World} {B : Nat} {v : Value} {l : List Int} (h : OwnI w B v l) (hb : Below w.heap.size w w1) : OwnI w1 B v l :=
 World.ownsRow.kept (row:=none) h ⟨hb.os,hb.tape,hb.output,hb.size,fun i hi _ => hb.block i hi⟩ (by cases v.ownBlock <;> simp)
theorem ownI_nil (w : World) (B : Nat) : OwnI w B (.slice none 0 0) []:=World.ownsRow_nil _ _ _ _
theorem int_info : (Tryz.prog.info? 3).map (fun i => (i.zero,i.size,i.bytes)) = some (some (.int .i64 0),1,8):=by kernel_rfl
theorem wp_oneI {ops : Array Oper} {rest : List Oper} {o : Oper} {a : Act} {Q : Exit -> Act -> World -> Prop} {w : World} {B : Nat} {v : Value} {l : List Int} {p : Int} (hgd : o.guard = none) (s x : Operand)
  (ho : o.op = .call { callee:=.builtin .append,args:=#[s,x],argTypes:=#[36,36] }) (hs : a.eval s = v) {N : Nat} (hN : w.heap.size = N) (hx : a.eval x = .slice (some ⟨N,0,none⟩) 1 1)
  (hown : OwnI w B v l) (hB : B <= w.heap.size) (hn : l.length <= 1000000)
  (h : ∀ v' w',OwnI w' B v' (l ++ [p]) -> Below B w w' -> wpList Tryz.prog ops Q rest (a.put o.dst v') w') :
  wpList Tryz.prog ops Q (o :: rest) a (w.alloc (.cells #[.int .i64 p] 3)):=by
 subst hN
 obtain ⟨i0,hi,hz0,hz1,hz2⟩:=info_parts int_info
 refine wpList_append_own _ hgd s x 36 ho B 3 i0 _ 1 8 Tryz.underlying36 hi hz0 hz1 hz2 rfl (by decide) v l.length (cellsI l) hs (hown.alloc _) ⟨w.heap.size,0,none⟩ 1 1 [.int .i64 p] hx rfl ?_ ?_ ?_ ?_ ?_ ?_
 ·intro j u hu
  rw [plus,World.cell?_alloc_at _ _ _ _ rfl]
  exact (by simpa using hu)
 ·intro u hu
  simp only [List.mem_cons,List.not_mem_nil,or_false] at hu
  subst hu; rfl
 ·unfold maxLen; omega
 ·omega
 ·simp only [World.size_alloc]; omega
 ·intro v' w' h2 h3 _
  refine h v' w' (by rw [OwnI,cellsI_append,List.length_append]; exact h2) (((Below.refl B w).alloc hB _).grown h3 (by simp only [World.size_alloc]; omega) fun j hj => (hown.lt j hj).1)
def cellsD (l : List Wd) : List Value:=l.flatMap fun a => [.int .i64 a.1,.int .i64 a.2]
theorem cellsD_cons (a : Wd) (l : List Wd) : cellsD (a :: l) = .int .i64 a.1 :: .int .i64 a.2 :: cellsD l:=rfl
theorem cellsD_get : ∀ (l : List Wd) (i : Nat) (h : i < l.length),(cellsD l)[i * 2]? = some (.int .i64 l[i].1) /\ (cellsD l)[i * 2 + 1]? = some (.int .i64 l[i].2)
 | [],i,h => absurd h (Nat.not_lt_zero i)
 | a :: l,0,_ => by simp [cellsD_cons]
 | a :: l,i + 1,h => by
  have hi : i < l.length:=by simpa using h
  have:=cellsD_get l i hi
  rw [cellsD_cons,show (i + 1) * 2 = i * 2 + 1 + 1 by omega]
  simpa using this
abbrev OwnD (w : World) (B : Nat) (v : Value) (l : List Wd) : Prop:=w.ownsRow B 115 2 v l.length (cellsD l)
theorem OwnD.row {w : World} {B : Nat} {v : Value} {l : List Wd} (h : OwnD w B v l) : ∃ A cap,v = .slice A l.length cap /\ RowD w A l:=by
 have h2:=h.2
 rcases h2 with ⟨rfl,hn⟩ | ⟨g,cap,cur,rfl,hb,hg,hnc,hcm,hcs,htake⟩
 ·refine ⟨none,0,by rw [hn],fun hl => absurd (List.eq_nil_of_length_eq_zero hn) hl⟩
 ·refine ⟨some ⟨g,0,none⟩,cap,rfl,fun _ => ⟨g,0,rfl,(h.lt g rfl).2,fun i hi => ?_⟩⟩
  have hc:=World.ownsRow.cells h (g:=g) rfl
  obtain ⟨c1,c2⟩:=cellsD_get l i hi
  have g1:=hc _ _ c1
  have g2:=hc _ _ c2
  rw [plus] at g1 g2
  rw [Nat.zero_add]
  exact ⟨g1,g2⟩
theorem OwnD.keep {w w1 : World} {B : Nat} {v : Value} {l : List Wd} (h : OwnD w B v l) (hb : Below w.heap.size w w1) : OwnD w1 B v l :=
 World.ownsRow.kept (row:=none) h ⟨hb.os,hb.tape,hb.output,hb.size,fun i hi _ => hb.block i hi⟩ (by cases v.ownBlock <;> simp)
end Go.Proofs.YtgihekokbgggcaaGreat
namespace Go.Proofs.YtgihekokbgggcaaGreat
open Go.RowKit Rul Rt Go.Sort
theorem len_of (s : ByteArray) : s.data.toList.length = s.size:=by simp
end Go.Proofs.YtgihekokbgggcaaGreat
namespace Go.Proofs.YtgihekokbgggcaaGreat
open Go.RowKit Rul Go.Sort
theorem plus2 (b o j : Nat) : (⟨b,o,none⟩ : Addr).add j = ⟨b,o + j,none⟩:=by unfold Addr.add; split <;> simp_all
theorem run_rowI {w : World} {B : Nat} {v : Value} {l k : List Int} (ty : TypeId) {A : Option Addr} {m c : Nat} (hm : m = k.length) (hnil : A = none -> c = 0) (hrow : RowI w A k)
  (hown : OwnI w B v l) (hB : B <= w.heap.size) (hn : l.length <= 1000000) (hk : k.length <= 1000000) :
  ∃ v' w',(Builtin.append_ #[36,36] ty #[v,.slice A m c]).run Tryz.prog w = .ok v' w' /\ OwnI w' B v' (l ++ k) /\ Below B w w':=by
 obtain ⟨i0,hi,hz0,hz1,hz2⟩:=info_parts int_info
 cases A with
 | none =>
  have hk0 : k = []:=by
   rcases k with _ | ⟨z,k⟩
   ·rfl
   ·obtain ⟨_,_,h,_⟩:=hrow (by simp)
    cases h
  subst hk0
  obtain rfl:=hnil rfl
  subst hm
  exact ⟨v,w,run_append_owned_none (P:=Tryz.prog) (w:=w) B 36 ty 3 i0 1 Tryz.underlying36 hi v l.length (cellsI l) hown,by rw [List.append_nil]; exact hown,Below.refl _ _⟩
 | some a =>
  have hnews : ∀ j u,(cellsI k)[j]? = some u -> w.cell? (a.add j) = some u:=by
   rcases k with _ | ⟨z,k0⟩
   ·intro j u hu; simp [cellsI] at hu
   ·obtain ⟨b,off,he,_,hc⟩:=hrow (by simp)
    injection he with he
    subst he
    generalize hkk : z :: k0 = k at *
    clear hkk
    intro j u hu
    have hj : j < (cellsI k).length:=(List.getElem?_eq_some_iff.1 hu).1
    rw [cellsI_len] at hj
    rw [plus2,hc j hj]
    rw [<- hu]; simp [cellsI,hj]
  subst hm
  obtain ⟨v',w',hr,h2,h3,_,_⟩:=run_append_own_at (P:=Tryz.prog) (w:=w) B 36 ty 3 i0 _ 1 8 Tryz.underlying36 hi hz0 hz1 hz2 rfl (by decide) v l.length (cellsI l) hown a k.length c (cellsI k) (by rw [cellsI_len,Nat.mul_one]) hnews (by intro u hu; obtain ⟨z,_,rfl⟩:=List.mem_map.1 hu; rfl) (by unfold maxLen; omega) (by omega) hB
  exact ⟨v',w',hr,by rw [OwnI,cellsI_append,List.length_append]; exact h2,(Below.refl B w).grown h3 hB fun j hj => (hown.lt j hj).1⟩
theorem wp_rowI {ops : Array Oper} {rest : List Oper} {o : Oper} {a : Act} {Q : Exit -> Act -> World -> Prop} {w : World} {B : Nat} {v : Value} {l k : List Int} (hgd : o.guard = none) (s x : Operand)
  (ho : o.op = .call { callee:=.builtin .append,args:=#[s,x],argTypes:=#[36,36] }) (hs : a.eval s = v) {A : Option Addr} {m c : Nat} (hx : a.eval x = .slice A m c) (hm : m = k.length) (hnil : A = none -> c = 0) (hrow : RowI w A k)
  (hown : OwnI w B v l) (hB : B <= w.heap.size) (hn : l.length <= 1000000) (hk : k.length <= 1000000)
  (h : ∀ v' w',OwnI w' B v' (l ++ k) -> Below B w w' -> wpList Tryz.prog ops Q rest (a.put o.dst v') w') :
  wpList Tryz.prog ops Q (o :: rest) a w:=by
 refine wpList_plain hgd fun K hK => ?_
 obtain ⟨v',w',hr,h2,h3⟩:=run_rowI o.type hm hnil hrow hown hB hn hk
 unfold Oper.wp execOp
 simp only [ho,resolve,invoke,builtin,Sem.run_bind,Sem.run_pure,Result.andThen_ok,List.map_toArray,List.map_cons,List.map_nil,hs,hx,hr]
 exact hK _ _ (h v' w' h2 h3)
structure Bq (W : World) (X : Nat) (v0 v1 v2 v3 v4 v5 v6 : Value) : Prop where
 c0 : W.cell? ⟨X,0,none⟩ = some v0
 c1 : W.cell? ⟨X,1,none⟩ = some v1
 c2 : W.cell? ⟨X,2,none⟩ = some v2
 c3 : W.cell? ⟨X,3,none⟩ = some v3
 c4 : W.cell? ⟨X,4,none⟩ = some v4
 c5 : W.cell? ⟨X,5,none⟩ = some v5
 c6 : W.cell? ⟨X,6,none⟩ = some v6
 f : ∀ i,W.frozen? ⟨X,i,none⟩ = false
 lt : X < W.heap.size
theorem Bq.keep {W W1 : World} {X B : Nat} {v0 v1 v2 v3 v4 v5 v6 : Value} (h : Bq W X v0 v1 v2 v3 v4 v5 v6) (hb : Below B W W1) (hX : X < B) : Bq W1 X v0 v1 v2 v3 v4 v5 v6 :=
 ⟨(hb.cell (p:=⟨X,0,none⟩) hX).trans h.c0,(hb.cell (p:=⟨X,1,none⟩) hX).trans h.c1,(hb.cell (p:=⟨X,2,none⟩) hX).trans h.c2,(hb.cell (p:=⟨X,3,none⟩) hX).trans h.c3,(hb.cell (p:=⟨X,4,none⟩) hX).trans h.c4,(hb.cell (p:=⟨X,5,none⟩) hX).trans h.c5,(hb.cell (p:=⟨X,6,none⟩) hX).trans h.c6,fun i => (hb.frozen (p:=⟨X,i,none⟩) hX).trans (h.f i),Nat.lt_of_lt_of_le h.lt hb.size⟩
theorem cell_set_ne' {W : World} {X i j : Nat} {v u : Value} (hn : i ≠ j) (h : W.cell? ⟨X,i,none⟩ = some v) : (W.setCell ⟨X,j,none⟩ u).cell? ⟨X,i,none⟩ = some v :=
 (World.cell?_setCell_other _ _ _ _ (by intro hc; injection hc with _ hc1; omega)).trans h
theorem Bq.set2 {W : World} {X : Nat} {v0 v1 v2 v3 v4 v5 v6 : Value} (u : Value) (h : Bq W X v0 v1 v2 v3 v4 v5 v6) : Bq (W.setCell ⟨X,2,none⟩ u) X v0 v1 u v3 v4 v5 v6 :=
 ⟨cell_set_ne' (by omega) h.c0,cell_set_ne' (by omega) h.c1,World.cell?_setCell_same _ _ _ h.c2,cell_set_ne' (by omega) h.c3,cell_set_ne' (by omega) h.c4,cell_set_ne' (by omega) h.c5,cell_set_ne' (by omega) h.c6,fun i => by rw [World.frozen?_setCell]; exact h.f i,by rw [World.size_setCell]; exact h.lt⟩
end Go.Proofs.YtgihekokbgggcaaGreat

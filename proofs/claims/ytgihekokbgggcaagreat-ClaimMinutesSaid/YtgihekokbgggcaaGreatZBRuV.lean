/- Walks of the reference of layer 4: Fits. -/
import Derived.Deep.Cut
import Derived.Test.YtgihekokbgggcaaGreatZBW8
set_option maxHeartbeats 8000000
set_option maxRecDepth 1000000
namespace Go.Proofs.YtgihekokbgggcaaGreat.R
open Go.RowKit Rul Go.Sort
theorem emp_0 {α : Type} (q : α -> Bool) (l : List α) (h : l.length = 0) : emptyOr q l = true:=by unfold emptyOr; rw [decide_eq_true h]; rfl
theorem emp_mo (p : P) (l : List Int) (h : 0 < l.length) : emptyOr (moFit p) l = isIn l p.mo:=by unfold emptyOr; rw [decide_eq_false (by omega)]; rfl
theorem any_or {α : Type} (a b : α -> Bool) (l : List α) : l.any (fun x => a x || b x) = (l.any a || l.any b):=by
 induction l with
 | nil => rfl
 | cons x l ih => simp only [List.any_cons,ih]; cases a x <;> cases b x <;> simp
theorem emp_md (p : P) (l : List Int) (h : 0 < l.length) : emptyOr (mdFit p) l = (isIn l p.dy || isIn l p.de):=by
 unfold emptyOr; rw [decide_eq_false (by omega)]; exact any_or (fun x => x == p.dy) (fun x => x == p.de) l
theorem rdate_is (n y m d : Int) (w : World) (h1 : 0 <= n) (h2 : n < 36525) (hy : Cal.yOf n = y) (hm : Cal.mOf n = m) (hd : Cal.dOf n = d) :
  Calls Tryz.prog 117 #[.int .i64 n] w (Ans w (.tuple #[.agg #[.int .i64 y,.int .i64 m,.int .i64 d],.int .i64 0])):=by
 subst hy hm hd; exact rDate_walk n w h1 h2
theorem rweekday_is (n v : Int) (w : World) (h : Cal.wday n = v) :
  Calls Tryz.prog 118 #[.int .i64 n] w fun e w' => e = .returned (.int .i64 v) /\ w = w':=by subst h; exact rWeekday_any n w
theorem isB_rec (r : T) (h : isB r = true) (h0 : r.fr ≠ 0) : recB r = true:=by rw [isB_1 r h0] at h; exact h
theorem rec_isB (r : T) (h : isB r = false) : recB r = false:=by unfold isB at h; rw [Bool.or_eq_false_iff] at h; exact h.2
theorem rec_0 (r : T) (h : r.fr = 0) : recB r = false:=by rw [Bool.eq_false_iff]; intro hc; have:=recB_fr r hc; omega
theorem fits_no (fr ev ct un : Int) (D M Y : Option Addr) (dn dc mn mc yn yc : Nat) (ds : List Wd) (ms ys : List Int) (day : Int) (w : World) (hd : dayB day = false) :
  Calls Tryz.prog 120 #[.agg #[.int .i64 fr,.int .i64 ev,.int .i64 ct,.int .i64 un,.slice D dn dc,.slice M mn mc,.slice Y yn yc],.int .i64 day] w (Ans w (.bool (fitsB ⟨fr,ev,ct,un,ds,ms,ys⟩ day))):=by
 have e:=hide (show fitsB ⟨fr,ev,ct,un,ds,ms,ys⟩ day = false by unfold fitsB; rw [hd]; rfl)
 have H1:=hide (dayB_no day hd)
 have HBX:=hide (more (start w) (.cells #[.int .i64 fr,.int .i64 ev,.int .i64 ct,.int .i64 un,.slice D dn dc,.slice M mn mc,.slice Y yn yc] 39))
 clear hd
 go_enter Tryz.func120,Tryz.ntmps120
 go_wp2_with fail
 refine (rDate_no day _ H1.out).mono ?_
 rintro e w1 ⟨rfl,hb1⟩
 replace HBX:=hide (more (andthen HBX.out hb1) (.cells #[.int .i64 0,.int .i64 0,.int .i64 0] 110))
 clear hb1
 go_wp2_with fail
 go_ret
 exact ⟨ret_bool (by rw [e.out]),HBX.out⟩
theorem fits_bad (fr ev ct un : Int) (D M Y : Option Addr) (dn dc mn mc yn yc : Nat) (ds : List Wd) (ms ys : List Int) (day y m d k v : Int) (w : World) (h : Lies w D dn M mn Y yn ds ms ys) (h1 : 0 <= day) (h2 : day < 36525) (hd : Cal.yOf day = y /\ Cal.mOf day = m /\ Cal.dOf day = d /\ Cal.dim y m = k /\ Cal.wday day = v) (b : Bool) (hi : isB ⟨fr,ev,ct,un,ds,ms,ys⟩ = b) (h0 : b = true -> fr = 0) :
  Calls Tryz.prog 120 #[.agg #[.int .i64 fr,.int .i64 ev,.int .i64 ct,.int .i64 un,.slice D dn dc,.slice M mn mc,.slice Y yn yc],.int .i64 day] w (Ans w (.bool false)):=by
 have HD:=hide hd
 have HI:=hide hi
 have HBX:=hide (more (start w) (.cells #[.int .i64 fr,.int .i64 ev,.int .i64 ct,.int .i64 un,.slice D dn dc,.slice M mn mc,.slice Y yn yc] 39))
 have HL:=hide (h.keep HBX.out)
 have s0 : (w.alloc (.cells #[.int .i64 fr,.int .i64 ev,.int .i64 ct,.int .i64 un,.slice D dn dc,.slice M mn mc,.slice Y yn yc] 39)).cell? ⟨w.heap.size,0,none⟩ = some (.int .i64 fr):=by rw [World.cell?_alloc_at _ _ _ _ rfl]; rfl
 have s4 : (w.alloc (.cells #[.int .i64 fr,.int .i64 ev,.int .i64 ct,.int .i64 un,.slice D dn dc,.slice M mn mc,.slice Y yn yc] 39)).cell? ⟨w.heap.size,4,none⟩ = some (.slice D dn dc):=by rw [World.cell?_alloc_at _ _ _ _ rfl]; rfl
 have s5 : (w.alloc (.cells #[.int .i64 fr,.int .i64 ev,.int .i64 ct,.int .i64 un,.slice D dn dc,.slice M mn mc,.slice Y yn yc] 39)).cell? ⟨w.heap.size,5,none⟩ = some (.slice M mn mc):=by rw [World.cell?_alloc_at _ _ _ _ rfl]; rfl
 have s6 : (w.alloc (.cells #[.int .i64 fr,.int .i64 ev,.int .i64 ct,.int .i64 un,.slice D dn dc,.slice M mn mc,.slice Y yn yc] 39)).cell? ⟨w.heap.size,6,none⟩ = some (.slice Y yn yc):=by rw [World.cell?_alloc_at _ _ _ _ rfl]; rfl
 have s1 : (w.alloc (.cells #[.int .i64 fr,.int .i64 ev,.int .i64 ct,.int .i64 un,.slice D dn dc,.slice M mn mc,.slice Y yn yc] 39)).cell? ⟨w.heap.size,1,none⟩ = some (.int .i64 ev):=by rw [World.cell?_alloc_at _ _ _ _ rfl]; rfl
 have s2 : (w.alloc (.cells #[.int .i64 fr,.int .i64 ev,.int .i64 ct,.int .i64 un,.slice D dn dc,.slice M mn mc,.slice Y yn yc] 39)).cell? ⟨w.heap.size,2,none⟩ = some (.int .i64 ct):=by rw [World.cell?_alloc_at _ _ _ _ rfl]; rfl
 have s3 : (w.alloc (.cells #[.int .i64 fr,.int .i64 ev,.int .i64 ct,.int .i64 un,.slice D dn dc,.slice M mn mc,.slice Y yn yc] 39)).cell? ⟨w.heap.size,3,none⟩ = some (.int .i64 un):=by rw [World.cell?_alloc_at _ _ _ _ rfl]; rfl
 clear hd hi h
 cases b
 ·clear h0
  go_enter Tryz.func120,Tryz.ntmps120
  go_wp2_with fail
  refine (rdate_is day y m d _ h1 h2 HD.out.1 HD.out.2.1 HD.out.2.2.1).mono ?_
  rintro e w1 ⟨rfl,hb1⟩
  have hb2:=more hb1 (.cells #[.int .i64 y,.int .i64 m,.int .i64 d] 110)
  replace HBX:=hide (andthen HBX.out hb2)
  replace HL:=hide (HL.out.keep hb2)
  replace s0:=cell_keep hb2 s0
  replace s1:=cell_keep hb2 s1
  replace s2:=cell_keep hb2 s2
  replace s3:=cell_keep hb2 s3
  replace s4:=cell_keep hb2 s4
  replace s5:=cell_keep hb2 s5
  replace s6:=cell_keep hb2 s6
  have c0 : (w1.alloc (.cells #[.int .i64 y,.int .i64 m,.int .i64 d] 110)).cell? ⟨w1.heap.size,0,none⟩ = some (.int .i64 y):=by rw [World.cell?_alloc_at _ _ _ _ rfl]; rfl
  have c1 : (w1.alloc (.cells #[.int .i64 y,.int .i64 m,.int .i64 d] 110)).cell? ⟨w1.heap.size,1,none⟩ = some (.int .i64 m):=by rw [World.cell?_alloc_at _ _ _ _ rfl]; rfl
  have c2 : (w1.alloc (.cells #[.int .i64 y,.int .i64 m,.int .i64 d] 110)).cell? ⟨w1.heap.size,2,none⟩ = some (.int .i64 d):=by rw [World.cell?_alloc_at _ _ _ _ rfl]; rfl
  clear hb1 hb2
  go_wp2_with fail
  generalize w1.alloc (.cells #[.int .i64 y,.int .i64 m,.int .i64 d] 110) = W1 at *
  generalize w1.heap.size = Q at *
  refine (ans_is (is_any fr ev ct un D M Y dn dc mn mc yn yc ds ms ys _ HL.out) HI.out).mono ?_
  rintro e w2 ⟨rfl,hb2⟩
  replace HBX:=hide (andthen HBX.out hb2)
  replace HL:=hide (HL.out.keep hb2)
  replace s0:=cell_keep hb2 s0
  replace s4:=cell_keep hb2 s4
  replace s5:=cell_keep hb2 s5
  replace s6:=cell_keep hb2 s6
  replace c0:=cell_keep hb2 c0
  replace c1:=cell_keep hb2 c1
  replace c2:=cell_keep hb2 c2
  clear hb2 s1 s2 s3
  clear s0 s4 s5 s6 c0 c1 c2 HL
  go_wp2_with fail
  go_ret
  exact ⟨rfl,HBX.out⟩
 ·have g0 : (fr == 0) = true:=beq_iff_eq.2 (h0 rfl)
  clear h0
  go_enter Tryz.func120,Tryz.ntmps120
  go_wp2_with fail
  refine (rdate_is day y m d _ h1 h2 HD.out.1 HD.out.2.1 HD.out.2.2.1).mono ?_
  rintro e w1 ⟨rfl,hb1⟩
  have hb2:=more hb1 (.cells #[.int .i64 y,.int .i64 m,.int .i64 d] 110)
  replace HBX:=hide (andthen HBX.out hb2)
  replace HL:=hide (HL.out.keep hb2)
  replace s0:=cell_keep hb2 s0
  replace s1:=cell_keep hb2 s1
  replace s2:=cell_keep hb2 s2
  replace s3:=cell_keep hb2 s3
  replace s4:=cell_keep hb2 s4
  replace s5:=cell_keep hb2 s5
  replace s6:=cell_keep hb2 s6
  have c0 : (w1.alloc (.cells #[.int .i64 y,.int .i64 m,.int .i64 d] 110)).cell? ⟨w1.heap.size,0,none⟩ = some (.int .i64 y):=by rw [World.cell?_alloc_at _ _ _ _ rfl]; rfl
  have c1 : (w1.alloc (.cells #[.int .i64 y,.int .i64 m,.int .i64 d] 110)).cell? ⟨w1.heap.size,1,none⟩ = some (.int .i64 m):=by rw [World.cell?_alloc_at _ _ _ _ rfl]; rfl
  have c2 : (w1.alloc (.cells #[.int .i64 y,.int .i64 m,.int .i64 d] 110)).cell? ⟨w1.heap.size,2,none⟩ = some (.int .i64 d):=by rw [World.cell?_alloc_at _ _ _ _ rfl]; rfl
  clear hb1 hb2
  go_wp2_with fail
  generalize w1.alloc (.cells #[.int .i64 y,.int .i64 m,.int .i64 d] 110) = W1 at *
  generalize w1.heap.size = Q at *
  refine (ans_is (is_any fr ev ct un D M Y dn dc mn mc yn yc ds ms ys _ HL.out) HI.out).mono ?_
  rintro e w2 ⟨rfl,hb2⟩
  replace HBX:=hide (andthen HBX.out hb2)
  replace HL:=hide (HL.out.keep hb2)
  replace s0:=cell_keep hb2 s0
  replace s4:=cell_keep hb2 s4
  replace s5:=cell_keep hb2 s5
  replace s6:=cell_keep hb2 s6
  replace c0:=cell_keep hb2 c0
  replace c1:=cell_keep hb2 c1
  replace c2:=cell_keep hb2 c2
  clear hb2 s1 s2 s3
  clear s4 s5 s6 c0 c1 c2 HL
  go_wp2_with fail
  go_ret
  exact ⟨rfl,HBX.out⟩
theorem fits_good (fr ev ct un : Int) (D M Y : Option Addr) (dn dc mn mc yn yc : Nat) (ds : List Wd) (ms ys : List Int) (day y m d k v : Int) (w : World) (h : Lies w D dn M mn Y yn ds ms ys) (h1 : 0 <= day) (h2 : day < 36525) (hd : Cal.yOf day = y /\ Cal.mOf day = m /\ Cal.dOf day = d /\ Cal.dim y m = k /\ Cal.wday day = v) (hi : isB ⟨fr,ev,ct,un,ds,ms,ys⟩ = true) (h0 : ¬ fr = 0) (d1 : 1 <= d) (d2 : d <= 31) (k1 : d <= k) (k2 : k <= 31) :
  Calls Tryz.prog 120 #[.agg #[.int .i64 fr,.int .i64 ev,.int .i64 ct,.int .i64 un,.slice D dn dc,.slice M mn mc,.slice Y yn yc],.int .i64 day] w (Ans w (.bool (fitsB ⟨fr,ev,ct,un,ds,ms,ys⟩ day))):=by
 have hpl : placeOf day = ⟨m,d,-(k - d + 1),v,(d - 1) / 7 + 1,-((k - d) / 7 + 1)⟩:=by
  unfold placeOf
  rw [hd.1,hd.2.1,hd.2.2.1,hd.2.2.2.1,hd.2.2.2.2]
 have HFIT:=hide (show fitsB ⟨fr,ev,ct,un,ds,ms,ys⟩ day = admB ⟨m,d,-(k - d + 1),v,(d - 1) / 7 + 1,-((k - d) / 7 + 1)⟩ ds ms ys by
  unfold fitsB; rw [show dayB day = true from decide_eq_true ⟨h1,h2⟩,isB_rec _ hi h0,hpl]; rfl)
 have HD:=hide hd
 have HI:=hide hi
 have HBX:=hide (more (start w) (.cells #[.int .i64 fr,.int .i64 ev,.int .i64 ct,.int .i64 un,.slice D dn dc,.slice M mn mc,.slice Y yn yc] 39))
 have HL:=hide (h.keep HBX.out)
 have s0 : (w.alloc (.cells #[.int .i64 fr,.int .i64 ev,.int .i64 ct,.int .i64 un,.slice D dn dc,.slice M mn mc,.slice Y yn yc] 39)).cell? ⟨w.heap.size,0,none⟩ = some (.int .i64 fr):=by rw [World.cell?_alloc_at _ _ _ _ rfl]; rfl
 have s4 : (w.alloc (.cells #[.int .i64 fr,.int .i64 ev,.int .i64 ct,.int .i64 un,.slice D dn dc,.slice M mn mc,.slice Y yn yc] 39)).cell? ⟨w.heap.size,4,none⟩ = some (.slice D dn dc):=by rw [World.cell?_alloc_at _ _ _ _ rfl]; rfl
 have s5 : (w.alloc (.cells #[.int .i64 fr,.int .i64 ev,.int .i64 ct,.int .i64 un,.slice D dn dc,.slice M mn mc,.slice Y yn yc] 39)).cell? ⟨w.heap.size,5,none⟩ = some (.slice M mn mc):=by rw [World.cell?_alloc_at _ _ _ _ rfl]; rfl
 have s6 : (w.alloc (.cells #[.int .i64 fr,.int .i64 ev,.int .i64 ct,.int .i64 un,.slice D dn dc,.slice M mn mc,.slice Y yn yc] 39)).cell? ⟨w.heap.size,6,none⟩ = some (.slice Y yn yc):=by rw [World.cell?_alloc_at _ _ _ _ rfl]; rfl
 have s1 : (w.alloc (.cells #[.int .i64 fr,.int .i64 ev,.int .i64 ct,.int .i64 un,.slice D dn dc,.slice M mn mc,.slice Y yn yc] 39)).cell? ⟨w.heap.size,1,none⟩ = some (.int .i64 ev):=by rw [World.cell?_alloc_at _ _ _ _ rfl]; rfl
 have s2 : (w.alloc (.cells #[.int .i64 fr,.int .i64 ev,.int .i64 ct,.int .i64 un,.slice D dn dc,.slice M mn mc,.slice Y yn yc] 39)).cell? ⟨w.heap.size,2,none⟩ = some (.int .i64 ct):=by rw [World.cell?_alloc_at _ _ _ _ rfl]; rfl
 have s3 : (w.alloc (.cells #[.int .i64 fr,.int .i64 ev,.int .i64 ct,.int .i64 un,.slice D dn dc,.slice M mn mc,.slice Y yn yc] 39)).cell? ⟨w.heap.size,3,none⟩ = some (.int .i64 un):=by rw [World.cell?_alloc_at _ _ _ _ rfl]; rfl
 have g0 : (fr == 0) = false:=by rw [beq_eq_false_iff_ne]; exact h0
 have hde : -(k - d + 1) = d - k - 1:=by omega
 obtain ⟨CB,hCB⟩ : ∃ CB,CB = !(emptyOr (moFit ⟨m,d,-(k - d + 1),v,(d - 1) / 7 + 1,-((k - d) / 7 + 1)⟩) ys && emptyOr (mdFit ⟨m,d,-(k - d + 1),v,(d - 1) / 7 + 1,-((k - d) / 7 + 1)⟩) ms):=⟨_,rfl⟩
 clear hd hi h h0 hpl
 go_enter Tryz.func120,Tryz.ntmps120
 go_wp2_with fail
 refine (rdate_is day y m d _ h1 h2 HD.out.1 HD.out.2.1 HD.out.2.2.1).mono ?_
 rintro e w1 ⟨rfl,hb1⟩
 have hb2:=more hb1 (.cells #[.int .i64 y,.int .i64 m,.int .i64 d] 110)
 replace HBX:=hide (andthen HBX.out hb2)
 replace HL:=hide (HL.out.keep hb2)
 replace s0:=cell_keep hb2 s0
 replace s1:=cell_keep hb2 s1
 replace s2:=cell_keep hb2 s2
 replace s3:=cell_keep hb2 s3
 replace s4:=cell_keep hb2 s4
 replace s5:=cell_keep hb2 s5
 replace s6:=cell_keep hb2 s6
 have c0 : (w1.alloc (.cells #[.int .i64 y,.int .i64 m,.int .i64 d] 110)).cell? ⟨w1.heap.size,0,none⟩ = some (.int .i64 y):=by rw [World.cell?_alloc_at _ _ _ _ rfl]; rfl
 have c1 : (w1.alloc (.cells #[.int .i64 y,.int .i64 m,.int .i64 d] 110)).cell? ⟨w1.heap.size,1,none⟩ = some (.int .i64 m):=by rw [World.cell?_alloc_at _ _ _ _ rfl]; rfl
 have c2 : (w1.alloc (.cells #[.int .i64 y,.int .i64 m,.int .i64 d] 110)).cell? ⟨w1.heap.size,2,none⟩ = some (.int .i64 d):=by rw [World.cell?_alloc_at _ _ _ _ rfl]; rfl
 clear hb1 hb2
 go_wp2_with fail
 generalize w1.alloc (.cells #[.int .i64 y,.int .i64 m,.int .i64 d] 110) = W1 at *
 generalize w1.heap.size = Q at *
 refine (ans_is (is_any fr ev ct un D M Y dn dc mn mc yn yc ds ms ys _ HL.out) HI.out).mono ?_
 rintro e w2 ⟨rfl,hb2⟩
 replace HBX:=hide (andthen HBX.out hb2)
 replace HL:=hide (HL.out.keep hb2)
 replace s0:=cell_keep hb2 s0
 replace s4:=cell_keep hb2 s4
 replace s5:=cell_keep hb2 s5
 replace s6:=cell_keep hb2 s6
 replace c0:=cell_keep hb2 c0
 replace c1:=cell_keep hb2 c1
 replace c2:=cell_keep hb2 c2
 clear hb2 s1 s2 s3
 go_upto_region 5 with (go_at_call 141; refine (rlength_at _ _ k _ HD.out.2.2.2.1).mono ?_; rintro e w3 ⟨rfl,rfl⟩)
 clear s0 c0
 generalize w2 = W at *
 go_cut [69] from 11 (fun b wx => b = .bool CB /\ Below W.heap.size W wx)
 case first =>
  have HBW:=hide (start W)
  have HLW:=HL
  have t5:=s5
  have t6:=s6
  have d1:=c1
  have d2:=c2
  clear HL s4 s5 s6 c1 c2
  by_cases hy : 0 < ys.length
  ·have g0 : 0 < yn:=by rw [HLW.out.yn]; exact hy
   have g1 : decide (0 < (yn : Int)) = true:=decide_eq_true (by omega)
   have g2 : decide (0 < yn) = true:=decide_eq_true g0
   cases iy : isIn ys m
   ·have HC:=hide (show CB = true by rw [hCB,emp_mo _ _ hy,iy]; rfl)
    have IY:=hide iy
    clear iy
    go_wp2_with fail
    refine (ans_is (in_any Y yn yc ys m _ HLW.out.y HLW.out.yn HLW.out.yl) IY.out).mono ?_
    rintro e w4 ⟨rfl,hb4⟩
    replace HBW:=hide (andthen HBW.out hb4)
    replace HLW:=hide (HLW.out.keep hb4)
    replace t5:=cell_keep hb4 t5
    replace t6:=cell_keep hb4 t6
    replace d1:=cell_keep hb4 d1
    replace d2:=cell_keep hb4 d2
    clear hb4
    go_wp2_with fail
    go_meet
    case rel => exact ⟨by rw [HC.out],HBW.out⟩
   ·have hyt : emptyOr (moFit ⟨m,d,-(k - d + 1),v,(d - 1) / 7 + 1,-((k - d) / 7 + 1)⟩) ys = true:=by rw [emp_mo _ _ hy]; exact iy
    by_cases hm : 0 < ms.length
    ·have g3 : 0 < mn:=by rw [HLW.out.mn]; exact hm
     have g4 : decide (0 < (mn : Int)) = true:=decide_eq_true (by omega)
     have g5 : decide (0 < mn) = true:=decide_eq_true g3
     cases im : isIn ms d
     ·cases im2 : isIn ms (d - k - 1)
      ·have HC:=hide (show CB = true by rw [hCB,hyt,emp_md _ _ hm,im,show isIn ms (-(k - d + 1)) = false from by rw [hde]; exact im2]; rfl)
       have IY:=hide iy
       have IM:=hide im
       have IN:=hide im2
       clear iy im im2
       go_wp2_with fail
       refine (ans_is (in_any Y yn yc ys m _ HLW.out.y HLW.out.yn HLW.out.yl) IY.out).mono ?_
       rintro e w4 ⟨rfl,hb4⟩
       replace HBW:=hide (andthen HBW.out hb4)
       replace HLW:=hide (HLW.out.keep hb4)
       replace t5:=cell_keep hb4 t5
       replace t6:=cell_keep hb4 t6
       replace d1:=cell_keep hb4 d1
       replace d2:=cell_keep hb4 d2
       clear hb4
       go_wp2_with fail
       refine (ans_is (in_any M mn mc ms d _ HLW.out.m HLW.out.mn HLW.out.ml) IM.out).mono ?_
       rintro e w4 ⟨rfl,hb4⟩
       replace HBW:=hide (andthen HBW.out hb4)
       replace HLW:=hide (HLW.out.keep hb4)
       replace t5:=cell_keep hb4 t5
       replace t6:=cell_keep hb4 t6
       replace d1:=cell_keep hb4 d1
       replace d2:=cell_keep hb4 d2
       clear hb4
       go_wp2_with fail
       refine (ans_is (in_any M mn mc ms (d - k - 1) _ HLW.out.m HLW.out.mn HLW.out.ml) IN.out).mono ?_
       rintro e w4 ⟨rfl,hb4⟩
       replace HBW:=hide (andthen HBW.out hb4)
       replace HLW:=hide (HLW.out.keep hb4)
       replace t5:=cell_keep hb4 t5
       replace t6:=cell_keep hb4 t6
       replace d1:=cell_keep hb4 d1
       replace d2:=cell_keep hb4 d2
       clear hb4
       go_wp2_with fail
       go_meet
       case rel => exact ⟨by rw [HC.out],HBW.out⟩
      ·have HC:=hide (show CB = false by rw [hCB,hyt,emp_md _ _ hm,im,show isIn ms (-(k - d + 1)) = true from by rw [hde]; exact im2]; rfl)
       have IY:=hide iy
       have IM:=hide im
       have IN:=hide im2
       clear iy im im2
       go_wp2_with fail
       refine (ans_is (in_any Y yn yc ys m _ HLW.out.y HLW.out.yn HLW.out.yl) IY.out).mono ?_
       rintro e w4 ⟨rfl,hb4⟩
       replace HBW:=hide (andthen HBW.out hb4)
       replace HLW:=hide (HLW.out.keep hb4)
       replace t5:=cell_keep hb4 t5
       replace t6:=cell_keep hb4 t6
       replace d1:=cell_keep hb4 d1
       replace d2:=cell_keep hb4 d2
       clear hb4
       go_wp2_with fail
       refine (ans_is (in_any M mn mc ms d _ HLW.out.m HLW.out.mn HLW.out.ml) IM.out).mono ?_
       rintro e w4 ⟨rfl,hb4⟩
       replace HBW:=hide (andthen HBW.out hb4)
       replace HLW:=hide (HLW.out.keep hb4)
       replace t5:=cell_keep hb4 t5
       replace t6:=cell_keep hb4 t6
       replace d1:=cell_keep hb4 d1
       replace d2:=cell_keep hb4 d2
       clear hb4
       go_wp2_with fail
       refine (ans_is (in_any M mn mc ms (d - k - 1) _ HLW.out.m HLW.out.mn HLW.out.ml) IN.out).mono ?_
       rintro e w4 ⟨rfl,hb4⟩
       replace HBW:=hide (andthen HBW.out hb4)
       replace HLW:=hide (HLW.out.keep hb4)
       replace t5:=cell_keep hb4 t5
       replace t6:=cell_keep hb4 t6
       replace d1:=cell_keep hb4 d1
       replace d2:=cell_keep hb4 d2
       clear hb4
       go_wp2_with fail
       go_meet
       case rel => exact ⟨by rw [HC.out],HBW.out⟩
     ·have HC:=hide (show CB = false by rw [hCB,hyt,emp_md _ _ hm,im]; rfl)
      have IY:=hide iy
      have IM:=hide im
      clear iy im
      go_wp2_with fail
      refine (ans_is (in_any Y yn yc ys m _ HLW.out.y HLW.out.yn HLW.out.yl) IY.out).mono ?_
      rintro e w4 ⟨rfl,hb4⟩
      replace HBW:=hide (andthen HBW.out hb4)
      replace HLW:=hide (HLW.out.keep hb4)
      replace t5:=cell_keep hb4 t5
      replace t6:=cell_keep hb4 t6
      replace d1:=cell_keep hb4 d1
      replace d2:=cell_keep hb4 d2
      clear hb4
      go_wp2_with fail
      refine (ans_is (in_any M mn mc ms d _ HLW.out.m HLW.out.mn HLW.out.ml) IM.out).mono ?_
      rintro e w4 ⟨rfl,hb4⟩
      replace HBW:=hide (andthen HBW.out hb4)
      replace HLW:=hide (HLW.out.keep hb4)
      replace t5:=cell_keep hb4 t5
      replace t6:=cell_keep hb4 t6
      replace d1:=cell_keep hb4 d1
      replace d2:=cell_keep hb4 d2
      clear hb4
      go_wp2_with fail
      go_meet
      case rel => exact ⟨by rw [HC.out],HBW.out⟩
    ·have HC:=hide (show CB = false by rw [hCB,hyt,emp_0 _ _ (show ms.length = 0 by omega)]; rfl)
     obtain rfl : mn = 0:=by rw [HLW.out.mn]; omega
     have IY:=hide iy
     clear iy
     go_wp2_with fail
     refine (ans_is (in_any Y yn yc ys m _ HLW.out.y HLW.out.yn HLW.out.yl) IY.out).mono ?_
     rintro e w4 ⟨rfl,hb4⟩
     replace HBW:=hide (andthen HBW.out hb4)
     replace HLW:=hide (HLW.out.keep hb4)
     replace t5:=cell_keep hb4 t5
     replace t6:=cell_keep hb4 t6
     replace d1:=cell_keep hb4 d1
     replace d2:=cell_keep hb4 d2
     clear hb4
     go_wp2_with fail
     go_meet
     case rel => exact ⟨by rw [HC.out],HBW.out⟩
  ·obtain rfl : yn = 0:=by rw [HLW.out.yn]; omega
   have hyt : emptyOr (moFit ⟨m,d,-(k - d + 1),v,(d - 1) / 7 + 1,-((k - d) / 7 + 1)⟩) ys = true:=emp_0 _ _ (by omega)
   by_cases hm : 0 < ms.length
   ·have g3 : 0 < mn:=by rw [HLW.out.mn]; exact hm
    have g4 : decide (0 < (mn : Int)) = true:=decide_eq_true (by omega)
    have g5 : decide (0 < mn) = true:=decide_eq_true g3
    cases im : isIn ms d
    ·cases im2 : isIn ms (d - k - 1)
     ·have HC:=hide (show CB = true by rw [hCB,hyt,emp_md _ _ hm,im,show isIn ms (-(k - d + 1)) = false from by rw [hde]; exact im2]; rfl)
      have IM:=hide im
      have IN:=hide im2
      clear im im2
      go_wp2_with fail
      refine (ans_is (in_any M mn mc ms d _ HLW.out.m HLW.out.mn HLW.out.ml) IM.out).mono ?_
      rintro e w4 ⟨rfl,hb4⟩
      replace HBW:=hide (andthen HBW.out hb4)
      replace HLW:=hide (HLW.out.keep hb4)
      replace t5:=cell_keep hb4 t5
      replace t6:=cell_keep hb4 t6
      replace d1:=cell_keep hb4 d1
      replace d2:=cell_keep hb4 d2
      clear hb4
      go_wp2_with fail
      refine (ans_is (in_any M mn mc ms (d - k - 1) _ HLW.out.m HLW.out.mn HLW.out.ml) IN.out).mono ?_
      rintro e w4 ⟨rfl,hb4⟩
      replace HBW:=hide (andthen HBW.out hb4)
      replace HLW:=hide (HLW.out.keep hb4)
      replace t5:=cell_keep hb4 t5
      replace t6:=cell_keep hb4 t6
      replace d1:=cell_keep hb4 d1
      replace d2:=cell_keep hb4 d2
      clear hb4
      go_wp2_with fail
      go_meet
      case rel => exact ⟨by rw [HC.out],HBW.out⟩
     ·have HC:=hide (show CB = false by rw [hCB,hyt,emp_md _ _ hm,im,show isIn ms (-(k - d + 1)) = true from by rw [hde]; exact im2]; rfl)
      have IM:=hide im
      have IN:=hide im2
      clear im im2
      go_wp2_with fail
      refine (ans_is (in_any M mn mc ms d _ HLW.out.m HLW.out.mn HLW.out.ml) IM.out).mono ?_
      rintro e w4 ⟨rfl,hb4⟩
      replace HBW:=hide (andthen HBW.out hb4)
      replace HLW:=hide (HLW.out.keep hb4)
      replace t5:=cell_keep hb4 t5
      replace t6:=cell_keep hb4 t6
      replace d1:=cell_keep hb4 d1
      replace d2:=cell_keep hb4 d2
      clear hb4
      go_wp2_with fail
      refine (ans_is (in_any M mn mc ms (d - k - 1) _ HLW.out.m HLW.out.mn HLW.out.ml) IN.out).mono ?_
      rintro e w4 ⟨rfl,hb4⟩
      replace HBW:=hide (andthen HBW.out hb4)
      replace HLW:=hide (HLW.out.keep hb4)
      replace t5:=cell_keep hb4 t5
      replace t6:=cell_keep hb4 t6
      replace d1:=cell_keep hb4 d1
      replace d2:=cell_keep hb4 d2
      clear hb4
      go_wp2_with fail
      go_meet
      case rel => exact ⟨by rw [HC.out],HBW.out⟩
    ·have HC:=hide (show CB = false by rw [hCB,hyt,emp_md _ _ hm,im]; rfl)
     have IM:=hide im
     clear im
     go_wp2_with fail
     refine (ans_is (in_any M mn mc ms d _ HLW.out.m HLW.out.mn HLW.out.ml) IM.out).mono ?_
     rintro e w4 ⟨rfl,hb4⟩
     replace HBW:=hide (andthen HBW.out hb4)
     replace HLW:=hide (HLW.out.keep hb4)
     replace t5:=cell_keep hb4 t5
     replace t6:=cell_keep hb4 t6
     replace d1:=cell_keep hb4 d1
     replace d2:=cell_keep hb4 d2
     clear hb4
     go_wp2_with fail
     go_meet
     case rel => exact ⟨by rw [HC.out],HBW.out⟩
   ·have HC:=hide (show CB = false by rw [hCB,hyt,emp_0 _ _ (show ms.length = 0 by omega)]; rfl)
    obtain rfl : mn = 0:=by rw [HLW.out.mn]; omega
    go_wp2_with fail
    go_meet
    case rel => exact ⟨by rw [HC.out],HBW.out⟩
 case rest =>
  obtain ⟨rfl,hbc⟩:=hcut
  replace HBX:=hide (andthen HBX.out hbc)
  replace HL:=hide (HL.out.keep hbc)
  replace s4:=cell_keep hbc s4
  replace c2:=cell_keep hbc c2
  clear hbc s5 s6 c1
  cases hb : CB
  ·have hcb : emptyOr (moFit ⟨m,d,-(k - d + 1),v,(d - 1) / 7 + 1,-((k - d) / 7 + 1)⟩) ys = true /\ emptyOr (mdFit ⟨m,d,-(k - d + 1),v,(d - 1) / 7 + 1,-((k - d) / 7 + 1)⟩) ms = true:=by
    rw [hb] at hCB
    have h3:=congrArg (! ·) hCB
    simp only [Bool.not_false,Bool.not_not] at h3
    rw [<- Bool.and_eq_true]; exact h3.symm
   have e9:=hide (show fitsB ⟨fr,ev,ct,un,ds,ms,ys⟩ day = emptyOr (wdFit ⟨m,d,-(k - d + 1),v,(d - 1) / 7 + 1,-((k - d) / 7 + 1)⟩) ds by
    rw [HFIT.out]; unfold admB; rw [hcb.1,hcb.2]; rfl)
   have HN0:=hide HL.out.dn
   clear hCB hb hcb hde
   go_wp2_with fail
   refine (rweekday_is day v _ HD.out.2.2.2.2).mono ?_
   rintro e w5 ⟨rfl,rfl⟩
   by_cases hnil : ds = []
   ·subst hnil
    obtain rfl : dn = 0:=HN0.out
    go_wp2_with fail
    refine wp_loop_rounds 1 ?_
    rw [rounds_succ]
    go_wp2_with fail
    go_ret
    exact ⟨ret_bool (by rw [e9.out]; rfl),HBX.out⟩
   ·obtain ⟨b1,o1,rfl,hb1,hc1⟩:=HL.out.d hnil
    obtain rfl:=HN0.out
    have HC1:=hide hc1
    have hne : ds.length ≠ 0:=fun h => hnil (List.eq_nil_of_length_eq_zero h)
    have hdl:=HL.out.dl
    clear hc1 hnil HL
    go_wp2_with fail
    go_loopw [9] (fun i wr => ∃ j : Nat,j <= ds.length /\ i = .int .i64 j /\ (∀ i (hi : i < ds.length),i < j -> wdFit ⟨m,d,-(k - d + 1),v,(d - 1) / 7 + 1,-((k - d) / 7 + 1)⟩ ds[i] = false) /\ Below wc.heap.size wc wr) (fun i _ => ds.length - (intOf i).toNat)
    case atStart => exact ⟨0,Nat.zero_le _,rfl,fun i hi h => absurd h (Nat.not_lt_zero _),start _⟩
    case round =>
     obtain ⟨j,hj,rfl,heq,hbw⟩:=hrel
     have HE:=hide heq
     clear heq
     replace s4:=cell_keep hbw s4
     replace c2:=cell_keep hbw c2
     by_cases hlt : j < ds.length
     ·have p1 : wr.cell? ⟨b1,o1 + j * 2,none⟩ = some (.int .i64 ds[j].1):=(hbw.cell (p:=⟨b1,_,none⟩) hb1).trans (HC1.out j hlt).1
      have p2 : wr.cell? ⟨b1,o1 + j * 2 + 1,none⟩ = some (.int .i64 ds[j].2):=(hbw.cell (p:=⟨b1,_,none⟩) hb1).trans (HC1.out j hlt).2
      have hi0 : (0 : Int) <= (j : Int):=by omega
      have hi1 : (j : Int) < (ds.length : Int):=by omega
      have hQ:=block_lt_of_cell c2
      have hwd:=wdFit_eq ⟨m,d,-(k - d + 1),v,(d - 1) / 7 + 1,-((k - d) / 7 + 1)⟩ ds[j].1 ds[j].2
      replace hwd : wdFit ⟨m,d,-(k - d + 1),v,(d - 1) / 7 + 1,-((k - d) / 7 + 1)⟩ ds[j] = ((ds[j].2 == v) && ((ds[j].1 == 0) || ((ds[j].1 == (d - 1) / 7 + 1) || (ds[j].1 == -((k - d) / 7 + 1))))):=hwd
      have HBC:=hide (hbw)
      clear hbw
      cases k1 : (ds[j].2 == v)
      ·rw [k1] at hwd
       have HWD:=hwd
       clear hwd
       have HN:=hide (none_step (wdFit ⟨m,d,-(k - d + 1),v,(d - 1) / 7 + 1,-((k - d) / 7 + 1)⟩) ds j hlt HE.out HWD)
       clear HWD
       have HX:=hide (more HBC.out (.cells #[.int .i64 ds[j].1,.int .i64 ds[j].2] 115))
       go_wp2_with fail
       go_roundw
       case rel => exact ⟨j + 1,by omega,by go_num,HN.out,HX.out⟩
       case measure => simp [intOf]; omega
      cases k2 : (ds[j].1 == 0)
      case true =>
       rw [k1,k2] at hwd
       have HWD:=hwd
       clear hwd
       have HN:=hide (show emptyOr (wdFit ⟨m,d,-(k - d + 1),v,(d - 1) / 7 + 1,-((k - d) / 7 + 1)⟩) ds = true by unfold emptyOr; rw [any_at _ ds j hlt HWD]; exact Bool.or_true _)
       clear HWD
       have HX:=hide (more HBC.out (.cells #[.int .i64 ds[j].1,.int .i64 ds[j].2] 115))
       go_wp2_with fail
       go_ret
       exact ⟨ret_bool (by rw [e9.out,HN.out]),andthen HBX.out HX.out⟩
      cases k3 : (ds[j].1 == (d - 1) / 7 + 1)
      case true =>
       rw [k1,k2,k3] at hwd
       have HWD:=hwd
       clear hwd
       have HN:=hide (show emptyOr (wdFit ⟨m,d,-(k - d + 1),v,(d - 1) / 7 + 1,-((k - d) / 7 + 1)⟩) ds = true by unfold emptyOr; rw [any_at _ ds j hlt HWD]; exact Bool.or_true _)
       clear HWD
       have HX:=hide (more HBC.out (.cells #[.int .i64 ds[j].1,.int .i64 ds[j].2] 115))
       go_wp2_with fail
       go_ret
       exact ⟨ret_bool (by rw [e9.out,HN.out]),andthen HBX.out HX.out⟩
      cases k4 : (ds[j].1 == -((k - d) / 7 + 1))
      case true =>
       rw [k1,k2,k3,k4] at hwd
       have HWD:=hwd
       clear hwd
       have HN:=hide (show emptyOr (wdFit ⟨m,d,-(k - d + 1),v,(d - 1) / 7 + 1,-((k - d) / 7 + 1)⟩) ds = true by unfold emptyOr; rw [any_at _ ds j hlt HWD]; exact Bool.or_true _)
       clear HWD
       have HX:=hide (more HBC.out (.cells #[.int .i64 ds[j].1,.int .i64 ds[j].2] 115))
       go_wp2_with fail
       go_ret
       exact ⟨ret_bool (by rw [e9.out,HN.out]),andthen HBX.out HX.out⟩
      ·rw [k1,k2,k3,k4] at hwd
       have HWD:=hwd
       clear hwd
       have HN:=hide (none_step (wdFit ⟨m,d,-(k - d + 1),v,(d - 1) / 7 + 1,-((k - d) / 7 + 1)⟩) ds j hlt HE.out HWD)
       clear HWD
       have HX:=hide (more HBC.out (.cells #[.int .i64 ds[j].1,.int .i64 ds[j].2] 115))
       go_wp2_with fail
       go_roundw
       case rel => exact ⟨j + 1,by omega,by go_num,HN.out,HX.out⟩
       case measure => simp [intOf]; omega
     ·obtain rfl : j = ds.length:=by omega
      have HF:=hide (show emptyOr (wdFit ⟨m,d,-(k - d + 1),v,(d - 1) / 7 + 1,-((k - d) / 7 + 1)⟩) ds = false by unfold emptyOr; rw [any_end (wdFit ⟨m,d,-(k - d + 1),v,(d - 1) / 7 + 1,-((k - d) / 7 + 1)⟩) ds ds.length rfl HE.out,decide_eq_false hne]; rfl)
      have g9 : ((ds.length : Int) == 0) = false:=by rw [beq_eq_false_iff_ne]; omega
      have g8 : (ds.length == 0) = false:=by rw [beq_eq_false_iff_ne]; exact hne
      have HBC:=hide hbw
      clear hbw
      go_wp2_with fail
      go_ret
      exact ⟨ret_bool (by rw [e9.out,HF.out]),andthen HBX.out HBC.out⟩
  ·have e9:=hide (show fitsB ⟨fr,ev,ct,un,ds,ms,ys⟩ day = false by
    rw [HFIT.out]; unfold admB
    rw [hb] at hCB
    have h3:=congrArg (! ·) hCB
    simp only [Bool.not_true,Bool.not_not] at h3
    rw [<- Bool.and_assoc,<- h3]; rfl)
   clear hCB hb hde s4 c2 HL
   go_wp2_with fail
   go_ret
   exact ⟨ret_bool (by rw [e9.out]),HBX.out⟩
theorem fits_any (fr ev ct un : Int) (D M Y : Option Addr) (dn dc mn mc yn yc : Nat) (ds : List Wd) (ms ys : List Int) (day : Int) (w : World) (h : Lies w D dn M mn Y yn ds ms ys) :
  Calls Tryz.prog 120 #[.agg #[.int .i64 fr,.int .i64 ev,.int .i64 ct,.int .i64 un,.slice D dn dc,.slice M mn mc,.slice Y yn yc],.int .i64 day] w (Ans w (.bool (fitsB ⟨fr,ev,ct,un,ds,ms,ys⟩ day))):=by
 cases hd : dayB day
 ·exact fits_no fr ev ct un D M Y dn dc mn mc yn yc ds ms ys day w hd
 ·have h12:=dayB_yes day hd
  cases hi : isB ⟨fr,ev,ct,un,ds,ms,ys⟩
  ·have e : fitsB ⟨fr,ev,ct,un,ds,ms,ys⟩ day = false:=by unfold fitsB; rw [hd,rec_isB _ hi]; rfl
   rw [e]
   exact fits_bad fr ev ct un D M Y dn dc mn mc yn yc ds ms ys day _ _ _ _ _ w h h12.1 h12.2 ⟨rfl,rfl,rfl,rfl,rfl⟩ false hi (fun hc => by cases hc)
  ·by_cases h0 : fr = 0
   ·have e : fitsB ⟨fr,ev,ct,un,ds,ms,ys⟩ day = false:=by unfold fitsB; rw [hd,rec_0 ⟨fr,ev,ct,un,ds,ms,ys⟩ h0]; rfl
    rw [e]
    exact fits_bad fr ev ct un D M Y dn dc mn mc yn yc ds ms ys day _ _ _ _ _ w h h12.1 h12.2 ⟨rfl,rfl,rfl,rfl,rfl⟩ true hi (fun _ => h0)
   ·have hb:=(Cal.isB_iff _ _ _).1 (Cal.of_is day h12.1 h12.2)
    have hb2:=Cal.dOf_bd day h12.1 h12.2
    have hk:=(Cal.dim_bd (Cal.yOf day) (Cal.mOf day)).2
    exact fits_good fr ev ct un D M Y dn dc mn mc yn yc ds ms ys day _ _ _ _ _ w h h12.1 h12.2 ⟨rfl,rfl,rfl,rfl,rfl⟩ hi h0 hb2.1 hb2.2 hb.2 hk
end Go.Proofs.YtgihekokbgggcaaGreat.R

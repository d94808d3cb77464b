/- Walk of the reference of layer 5: Of. Written by recipes/da6.py. -/
import Derived.Test.YtgihekokbgggcaaGreatZBDaF
import Derived.Test.YtgihekokbgggcaaGreatZBDaG
set_option maxHeartbeats 8000000
set_option maxRecDepth 1000000
namespace Go.Proofs.YtgihekokbgggcaaGreat.R
open Go.RowKit Rul Go.Sort
theorem filt_out (p : Int -> Bool) (a b : Int) (h : a <= b) (hp : p b = false) : (upto a (b + 1)).filter p = (upto a b).filter p:=by
 rw [filter_upto p a b h,hp]; simp
theorem filt_in (p : Int -> Bool) (a b : Int) (h : a <= b) (hp : p b = true) : (upto a (b + 1)).filter p = (upto a b).filter p ++ [b]:=by
 rw [filter_upto p a b h,hp]; simp
theorem period_is (fr ev ct un : Int) (D M Y : Option Addr) (dn dc mn mc yn yc : Nat) (ds : List Wd) (ms ys : List Int) (s k a b : Int) (q : Bool) (w : World) (h : Lies w D dn M mn Y yn ds ms ys) (ha : perA ⟨fr,ev,ct,un,ds,ms,ys⟩ s k = a) (hb : perB ⟨fr,ev,ct,un,ds,ms,ys⟩ s k = b) (hq : perK ⟨fr,ev,ct,un,ds,ms,ys⟩ s k = q) :
  Calls Tryz.prog 89 #[.agg #[.int .i64 fr,.int .i64 ev,.int .i64 ct,.int .i64 un,.slice D dn dc,.slice M mn mc,.slice Y yn yc],.int .i64 s,.int .i64 k] w (Ans w (.tuple #[.int .i64 a,.int .i64 b,.bool q])):=by
 subst ha hb hq; exact period_any fr ev ct un D M Y dn dc mn mc yn yc ds ms ys s k w h
theorem daysL_ref (r : Rul.T) (s k : Int) (h : perK r s k = true) : daysL r s k = (upto (perA r s k) (perB r s k)).filter (refB r s):=by
 obtain ⟨⟨h1,h2⟩,hr,_,_⟩:=(perK_iff _ _ _).1 h
 rw [daysL_yes r s k h,show ofB r s = refB r s from funext fun d => (refB_eq r s d hr h1 h2).symm]
theorem of_any (fr ev ct un : Int) (D M Y : Option Addr) (dn dc mn mc yn yc : Nat) (ds : List Wd) (ms ys : List Int) (s k : Int) (w : World) (h : Lies w D dn M mn Y yn ds ms ys) :
  Calls Tryz.prog 90 #[.agg #[.int .i64 fr,.int .i64 ev,.int .i64 ct,.int .i64 un,.slice D dn dc,.slice M mn mc,.slice Y yn yc],.int .i64 s,.int .i64 k] w (GivesI w (daysL ⟨fr,ev,ct,un,ds,ms,ys⟩ s k)):=by
 have HBX:=hide (more (start w) (.cells #[.int .i64 fr,.int .i64 ev,.int .i64 ct,.int .i64 un,.slice D dn dc,.slice M mn mc,.slice Y yn yc] 39))
 have HL:=hide (h.keep HBX.out)
 have hAC : ∀ i v,(#[.int .i64 fr,.int .i64 ev,.int .i64 ct,.int .i64 un,.slice D dn dc,.slice M mn mc,.slice Y yn yc] : Array Value)[i]? = some v -> (w.alloc (.cells #[.int .i64 fr,.int .i64 ev,.int .i64 ct,.int .i64 un,.slice D dn dc,.slice M mn mc,.slice Y yn yc] 39)).cell? ⟨w.heap.size,i,none⟩ = some v:=fun i v h => by rw [World.cell?_alloc_at _ _ _ _ rfl]; exact h
 have s0:=hAC 0 _ rfl
 have s1:=hAC 1 _ rfl
 have s2:=hAC 2 _ rfl
 have s3:=hAC 3 _ rfl
 have s4:=hAC 4 _ rfl
 have s5:=hAC 5 _ rfl
 have s6:=hAC 6 _ rfl
 clear hAC
 have QL:=hide (And.intro h.dn (And.intro h.mn h.yn))
 clear h
 cases hq : perK ⟨fr,ev,ct,un,ds,ms,ys⟩ s k
 ·have HE:=hide (daysL_no _ _ _ hq)
  have HQ:=hide hq
  clear hq
  go_enter Tryz.func90,Tryz.ntmps90
  go_wp2_with fail
  refine (period_is fr ev ct un D M Y dn dc mn mc yn yc ds ms ys s k _ _ _ _ HL.out rfl rfl HQ.out).mono ?_
  rintro e u1 ⟨rfl,hb⟩
  replace HBX:=hide (andthen HBX.out hb)
  replace HL:=hide (HL.out.keep hb)
  replace s0:=cell_keep hb s0
  replace s1:=cell_keep hb s1
  replace s2:=cell_keep hb s2
  replace s3:=cell_keep hb s3
  replace s4:=cell_keep hb s4
  replace s5:=cell_keep hb s5
  replace s6:=cell_keep hb s6
  clear hb
  go_wp2_with fail
  go_ret
  exact ⟨_,rfl,by rw [HE.out]; exact ownI_nil _ _,HBX.out⟩
 ·have HE:=hide (daysL_ref _ _ _ hq)
  have hb:=per_bd _ _ _ hq
  obtain ⟨⟨h1,h2⟩,hr,_,_⟩:=(perK_iff _ _ _).1 hq
  have fb:=recB_fr ⟨fr,ev,ct,un,ds,ms,ys⟩ hr
  obtain ⟨a,ha⟩ : ∃ a,perA ⟨fr,ev,ct,un,ds,ms,ys⟩ s k = a:=⟨_,rfl⟩
  obtain ⟨b,hbb⟩ : ∃ b,perB ⟨fr,ev,ct,un,ds,ms,ys⟩ s k = b:=⟨_,rfl⟩
  rw [ha,hbb] at hb HE
  have hab : 0 <= a /\ a <= b /\ b <= 36525:=by omega
  have HP:=hide (And.intro ha (And.intro hbb hq))
  obtain ⟨y,hy⟩ : ∃ y,Cal.yOf s = y:=⟨_,rfl⟩
  obtain ⟨m,hm⟩ : ∃ m,Cal.mOf s = m:=⟨_,rfl⟩
  obtain ⟨d,hd⟩ : ∃ d,Cal.dOf s = d:=⟨_,rfl⟩
  obtain ⟨v,hv⟩ : ∃ v,Cal.wday s = v:=⟨_,rfl⟩
  have HD:=hide (And.intro hy (And.intro hm hd))
  have HW:=hide hv
  clear hq ha hbb hb hr hy hm hd hv
  go_enter Tryz.func90,Tryz.ntmps90
  go_wp2_with fail
  generalize (w.alloc (.cells #[.int .i64 fr,.int .i64 ev,.int .i64 ct,.int .i64 un,.slice D dn dc,.slice M mn mc,.slice Y yn yc] 39)) = W at *
  refine (period_is fr ev ct un D M Y dn dc mn mc yn yc ds ms ys s k _ _ _ _ HL.out HP.out.1 HP.out.2.1 HP.out.2.2).mono ?_
  rintro e u1 ⟨rfl,hb⟩
  replace HBX:=hide (andthen HBX.out hb)
  replace HL:=hide (HL.out.keep hb)
  replace s0:=cell_keep hb s0
  replace s1:=cell_keep hb s1
  replace s2:=cell_keep hb s2
  replace s3:=cell_keep hb s3
  replace s4:=cell_keep hb s4
  replace s5:=cell_keep hb s5
  replace s6:=cell_keep hb s6
  clear hb
  go_wp2_with fail
  refine (rdate_is s y m d _ h1 h2 HD.out.1 HD.out.2.1 HD.out.2.2).mono ?_
  rintro e u2 ⟨rfl,hb⟩
  replace HBX:=hide (andthen HBX.out hb)
  replace HL:=hide (HL.out.keep hb)
  replace s0:=cell_keep hb s0
  replace s1:=cell_keep hb s1
  replace s2:=cell_keep hb s2
  replace s3:=cell_keep hb s3
  replace s4:=cell_keep hb s4
  replace s5:=cell_keep hb s5
  replace s6:=cell_keep hb s6
  clear hb
  have hb:=more (start u2) (.cells #[.int .i64 y,.int .i64 m,.int .i64 d] 110)
  replace HBX:=hide (andthen HBX.out hb)
  replace HL:=hide (HL.out.keep hb)
  replace s0:=cell_keep hb s0
  replace s1:=cell_keep hb s1
  replace s2:=cell_keep hb s2
  replace s3:=cell_keep hb s3
  replace s4:=cell_keep hb s4
  replace s5:=cell_keep hb s5
  replace s6:=cell_keep hb s6
  clear hb
  have e0 : (u2.alloc (.cells #[.int .i64 y,.int .i64 m,.int .i64 d] 110)).cell? ⟨u2.heap.size,0,none⟩ = some (.int .i64 y):=by rw [World.cell?_alloc_at _ _ _ _ rfl]; rfl
  have e1 : (u2.alloc (.cells #[.int .i64 y,.int .i64 m,.int .i64 d] 110)).cell? ⟨u2.heap.size,1,none⟩ = some (.int .i64 m):=by rw [World.cell?_alloc_at _ _ _ _ rfl]; rfl
  have e2 : (u2.alloc (.cells #[.int .i64 y,.int .i64 m,.int .i64 d] 110)).cell? ⟨u2.heap.size,2,none⟩ = some (.int .i64 d):=by rw [World.cell?_alloc_at _ _ _ _ rfl]; rfl
  go_wp2_with fail
  generalize (u2.alloc (.cells #[.int .i64 y,.int .i64 m,.int .i64 d] 110)) = U at *
  generalize u2.heap.size = XE at *
  go_loopw [12,13,14,15,16,17] (fun v i _ _ _ _ wr => ∃ day : Int,a <= day /\ day <= b /\ i = .int .i64 day /\ OwnI wr U.heap.size v ((upto a day).filter (refB ⟨fr,ev,ct,un,ds,ms,ys⟩ s)) /\ Below U.heap.size U wr) (fun _ i _ _ _ _ _ => (b - intOf i).toNat)
  case atStart => exact ⟨a,Int.le_refl _,hab.2.1,rfl,by rw [upto_nil]; exact ownI_nil _ _,start _⟩
  case round =>
   obtain ⟨day,da,db,rfl,hown,hbw⟩:=hrel
   have HO:=hide hown
   have HBR:=hide hbw
   clear hown hbw
   by_cases hlt : day < b
   ·have hday : 0 <= day /\ day < 36525:=by omega
    obtain ⟨y2,hy2⟩ : ∃ y,Cal.yOf day = y:=⟨_,rfl⟩
    obtain ⟨m2,hm2⟩ : ∃ m,Cal.mOf day = m:=⟨_,rfl⟩
    obtain ⟨d2,hd2⟩ : ∃ d,Cal.dOf day = d:=⟨_,rfl⟩
    obtain ⟨v2,hv2⟩ : ∃ v,Cal.wday day = v:=⟨_,rfl⟩
    have HD2:=hide (And.intro hy2 (And.intro hm2 hd2))
    have HW2:=hide hv2
    clear hy2 hm2 hd2 hv2
    replace HL:=hide (HL.out.keep HBR.out)
    replace s0:=cell_keep HBR.out s0
    replace s1:=cell_keep HBR.out s1
    replace s2:=cell_keep HBR.out s2
    replace s3:=cell_keep HBR.out s3
    replace s4:=cell_keep HBR.out s4
    replace s5:=cell_keep HBR.out s5
    replace s6:=cell_keep HBR.out s6
    replace e0:=cell_keep HBR.out e0
    replace e1:=cell_keep HBR.out e1
    replace e2:=cell_keep HBR.out e2
    rcases fr_cases fr fb.1 fb.2 with e | e | e | e
    ·have f2 : (fr == 2) = false:=by rw [e]; rfl
     have f3 : (fr == 3) = false:=by rw [e]; rfl
     have f4 : (fr == 4) = false:=by rw [e]; rfl
     have EE:=hide e
     clear e
     rcases Nat.eq_zero_or_pos dn with cd | cd
     ·have gd : (((dn : Nat) : Int) == 0) = true:=by rw [beq_iff_eq]; omega
      have jd : (dn == 0) = true:=by rw [beq_iff_eq]; omega
      have ld : Hid (ds = []):=hide <| by exact List.eq_nil_of_length_eq_zero (by have:=QL.out.1; omega)
      have nd : dn <= 0:=by omega
      clear cd
      cases hf : fitsB ⟨fr,ev,ct,un,ds,ms,ys⟩ day
      ·have HN:=hide (filt_out (refB ⟨fr,ev,ct,un,ds,ms,ys⟩ s) a day da (by unfold refB; simp only [hf]; simp [EE.out]))
       have HF:=hide hf
       clear hf
       go_wp2_with fail
       refine (rdate_is day y2 m2 d2 _ hday.1 hday.2 HD2.out.1 HD2.out.2.1 HD2.out.2.2).mono ?_
       rintro e u1 ⟨rfl,hb⟩
       replace HBR:=hide (andthen HBR.out hb)
       replace HO:=hide (HO.out.keep hb)
       replace HL:=hide (HL.out.keep hb)
       replace s0:=cell_keep hb s0
       replace s1:=cell_keep hb s1
       replace s2:=cell_keep hb s2
       replace s3:=cell_keep hb s3
       replace s4:=cell_keep hb s4
       replace s5:=cell_keep hb s5
       replace s6:=cell_keep hb s6
       replace e0:=cell_keep hb e0
       replace e1:=cell_keep hb e1
       replace e2:=cell_keep hb e2
       clear hb
       have hb:=more (start u1) (.cells #[.int .i64 y2,.int .i64 m2,.int .i64 d2] 110)
       replace HBR:=hide (andthen HBR.out hb)
       replace HO:=hide (HO.out.keep hb)
       replace HL:=hide (HL.out.keep hb)
       replace s0:=cell_keep hb s0
       replace s1:=cell_keep hb s1
       replace s2:=cell_keep hb s2
       replace s3:=cell_keep hb s3
       replace s4:=cell_keep hb s4
       replace s5:=cell_keep hb s5
       replace s6:=cell_keep hb s6
       replace e0:=cell_keep hb e0
       replace e1:=cell_keep hb e1
       replace e2:=cell_keep hb e2
       clear hb
       have t0 : (u1.alloc (.cells #[.int .i64 y2,.int .i64 m2,.int .i64 d2] 110)).cell? ⟨u1.heap.size,0,none⟩ = some (.int .i64 y2):=by rw [World.cell?_alloc_at _ _ _ _ rfl]; rfl
       have t1 : (u1.alloc (.cells #[.int .i64 y2,.int .i64 m2,.int .i64 d2] 110)).cell? ⟨u1.heap.size,1,none⟩ = some (.int .i64 m2):=by rw [World.cell?_alloc_at _ _ _ _ rfl]; rfl
       have t2 : (u1.alloc (.cells #[.int .i64 y2,.int .i64 m2,.int .i64 d2] 110)).cell? ⟨u1.heap.size,2,none⟩ = some (.int .i64 d2):=by rw [World.cell?_alloc_at _ _ _ _ rfl]; rfl
       go_wp2_with fail
       generalize (u1.alloc (.cells #[.int .i64 y2,.int .i64 m2,.int .i64 d2] 110)) = V at *
       generalize u1.heap.size = XD at *
       refine (ans_is (fits_any fr ev ct un D M Y dn dc mn mc yn yc ds ms ys day _ HL.out) HF.out).mono ?_
       rintro e u2 ⟨rfl,hb⟩
       replace HBR:=hide (andthen HBR.out hb)
       replace HO:=hide (HO.out.keep hb)
       replace s0:=cell_keep hb s0
       replace s1:=cell_keep hb s1
       replace s2:=cell_keep hb s2
       replace s3:=cell_keep hb s3
       replace s4:=cell_keep hb s4
       replace s5:=cell_keep hb s5
       replace s6:=cell_keep hb s6
       replace e0:=cell_keep hb e0
       replace e1:=cell_keep hb e1
       replace e2:=cell_keep hb e2
       replace t0:=cell_keep hb t0
       replace t1:=cell_keep hb t1
       replace t2:=cell_keep hb t2
       clear hb
       go_wp2_with fail
       go_roundw
       case rel => exact ⟨day + 1,by omega,by omega,by go_num,by rw [HN.out]; exact HO.out,HBR.out⟩
       case measure => simp [intOf]; omega
      ·have HN:=hide (filt_in (refB ⟨fr,ev,ct,un,ds,ms,ys⟩ s) a day da (by unfold refB; simp only [hf]; simp [EE.out]))
       have HF:=hide hf
       clear hf
       go_wp2_with fail
       refine (rdate_is day y2 m2 d2 _ hday.1 hday.2 HD2.out.1 HD2.out.2.1 HD2.out.2.2).mono ?_
       rintro e u1 ⟨rfl,hb⟩
       replace HBR:=hide (andthen HBR.out hb)
       replace HO:=hide (HO.out.keep hb)
       replace HL:=hide (HL.out.keep hb)
       replace s0:=cell_keep hb s0
       replace s1:=cell_keep hb s1
       replace s2:=cell_keep hb s2
       replace s3:=cell_keep hb s3
       replace s4:=cell_keep hb s4
       replace s5:=cell_keep hb s5
       replace s6:=cell_keep hb s6
       replace e0:=cell_keep hb e0
       replace e1:=cell_keep hb e1
       replace e2:=cell_keep hb e2
       clear hb
       have hb:=more (start u1) (.cells #[.int .i64 y2,.int .i64 m2,.int .i64 d2] 110)
       replace HBR:=hide (andthen HBR.out hb)
       replace HO:=hide (HO.out.keep hb)
       replace HL:=hide (HL.out.keep hb)
       replace s0:=cell_keep hb s0
       replace s1:=cell_keep hb s1
       replace s2:=cell_keep hb s2
       replace s3:=cell_keep hb s3
       replace s4:=cell_keep hb s4
       replace s5:=cell_keep hb s5
       replace s6:=cell_keep hb s6
       replace e0:=cell_keep hb e0
       replace e1:=cell_keep hb e1
       replace e2:=cell_keep hb e2
       clear hb
       have t0 : (u1.alloc (.cells #[.int .i64 y2,.int .i64 m2,.int .i64 d2] 110)).cell? ⟨u1.heap.size,0,none⟩ = some (.int .i64 y2):=by rw [World.cell?_alloc_at _ _ _ _ rfl]; rfl
       have t1 : (u1.alloc (.cells #[.int .i64 y2,.int .i64 m2,.int .i64 d2] 110)).cell? ⟨u1.heap.size,1,none⟩ = some (.int .i64 m2):=by rw [World.cell?_alloc_at _ _ _ _ rfl]; rfl
       have t2 : (u1.alloc (.cells #[.int .i64 y2,.int .i64 m2,.int .i64 d2] 110)).cell? ⟨u1.heap.size,2,none⟩ = some (.int .i64 d2):=by rw [World.cell?_alloc_at _ _ _ _ rfl]; rfl
       go_wp2_with fail
       generalize (u1.alloc (.cells #[.int .i64 y2,.int .i64 m2,.int .i64 d2] 110)) = V at *
       generalize u1.heap.size = XD at *
       refine (ans_is (fits_any fr ev ct un D M Y dn dc mn mc yn yc ds ms ys day _ HL.out) HF.out).mono ?_
       rintro e u2 ⟨rfl,hb⟩
       replace HBR:=hide (andthen HBR.out hb)
       replace HO:=hide (HO.out.keep hb)
       replace s0:=cell_keep hb s0
       replace s1:=cell_keep hb s1
       replace s2:=cell_keep hb s2
       replace s3:=cell_keep hb s3
       replace s4:=cell_keep hb s4
       replace s5:=cell_keep hb s5
       replace s6:=cell_keep hb s6
       replace e0:=cell_keep hb e0
       replace e1:=cell_keep hb e1
       replace e2:=cell_keep hb e2
       replace t0:=cell_keep hb t0
       replace t1:=cell_keep hb t1
       replace t2:=cell_keep hb t2
       clear hb
       have hsz:=HBR.out.size
       have hown:=HO.out
       have hlen : ((upto a day).filter (refB ⟨fr,ev,ct,un,ds,ms,ys⟩ s)).length <= 1000000:=Nat.le_trans (List.length_filter_le _ _) (by rw [upto_len]; omega)
       go_wp2_with (at_builtin; refine wp_oneI (l:=(upto a day).filter (refB ⟨fr,ev,ct,un,ds,ms,ys⟩ s)) (p:=day) rfl _ _ rfl rfl rfl rfl hown hsz hlen ?_; intro v1 w1 hown1 hb1)
       replace HO:=hide hown1
       replace HBR:=hide (HBR.out.trans hb1)
       clear hown hown1 hb1 hsz hlen
       go_wp2_with fail
       go_roundw
       case rel => exact ⟨day + 1,by omega,by omega,by go_num,by rw [HN.out]; exact HO.out,HBR.out⟩
       case measure => simp [intOf]; omega
     ·have gd : (((dn : Nat) : Int) == 0) = false:=by rw [beq_eq_false_iff_ne]; omega
      have jd : (dn == 0) = false:=by rw [beq_eq_false_iff_ne]; omega
      have ld : Hid (ds ≠ [] /\ 0 < ds.length):=hide <| by refine ⟨?_,by have:=QL.out.1; omega⟩; intro hc; have q:=QL.out.1; rw [hc] at q; simp at q; omega
      cases hf : fitsB ⟨fr,ev,ct,un,ds,ms,ys⟩ day
      ·have HN:=hide (filt_out (refB ⟨fr,ev,ct,un,ds,ms,ys⟩ s) a day da (by unfold refB; simp only [hf]; simp [EE.out]))
       have HF:=hide hf
       clear hf
       go_wp2_with fail
       refine (rdate_is day y2 m2 d2 _ hday.1 hday.2 HD2.out.1 HD2.out.2.1 HD2.out.2.2).mono ?_
       rintro e u1 ⟨rfl,hb⟩
       replace HBR:=hide (andthen HBR.out hb)
       replace HO:=hide (HO.out.keep hb)
       replace HL:=hide (HL.out.keep hb)
       replace s0:=cell_keep hb s0
       replace s1:=cell_keep hb s1
       replace s2:=cell_keep hb s2
       replace s3:=cell_keep hb s3
       replace s4:=cell_keep hb s4
       replace s5:=cell_keep hb s5
       replace s6:=cell_keep hb s6
       replace e0:=cell_keep hb e0
       replace e1:=cell_keep hb e1
       replace e2:=cell_keep hb e2
       clear hb
       have hb:=more (start u1) (.cells #[.int .i64 y2,.int .i64 m2,.int .i64 d2] 110)
       replace HBR:=hide (andthen HBR.out hb)
       replace HO:=hide (HO.out.keep hb)
       replace HL:=hide (HL.out.keep hb)
       replace s0:=cell_keep hb s0
       replace s1:=cell_keep hb s1
       replace s2:=cell_keep hb s2
       replace s3:=cell_keep hb s3
       replace s4:=cell_keep hb s4
       replace s5:=cell_keep hb s5
       replace s6:=cell_keep hb s6
       replace e0:=cell_keep hb e0
       replace e1:=cell_keep hb e1
       replace e2:=cell_keep hb e2
       clear hb
       have t0 : (u1.alloc (.cells #[.int .i64 y2,.int .i64 m2,.int .i64 d2] 110)).cell? ⟨u1.heap.size,0,none⟩ = some (.int .i64 y2):=by rw [World.cell?_alloc_at _ _ _ _ rfl]; rfl
       have t1 : (u1.alloc (.cells #[.int .i64 y2,.int .i64 m2,.int .i64 d2] 110)).cell? ⟨u1.heap.size,1,none⟩ = some (.int .i64 m2):=by rw [World.cell?_alloc_at _ _ _ _ rfl]; rfl
       have t2 : (u1.alloc (.cells #[.int .i64 y2,.int .i64 m2,.int .i64 d2] 110)).cell? ⟨u1.heap.size,2,none⟩ = some (.int .i64 d2):=by rw [World.cell?_alloc_at _ _ _ _ rfl]; rfl
       go_wp2_with fail
       generalize (u1.alloc (.cells #[.int .i64 y2,.int .i64 m2,.int .i64 d2] 110)) = V at *
       generalize u1.heap.size = XD at *
       refine (ans_is (fits_any fr ev ct un D M Y dn dc mn mc yn yc ds ms ys day _ HL.out) HF.out).mono ?_
       rintro e u2 ⟨rfl,hb⟩
       replace HBR:=hide (andthen HBR.out hb)
       replace HO:=hide (HO.out.keep hb)
       replace s0:=cell_keep hb s0
       replace s1:=cell_keep hb s1
       replace s2:=cell_keep hb s2
       replace s3:=cell_keep hb s3
       replace s4:=cell_keep hb s4
       replace s5:=cell_keep hb s5
       replace s6:=cell_keep hb s6
       replace e0:=cell_keep hb e0
       replace e1:=cell_keep hb e1
       replace e2:=cell_keep hb e2
       replace t0:=cell_keep hb t0
       replace t1:=cell_keep hb t1
       replace t2:=cell_keep hb t2
       clear hb
       go_wp2_with fail
       go_roundw
       case rel => exact ⟨day + 1,by omega,by omega,by go_num,by rw [HN.out]; exact HO.out,HBR.out⟩
       case measure => simp [intOf]; omega
      ·have HN:=hide (filt_in (refB ⟨fr,ev,ct,un,ds,ms,ys⟩ s) a day da (by unfold refB; simp only [hf]; simp [EE.out]))
       have HF:=hide hf
       clear hf
       go_wp2_with fail
       refine (rdate_is day y2 m2 d2 _ hday.1 hday.2 HD2.out.1 HD2.out.2.1 HD2.out.2.2).mono ?_
       rintro e u1 ⟨rfl,hb⟩
       replace HBR:=hide (andthen HBR.out hb)
       replace HO:=hide (HO.out.keep hb)
       replace HL:=hide (HL.out.keep hb)
       replace s0:=cell_keep hb s0
       replace s1:=cell_keep hb s1
       replace s2:=cell_keep hb s2
       replace s3:=cell_keep hb s3
       replace s4:=cell_keep hb s4
       replace s5:=cell_keep hb s5
       replace s6:=cell_keep hb s6
       replace e0:=cell_keep hb e0
       replace e1:=cell_keep hb e1
       replace e2:=cell_keep hb e2
       clear hb
       have hb:=more (start u1) (.cells #[.int .i64 y2,.int .i64 m2,.int .i64 d2] 110)
       replace HBR:=hide (andthen HBR.out hb)
       replace HO:=hide (HO.out.keep hb)
       replace HL:=hide (HL.out.keep hb)
       replace s0:=cell_keep hb s0
       replace s1:=cell_keep hb s1
       replace s2:=cell_keep hb s2
       replace s3:=cell_keep hb s3
       replace s4:=cell_keep hb s4
       replace s5:=cell_keep hb s5
       replace s6:=cell_keep hb s6
       replace e0:=cell_keep hb e0
       replace e1:=cell_keep hb e1
       replace e2:=cell_keep hb e2
       clear hb
       have t0 : (u1.alloc (.cells #[.int .i64 y2,.int .i64 m2,.int .i64 d2] 110)).cell? ⟨u1.heap.size,0,none⟩ = some (.int .i64 y2):=by rw [World.cell?_alloc_at _ _ _ _ rfl]; rfl
       have t1 : (u1.alloc (.cells #[.int .i64 y2,.int .i64 m2,.int .i64 d2] 110)).cell? ⟨u1.heap.size,1,none⟩ = some (.int .i64 m2):=by rw [World.cell?_alloc_at _ _ _ _ rfl]; rfl
       have t2 : (u1.alloc (.cells #[.int .i64 y2,.int .i64 m2,.int .i64 d2] 110)).cell? ⟨u1.heap.size,2,none⟩ = some (.int .i64 d2):=by rw [World.cell?_alloc_at _ _ _ _ rfl]; rfl
       go_wp2_with fail
       generalize (u1.alloc (.cells #[.int .i64 y2,.int .i64 m2,.int .i64 d2] 110)) = V at *
       generalize u1.heap.size = XD at *
       refine (ans_is (fits_any fr ev ct un D M Y dn dc mn mc yn yc ds ms ys day _ HL.out) HF.out).mono ?_
       rintro e u2 ⟨rfl,hb⟩
       replace HBR:=hide (andthen HBR.out hb)
       replace HO:=hide (HO.out.keep hb)
       replace s0:=cell_keep hb s0
       replace s1:=cell_keep hb s1
       replace s2:=cell_keep hb s2
       replace s3:=cell_keep hb s3
       replace s4:=cell_keep hb s4
       replace s5:=cell_keep hb s5
       replace s6:=cell_keep hb s6
       replace e0:=cell_keep hb e0
       replace e1:=cell_keep hb e1
       replace e2:=cell_keep hb e2
       replace t0:=cell_keep hb t0
       replace t1:=cell_keep hb t1
       replace t2:=cell_keep hb t2
       clear hb
       have hsz:=HBR.out.size
       have hown:=HO.out
       have hlen : ((upto a day).filter (refB ⟨fr,ev,ct,un,ds,ms,ys⟩ s)).length <= 1000000:=Nat.le_trans (List.length_filter_le _ _) (by rw [upto_len]; omega)
       go_wp2_with (at_builtin; refine wp_oneI (l:=(upto a day).filter (refB ⟨fr,ev,ct,un,ds,ms,ys⟩ s)) (p:=day) rfl _ _ rfl rfl rfl rfl hown hsz hlen ?_; intro v1 w1 hown1 hb1)
       replace HO:=hide hown1
       replace HBR:=hide (HBR.out.trans hb1)
       clear hown hown1 hb1 hsz hlen
       go_wp2_with fail
       go_roundw
       case rel => exact ⟨day + 1,by omega,by omega,by go_num,by rw [HN.out]; exact HO.out,HBR.out⟩
       case measure => simp [intOf]; omega
    ·have f2 : (fr == 2) = true:=by rw [e]; rfl
     have f3 : (fr == 3) = false:=by rw [e]; rfl
     have f4 : (fr == 4) = false:=by rw [e]; rfl
     have EE:=hide e
     clear e
     rcases Nat.eq_zero_or_pos dn with cd | cd
     ·have gd : (((dn : Nat) : Int) == 0) = true:=by rw [beq_iff_eq]; omega
      have jd : (dn == 0) = true:=by rw [beq_iff_eq]; omega
      have ld : Hid (ds = []):=hide <| by exact List.eq_nil_of_length_eq_zero (by have:=QL.out.1; omega)
      have nd : dn <= 0:=by omega
      clear cd
      cases hf : fitsB ⟨fr,ev,ct,un,ds,ms,ys⟩ day
      ·have HN:=hide (filt_out (refB ⟨fr,ev,ct,un,ds,ms,ys⟩ s) a day da (by unfold refB; simp only [hf]; simp [EE.out]))
       have HF:=hide hf
       clear hf
       go_wp2_with fail
       refine (rdate_is day y2 m2 d2 _ hday.1 hday.2 HD2.out.1 HD2.out.2.1 HD2.out.2.2).mono ?_
       rintro e u1 ⟨rfl,hb⟩
       replace HBR:=hide (andthen HBR.out hb)
       replace HO:=hide (HO.out.keep hb)
       replace HL:=hide (HL.out.keep hb)
       replace s0:=cell_keep hb s0
       replace s1:=cell_keep hb s1
       replace s2:=cell_keep hb s2
       replace s3:=cell_keep hb s3
       replace s4:=cell_keep hb s4
       replace s5:=cell_keep hb s5
       replace s6:=cell_keep hb s6
       replace e0:=cell_keep hb e0
       replace e1:=cell_keep hb e1
       replace e2:=cell_keep hb e2
       clear hb
       have hb:=more (start u1) (.cells #[.int .i64 y2,.int .i64 m2,.int .i64 d2] 110)
       replace HBR:=hide (andthen HBR.out hb)
       replace HO:=hide (HO.out.keep hb)
       replace HL:=hide (HL.out.keep hb)
       replace s0:=cell_keep hb s0
       replace s1:=cell_keep hb s1
       replace s2:=cell_keep hb s2
       replace s3:=cell_keep hb s3
       replace s4:=cell_keep hb s4
       replace s5:=cell_keep hb s5
       replace s6:=cell_keep hb s6
       replace e0:=cell_keep hb e0
       replace e1:=cell_keep hb e1
       replace e2:=cell_keep hb e2
       clear hb
       have t0 : (u1.alloc (.cells #[.int .i64 y2,.int .i64 m2,.int .i64 d2] 110)).cell? ⟨u1.heap.size,0,none⟩ = some (.int .i64 y2):=by rw [World.cell?_alloc_at _ _ _ _ rfl]; rfl
       have t1 : (u1.alloc (.cells #[.int .i64 y2,.int .i64 m2,.int .i64 d2] 110)).cell? ⟨u1.heap.size,1,none⟩ = some (.int .i64 m2):=by rw [World.cell?_alloc_at _ _ _ _ rfl]; rfl
       have t2 : (u1.alloc (.cells #[.int .i64 y2,.int .i64 m2,.int .i64 d2] 110)).cell? ⟨u1.heap.size,2,none⟩ = some (.int .i64 d2):=by rw [World.cell?_alloc_at _ _ _ _ rfl]; rfl
       go_wp2_with fail
       generalize (u1.alloc (.cells #[.int .i64 y2,.int .i64 m2,.int .i64 d2] 110)) = V at *
       generalize u1.heap.size = XD at *
       refine (ans_is (fits_any fr ev ct un D M Y dn dc mn mc yn yc ds ms ys day _ HL.out) HF.out).mono ?_
       rintro e u2 ⟨rfl,hb⟩
       replace HBR:=hide (andthen HBR.out hb)
       replace HO:=hide (HO.out.keep hb)
       replace s0:=cell_keep hb s0
       replace s1:=cell_keep hb s1
       replace s2:=cell_keep hb s2
       replace s3:=cell_keep hb s3
       replace s4:=cell_keep hb s4
       replace s5:=cell_keep hb s5
       replace s6:=cell_keep hb s6
       replace e0:=cell_keep hb e0
       replace e1:=cell_keep hb e1
       replace e2:=cell_keep hb e2
       replace t0:=cell_keep hb t0
       replace t1:=cell_keep hb t1
       replace t2:=cell_keep hb t2
       clear hb
       go_wp2_with fail
       go_roundw
       case rel => exact ⟨day + 1,by omega,by omega,by go_num,by rw [HN.out]; exact HO.out,HBR.out⟩
       case measure => simp [intOf]; omega
      ·cases hw : (v2 == v)
       ·have HN:=hide (filt_out (refB ⟨fr,ev,ct,un,ds,ms,ys⟩ s) a day da (by unfold refB; simp only [hf]; simp [EE.out,ld.out,HW.out,HW2.out,hw]))
        have HF:=hide hf
        clear hf
        go_wp2_with fail
        refine (rdate_is day y2 m2 d2 _ hday.1 hday.2 HD2.out.1 HD2.out.2.1 HD2.out.2.2).mono ?_
        rintro e u1 ⟨rfl,hb⟩
        replace HBR:=hide (andthen HBR.out hb)
        replace HO:=hide (HO.out.keep hb)
        replace HL:=hide (HL.out.keep hb)
        replace s0:=cell_keep hb s0
        replace s1:=cell_keep hb s1
        replace s2:=cell_keep hb s2
        replace s3:=cell_keep hb s3
        replace s4:=cell_keep hb s4
        replace s5:=cell_keep hb s5
        replace s6:=cell_keep hb s6
        replace e0:=cell_keep hb e0
        replace e1:=cell_keep hb e1
        replace e2:=cell_keep hb e2
        clear hb
        have hb:=more (start u1) (.cells #[.int .i64 y2,.int .i64 m2,.int .i64 d2] 110)
        replace HBR:=hide (andthen HBR.out hb)
        replace HO:=hide (HO.out.keep hb)
        replace HL:=hide (HL.out.keep hb)
        replace s0:=cell_keep hb s0
        replace s1:=cell_keep hb s1
        replace s2:=cell_keep hb s2
        replace s3:=cell_keep hb s3
        replace s4:=cell_keep hb s4
        replace s5:=cell_keep hb s5
        replace s6:=cell_keep hb s6
        replace e0:=cell_keep hb e0
        replace e1:=cell_keep hb e1
        replace e2:=cell_keep hb e2
        clear hb
        have t0 : (u1.alloc (.cells #[.int .i64 y2,.int .i64 m2,.int .i64 d2] 110)).cell? ⟨u1.heap.size,0,none⟩ = some (.int .i64 y2):=by rw [World.cell?_alloc_at _ _ _ _ rfl]; rfl
        have t1 : (u1.alloc (.cells #[.int .i64 y2,.int .i64 m2,.int .i64 d2] 110)).cell? ⟨u1.heap.size,1,none⟩ = some (.int .i64 m2):=by rw [World.cell?_alloc_at _ _ _ _ rfl]; rfl
        have t2 : (u1.alloc (.cells #[.int .i64 y2,.int .i64 m2,.int .i64 d2] 110)).cell? ⟨u1.heap.size,2,none⟩ = some (.int .i64 d2):=by rw [World.cell?_alloc_at _ _ _ _ rfl]; rfl
        go_wp2_with fail
        generalize (u1.alloc (.cells #[.int .i64 y2,.int .i64 m2,.int .i64 d2] 110)) = V at *
        generalize u1.heap.size = XD at *
        refine (ans_is (fits_any fr ev ct un D M Y dn dc mn mc yn yc ds ms ys day _ HL.out) HF.out).mono ?_
        rintro e u2 ⟨rfl,hb⟩
        replace HBR:=hide (andthen HBR.out hb)
        replace HO:=hide (HO.out.keep hb)
        replace s0:=cell_keep hb s0
        replace s1:=cell_keep hb s1
        replace s2:=cell_keep hb s2
        replace s3:=cell_keep hb s3
        replace s4:=cell_keep hb s4
        replace s5:=cell_keep hb s5
        replace s6:=cell_keep hb s6
        replace e0:=cell_keep hb e0
        replace e1:=cell_keep hb e1
        replace e2:=cell_keep hb e2
        replace t0:=cell_keep hb t0
        replace t1:=cell_keep hb t1
        replace t2:=cell_keep hb t2
        clear hb
        go_wp2_with (go_at_call 118; first | ((with_reducible refine (rweekday_is day v2 _ HW2.out).mono ?_); rintro e u3 ⟨rfl,rfl⟩) | ((with_reducible refine (rweekday_is s v _ HW.out).mono ?_); rintro e u3 ⟨rfl,rfl⟩))
        go_roundw
        case rel => exact ⟨day + 1,by omega,by omega,by go_num,by rw [HN.out]; exact HO.out,HBR.out⟩
        case measure => simp [intOf]; omega
       ·have HN:=hide (filt_in (refB ⟨fr,ev,ct,un,ds,ms,ys⟩ s) a day da (by unfold refB; simp only [hf]; simp [EE.out,ld.out,HW.out,HW2.out,hw]))
        have HF:=hide hf
        clear hf
        go_wp2_with fail
        refine (rdate_is day y2 m2 d2 _ hday.1 hday.2 HD2.out.1 HD2.out.2.1 HD2.out.2.2).mono ?_
        rintro e u1 ⟨rfl,hb⟩
        replace HBR:=hide (andthen HBR.out hb)
        replace HO:=hide (HO.out.keep hb)
        replace HL:=hide (HL.out.keep hb)
        replace s0:=cell_keep hb s0
        replace s1:=cell_keep hb s1
        replace s2:=cell_keep hb s2
        replace s3:=cell_keep hb s3
        replace s4:=cell_keep hb s4
        replace s5:=cell_keep hb s5
        replace s6:=cell_keep hb s6
        replace e0:=cell_keep hb e0
        replace e1:=cell_keep hb e1
        replace e2:=cell_keep hb e2
        clear hb
        have hb:=more (start u1) (.cells #[.int .i64 y2,.int .i64 m2,.int .i64 d2] 110)
        replace HBR:=hide (andthen HBR.out hb)
        replace HO:=hide (HO.out.keep hb)
        replace HL:=hide (HL.out.keep hb)
        replace s0:=cell_keep hb s0
        replace s1:=cell_keep hb s1
        replace s2:=cell_keep hb s2
        replace s3:=cell_keep hb s3
        replace s4:=cell_keep hb s4
        replace s5:=cell_keep hb s5
        replace s6:=cell_keep hb s6
        replace e0:=cell_keep hb e0
        replace e1:=cell_keep hb e1
        replace e2:=cell_keep hb e2
        clear hb
        have t0 : (u1.alloc (.cells #[.int .i64 y2,.int .i64 m2,.int .i64 d2] 110)).cell? ⟨u1.heap.size,0,none⟩ = some (.int .i64 y2):=by rw [World.cell?_alloc_at _ _ _ _ rfl]; rfl
        have t1 : (u1.alloc (.cells #[.int .i64 y2,.int .i64 m2,.int .i64 d2] 110)).cell? ⟨u1.heap.size,1,none⟩ = some (.int .i64 m2):=by rw [World.cell?_alloc_at _ _ _ _ rfl]; rfl
        have t2 : (u1.alloc (.cells #[.int .i64 y2,.int .i64 m2,.int .i64 d2] 110)).cell? ⟨u1.heap.size,2,none⟩ = some (.int .i64 d2):=by rw [World.cell?_alloc_at _ _ _ _ rfl]; rfl
        go_wp2_with fail
        generalize (u1.alloc (.cells #[.int .i64 y2,.int .i64 m2,.int .i64 d2] 110)) = V at *
        generalize u1.heap.size = XD at *
        refine (ans_is (fits_any fr ev ct un D M Y dn dc mn mc yn yc ds ms ys day _ HL.out) HF.out).mono ?_
        rintro e u2 ⟨rfl,hb⟩
        replace HBR:=hide (andthen HBR.out hb)
        replace HO:=hide (HO.out.keep hb)
        replace s0:=cell_keep hb s0
        replace s1:=cell_keep hb s1
        replace s2:=cell_keep hb s2
        replace s3:=cell_keep hb s3
        replace s4:=cell_keep hb s4
        replace s5:=cell_keep hb s5
        replace s6:=cell_keep hb s6
        replace e0:=cell_keep hb e0
        replace e1:=cell_keep hb e1
        replace e2:=cell_keep hb e2
        replace t0:=cell_keep hb t0
        replace t1:=cell_keep hb t1
        replace t2:=cell_keep hb t2
        clear hb
        have hsz:=HBR.out.size
        have hown:=HO.out
        have hlen : ((upto a day).filter (refB ⟨fr,ev,ct,un,ds,ms,ys⟩ s)).length <= 1000000:=Nat.le_trans (List.length_filter_le _ _) (by rw [upto_len]; omega)
        go_wp2_with (first | (go_at_call 118; first | ((with_reducible refine (rweekday_is day v2 _ HW2.out).mono ?_); rintro e u3 ⟨rfl,rfl⟩) | ((with_reducible refine (rweekday_is s v _ HW.out).mono ?_); rintro e u3 ⟨rfl,rfl⟩)) | (at_builtin; refine wp_oneI (l:=(upto a day).filter (refB ⟨fr,ev,ct,un,ds,ms,ys⟩ s)) (p:=day) rfl _ _ rfl rfl rfl rfl hown hsz hlen ?_; intro v1 w1 hown1 hb1))
        replace HO:=hide hown1
        replace HBR:=hide (HBR.out.trans hb1)
        clear hown hown1 hb1 hsz hlen
        go_wp2_with fail
        go_roundw
        case rel => exact ⟨day + 1,by omega,by omega,by go_num,by rw [HN.out]; exact HO.out,HBR.out⟩
        case measure => simp [intOf]; omega
     ·have gd : (((dn : Nat) : Int) == 0) = false:=by rw [beq_eq_false_iff_ne]; omega
      have jd : (dn == 0) = false:=by rw [beq_eq_false_iff_ne]; omega
      have ld : Hid (ds ≠ [] /\ 0 < ds.length):=hide <| by refine ⟨?_,by have:=QL.out.1; omega⟩; intro hc; have q:=QL.out.1; rw [hc] at q; simp at q; omega
      cases hf : fitsB ⟨fr,ev,ct,un,ds,ms,ys⟩ day
      ·have HN:=hide (filt_out (refB ⟨fr,ev,ct,un,ds,ms,ys⟩ s) a day da (by unfold refB; simp only [hf]; simp [EE.out]))
       have HF:=hide hf
       clear hf
       go_wp2_with fail
       refine (rdate_is day y2 m2 d2 _ hday.1 hday.2 HD2.out.1 HD2.out.2.1 HD2.out.2.2).mono ?_
       rintro e u1 ⟨rfl,hb⟩
       replace HBR:=hide (andthen HBR.out hb)
       replace HO:=hide (HO.out.keep hb)
       replace HL:=hide (HL.out.keep hb)
       replace s0:=cell_keep hb s0
       replace s1:=cell_keep hb s1
       replace s2:=cell_keep hb s2
       replace s3:=cell_keep hb s3
       replace s4:=cell_keep hb s4
       replace s5:=cell_keep hb s5
       replace s6:=cell_keep hb s6
       replace e0:=cell_keep hb e0
       replace e1:=cell_keep hb e1
       replace e2:=cell_keep hb e2
       clear hb
       have hb:=more (start u1) (.cells #[.int .i64 y2,.int .i64 m2,.int .i64 d2] 110)
       replace HBR:=hide (andthen HBR.out hb)
       replace HO:=hide (HO.out.keep hb)
       replace HL:=hide (HL.out.keep hb)
       replace s0:=cell_keep hb s0
       replace s1:=cell_keep hb s1
       replace s2:=cell_keep hb s2
       replace s3:=cell_keep hb s3
       replace s4:=cell_keep hb s4
       replace s5:=cell_keep hb s5
       replace s6:=cell_keep hb s6
       replace e0:=cell_keep hb e0
       replace e1:=cell_keep hb e1
       replace e2:=cell_keep hb e2
       clear hb
       have t0 : (u1.alloc (.cells #[.int .i64 y2,.int .i64 m2,.int .i64 d2] 110)).cell? ⟨u1.heap.size,0,none⟩ = some (.int .i64 y2):=by rw [World.cell?_alloc_at _ _ _ _ rfl]; rfl
       have t1 : (u1.alloc (.cells #[.int .i64 y2,.int .i64 m2,.int .i64 d2] 110)).cell? ⟨u1.heap.size,1,none⟩ = some (.int .i64 m2):=by rw [World.cell?_alloc_at _ _ _ _ rfl]; rfl
       have t2 : (u1.alloc (.cells #[.int .i64 y2,.int .i64 m2,.int .i64 d2] 110)).cell? ⟨u1.heap.size,2,none⟩ = some (.int .i64 d2):=by rw [World.cell?_alloc_at _ _ _ _ rfl]; rfl
       go_wp2_with fail
       generalize (u1.alloc (.cells #[.int .i64 y2,.int .i64 m2,.int .i64 d2] 110)) = V at *
       generalize u1.heap.size = XD at *
       refine (ans_is (fits_any fr ev ct un D M Y dn dc mn mc yn yc ds ms ys day _ HL.out) HF.out).mono ?_
       rintro e u2 ⟨rfl,hb⟩
       replace HBR:=hide (andthen HBR.out hb)
       replace HO:=hide (HO.out.keep hb)
       replace s0:=cell_keep hb s0
       replace s1:=cell_keep hb s1
       replace s2:=cell_keep hb s2
       replace s3:=cell_keep hb s3
       replace s4:=cell_keep hb s4
       replace s5:=cell_keep hb s5
       replace s6:=cell_keep hb s6
       replace e0:=cell_keep hb e0
       replace e1:=cell_keep hb e1
       replace e2:=cell_keep hb e2
       replace t0:=cell_keep hb t0
       replace t1:=cell_keep hb t1
       replace t2:=cell_keep hb t2
       clear hb
       go_wp2_with fail
       go_roundw
       case rel => exact ⟨day + 1,by omega,by omega,by go_num,by rw [HN.out]; exact HO.out,HBR.out⟩
       case measure => simp [intOf]; omega
      ·have HN:=hide (filt_in (refB ⟨fr,ev,ct,un,ds,ms,ys⟩ s) a day da (by unfold refB; simp only [hf]; simp [EE.out,ld.out]))
       have HF:=hide hf
       clear hf
       go_wp2_with fail
       refine (rdate_is day y2 m2 d2 _ hday.1 hday.2 HD2.out.1 HD2.out.2.1 HD2.out.2.2).mono ?_
       rintro e u1 ⟨rfl,hb⟩
       replace HBR:=hide (andthen HBR.out hb)
       replace HO:=hide (HO.out.keep hb)
       replace HL:=hide (HL.out.keep hb)
       replace s0:=cell_keep hb s0
       replace s1:=cell_keep hb s1
       replace s2:=cell_keep hb s2
       replace s3:=cell_keep hb s3
       replace s4:=cell_keep hb s4
       replace s5:=cell_keep hb s5
       replace s6:=cell_keep hb s6
       replace e0:=cell_keep hb e0
       replace e1:=cell_keep hb e1
       replace e2:=cell_keep hb e2
       clear hb
       have hb:=more (start u1) (.cells #[.int .i64 y2,.int .i64 m2,.int .i64 d2] 110)
       replace HBR:=hide (andthen HBR.out hb)
       replace HO:=hide (HO.out.keep hb)
       replace HL:=hide (HL.out.keep hb)
       replace s0:=cell_keep hb s0
       replace s1:=cell_keep hb s1
       replace s2:=cell_keep hb s2
       replace s3:=cell_keep hb s3
       replace s4:=cell_keep hb s4
       replace s5:=cell_keep hb s5
       replace s6:=cell_keep hb s6
       replace e0:=cell_keep hb e0
       replace e1:=cell_keep hb e1
       replace e2:=cell_keep hb e2
       clear hb
       have t0 : (u1.alloc (.cells #[.int .i64 y2,.int .i64 m2,.int .i64 d2] 110)).cell? ⟨u1.heap.size,0,none⟩ = some (.int .i64 y2):=by rw [World.cell?_alloc_at _ _ _ _ rfl]; rfl
       have t1 : (u1.alloc (.cells #[.int .i64 y2,.int .i64 m2,.int .i64 d2] 110)).cell? ⟨u1.heap.size,1,none⟩ = some (.int .i64 m2):=by rw [World.cell?_alloc_at _ _ _ _ rfl]; rfl
       have t2 : (u1.alloc (.cells #[.int .i64 y2,.int .i64 m2,.int .i64 d2] 110)).cell? ⟨u1.heap.size,2,none⟩ = some (.int .i64 d2):=by rw [World.cell?_alloc_at _ _ _ _ rfl]; rfl
       go_wp2_with fail
       generalize (u1.alloc (.cells #[.int .i64 y2,.int .i64 m2,.int .i64 d2] 110)) = V at *
       generalize u1.heap.size = XD at *
       refine (ans_is (fits_any fr ev ct un D M Y dn dc mn mc yn yc ds ms ys day _ HL.out) HF.out).mono ?_
       rintro e u2 ⟨rfl,hb⟩
       replace HBR:=hide (andthen HBR.out hb)
       replace HO:=hide (HO.out.keep hb)
       replace s0:=cell_keep hb s0
       replace s1:=cell_keep hb s1
       replace s2:=cell_keep hb s2
       replace s3:=cell_keep hb s3
       replace s4:=cell_keep hb s4
       replace s5:=cell_keep hb s5
       replace s6:=cell_keep hb s6
       replace e0:=cell_keep hb e0
       replace e1:=cell_keep hb e1
       replace e2:=cell_keep hb e2
       replace t0:=cell_keep hb t0
       replace t1:=cell_keep hb t1
       replace t2:=cell_keep hb t2
       clear hb
       have hsz:=HBR.out.size
       have hown:=HO.out
       have hlen : ((upto a day).filter (refB ⟨fr,ev,ct,un,ds,ms,ys⟩ s)).length <= 1000000:=Nat.le_trans (List.length_filter_le _ _) (by rw [upto_len]; omega)
       go_wp2_with (at_builtin; refine wp_oneI (l:=(upto a day).filter (refB ⟨fr,ev,ct,un,ds,ms,ys⟩ s)) (p:=day) rfl _ _ rfl rfl rfl rfl hown hsz hlen ?_; intro v1 w1 hown1 hb1)
       replace HO:=hide hown1
       replace HBR:=hide (HBR.out.trans hb1)
       clear hown hown1 hb1 hsz hlen
       go_wp2_with fail
       go_roundw
       case rel => exact ⟨day + 1,by omega,by omega,by go_num,by rw [HN.out]; exact HO.out,HBR.out⟩
       case measure => simp [intOf]; omega
    ·have f2 : (fr == 2) = false:=by rw [e]; rfl
     have f3 : (fr == 3) = true:=by rw [e]; rfl
     have f4 : (fr == 4) = false:=by rw [e]; rfl
     have EE:=hide e
     clear e
     rcases Nat.eq_zero_or_pos dn with cd | cd
     ·have gd : (((dn : Nat) : Int) == 0) = true:=by rw [beq_iff_eq]; omega
      have jd : (dn == 0) = true:=by rw [beq_iff_eq]; omega
      have ld : Hid (ds = []):=hide <| by exact List.eq_nil_of_length_eq_zero (by have:=QL.out.1; omega)
      have nd : dn <= 0:=by omega
      clear cd
      cases hf : fitsB ⟨fr,ev,ct,un,ds,ms,ys⟩ day
      ·have HN:=hide (filt_out (refB ⟨fr,ev,ct,un,ds,ms,ys⟩ s) a day da (by unfold refB; simp only [hf]; simp [EE.out]))
       have HF:=hide hf
       clear hf
       go_wp2_with fail
       refine (rdate_is day y2 m2 d2 _ hday.1 hday.2 HD2.out.1 HD2.out.2.1 HD2.out.2.2).mono ?_
       rintro e u1 ⟨rfl,hb⟩
       replace HBR:=hide (andthen HBR.out hb)
       replace HO:=hide (HO.out.keep hb)
       replace HL:=hide (HL.out.keep hb)
       replace s0:=cell_keep hb s0
       replace s1:=cell_keep hb s1
       replace s2:=cell_keep hb s2
       replace s3:=cell_keep hb s3
       replace s4:=cell_keep hb s4
       replace s5:=cell_keep hb s5
       replace s6:=cell_keep hb s6
       replace e0:=cell_keep hb e0
       replace e1:=cell_keep hb e1
       replace e2:=cell_keep hb e2
       clear hb
       have hb:=more (start u1) (.cells #[.int .i64 y2,.int .i64 m2,.int .i64 d2] 110)
       replace HBR:=hide (andthen HBR.out hb)
       replace HO:=hide (HO.out.keep hb)
       replace HL:=hide (HL.out.keep hb)
       replace s0:=cell_keep hb s0
       replace s1:=cell_keep hb s1
       replace s2:=cell_keep hb s2
       replace s3:=cell_keep hb s3
       replace s4:=cell_keep hb s4
       replace s5:=cell_keep hb s5
       replace s6:=cell_keep hb s6
       replace e0:=cell_keep hb e0
       replace e1:=cell_keep hb e1
       replace e2:=cell_keep hb e2
       clear hb
       have t0 : (u1.alloc (.cells #[.int .i64 y2,.int .i64 m2,.int .i64 d2] 110)).cell? ⟨u1.heap.size,0,none⟩ = some (.int .i64 y2):=by rw [World.cell?_alloc_at _ _ _ _ rfl]; rfl
       have t1 : (u1.alloc (.cells #[.int .i64 y2,.int .i64 m2,.int .i64 d2] 110)).cell? ⟨u1.heap.size,1,none⟩ = some (.int .i64 m2):=by rw [World.cell?_alloc_at _ _ _ _ rfl]; rfl
       have t2 : (u1.alloc (.cells #[.int .i64 y2,.int .i64 m2,.int .i64 d2] 110)).cell? ⟨u1.heap.size,2,none⟩ = some (.int .i64 d2):=by rw [World.cell?_alloc_at _ _ _ _ rfl]; rfl
       go_wp2_with fail
       generalize (u1.alloc (.cells #[.int .i64 y2,.int .i64 m2,.int .i64 d2] 110)) = V at *
       generalize u1.heap.size = XD at *
       refine (ans_is (fits_any fr ev ct un D M Y dn dc mn mc yn yc ds ms ys day _ HL.out) HF.out).mono ?_
       rintro e u2 ⟨rfl,hb⟩
       replace HBR:=hide (andthen HBR.out hb)
       replace HO:=hide (HO.out.keep hb)
       replace s0:=cell_keep hb s0
       replace s1:=cell_keep hb s1
       replace s2:=cell_keep hb s2
       replace s3:=cell_keep hb s3
       replace s4:=cell_keep hb s4
       replace s5:=cell_keep hb s5
       replace s6:=cell_keep hb s6
       replace e0:=cell_keep hb e0
       replace e1:=cell_keep hb e1
       replace e2:=cell_keep hb e2
       replace t0:=cell_keep hb t0
       replace t1:=cell_keep hb t1
       replace t2:=cell_keep hb t2
       clear hb
       go_wp2_with fail
       go_roundw
       case rel => exact ⟨day + 1,by omega,by omega,by go_num,by rw [HN.out]; exact HO.out,HBR.out⟩
       case measure => simp [intOf]; omega
      ·rcases Nat.eq_zero_or_pos mn with cm | cm
       ·have gm : (((mn : Nat) : Int) == 0) = true:=by rw [beq_iff_eq]; omega
        have jm : (mn == 0) = true:=by rw [beq_iff_eq]; omega
        have lm : Hid (ms = []):=hide <| by exact List.eq_nil_of_length_eq_zero (by have:=QL.out.2.1; omega)
        have nm : mn <= 0:=by omega
        clear cm
        cases hdd : (d2 == d)
        ·have HN:=hide (filt_out (refB ⟨fr,ev,ct,un,ds,ms,ys⟩ s) a day da (by unfold refB; simp only [hf]; simp [EE.out,ld.out,lm.out,HD.out.2.2,HD2.out.2.2,hdd]))
         have HF:=hide hf
         clear hf
         go_wp2_with fail
         refine (rdate_is day y2 m2 d2 _ hday.1 hday.2 HD2.out.1 HD2.out.2.1 HD2.out.2.2).mono ?_
         rintro e u1 ⟨rfl,hb⟩
         replace HBR:=hide (andthen HBR.out hb)
         replace HO:=hide (HO.out.keep hb)
         replace HL:=hide (HL.out.keep hb)
         replace s0:=cell_keep hb s0
         replace s1:=cell_keep hb s1
         replace s2:=cell_keep hb s2
         replace s3:=cell_keep hb s3
         replace s4:=cell_keep hb s4
         replace s5:=cell_keep hb s5
         replace s6:=cell_keep hb s6
         replace e0:=cell_keep hb e0
         replace e1:=cell_keep hb e1
         replace e2:=cell_keep hb e2
         clear hb
         have hb:=more (start u1) (.cells #[.int .i64 y2,.int .i64 m2,.int .i64 d2] 110)
         replace HBR:=hide (andthen HBR.out hb)
         replace HO:=hide (HO.out.keep hb)
         replace HL:=hide (HL.out.keep hb)
         replace s0:=cell_keep hb s0
         replace s1:=cell_keep hb s1
         replace s2:=cell_keep hb s2
         replace s3:=cell_keep hb s3
         replace s4:=cell_keep hb s4
         replace s5:=cell_keep hb s5
         replace s6:=cell_keep hb s6
         replace e0:=cell_keep hb e0
         replace e1:=cell_keep hb e1
         replace e2:=cell_keep hb e2
         clear hb
         have t0 : (u1.alloc (.cells #[.int .i64 y2,.int .i64 m2,.int .i64 d2] 110)).cell? ⟨u1.heap.size,0,none⟩ = some (.int .i64 y2):=by rw [World.cell?_alloc_at _ _ _ _ rfl]; rfl
         have t1 : (u1.alloc (.cells #[.int .i64 y2,.int .i64 m2,.int .i64 d2] 110)).cell? ⟨u1.heap.size,1,none⟩ = some (.int .i64 m2):=by rw [World.cell?_alloc_at _ _ _ _ rfl]; rfl
         have t2 : (u1.alloc (.cells #[.int .i64 y2,.int .i64 m2,.int .i64 d2] 110)).cell? ⟨u1.heap.size,2,none⟩ = some (.int .i64 d2):=by rw [World.cell?_alloc_at _ _ _ _ rfl]; rfl
         go_wp2_with fail
         generalize (u1.alloc (.cells #[.int .i64 y2,.int .i64 m2,.int .i64 d2] 110)) = V at *
         generalize u1.heap.size = XD at *
         refine (ans_is (fits_any fr ev ct un D M Y dn dc mn mc yn yc ds ms ys day _ HL.out) HF.out).mono ?_
         rintro e u2 ⟨rfl,hb⟩
         replace HBR:=hide (andthen HBR.out hb)
         replace HO:=hide (HO.out.keep hb)
         replace s0:=cell_keep hb s0
         replace s1:=cell_keep hb s1
         replace s2:=cell_keep hb s2
         replace s3:=cell_keep hb s3
         replace s4:=cell_keep hb s4
         replace s5:=cell_keep hb s5
         replace s6:=cell_keep hb s6
         replace e0:=cell_keep hb e0
         replace e1:=cell_keep hb e1
         replace e2:=cell_keep hb e2
         replace t0:=cell_keep hb t0
         replace t1:=cell_keep hb t1
         replace t2:=cell_keep hb t2
         clear hb
         go_wp2_with fail
         go_roundw
         case rel => exact ⟨day + 1,by omega,by omega,by go_num,by rw [HN.out]; exact HO.out,HBR.out⟩
         case measure => simp [intOf]; omega
        ·have HN:=hide (filt_in (refB ⟨fr,ev,ct,un,ds,ms,ys⟩ s) a day da (by unfold refB; simp only [hf]; simp [EE.out,ld.out,lm.out,HD.out.2.2,HD2.out.2.2,hdd]))
         have HF:=hide hf
         clear hf
         go_wp2_with fail
         refine (rdate_is day y2 m2 d2 _ hday.1 hday.2 HD2.out.1 HD2.out.2.1 HD2.out.2.2).mono ?_
         rintro e u1 ⟨rfl,hb⟩
         replace HBR:=hide (andthen HBR.out hb)
         replace HO:=hide (HO.out.keep hb)
         replace HL:=hide (HL.out.keep hb)
         replace s0:=cell_keep hb s0
         replace s1:=cell_keep hb s1
         replace s2:=cell_keep hb s2
         replace s3:=cell_keep hb s3
         replace s4:=cell_keep hb s4
         replace s5:=cell_keep hb s5
         replace s6:=cell_keep hb s6
         replace e0:=cell_keep hb e0
         replace e1:=cell_keep hb e1
         replace e2:=cell_keep hb e2
         clear hb
         have hb:=more (start u1) (.cells #[.int .i64 y2,.int .i64 m2,.int .i64 d2] 110)
         replace HBR:=hide (andthen HBR.out hb)
         replace HO:=hide (HO.out.keep hb)
         replace HL:=hide (HL.out.keep hb)
         replace s0:=cell_keep hb s0
         replace s1:=cell_keep hb s1
         replace s2:=cell_keep hb s2
         replace s3:=cell_keep hb s3
         replace s4:=cell_keep hb s4
         replace s5:=cell_keep hb s5
         replace s6:=cell_keep hb s6
         replace e0:=cell_keep hb e0
         replace e1:=cell_keep hb e1
         replace e2:=cell_keep hb e2
         clear hb
         have t0 : (u1.alloc (.cells #[.int .i64 y2,.int .i64 m2,.int .i64 d2] 110)).cell? ⟨u1.heap.size,0,none⟩ = some (.int .i64 y2):=by rw [World.cell?_alloc_at _ _ _ _ rfl]; rfl
         have t1 : (u1.alloc (.cells #[.int .i64 y2,.int .i64 m2,.int .i64 d2] 110)).cell? ⟨u1.heap.size,1,none⟩ = some (.int .i64 m2):=by rw [World.cell?_alloc_at _ _ _ _ rfl]; rfl
         have t2 : (u1.alloc (.cells #[.int .i64 y2,.int .i64 m2,.int .i64 d2] 110)).cell? ⟨u1.heap.size,2,none⟩ = some (.int .i64 d2):=by rw [World.cell?_alloc_at _ _ _ _ rfl]; rfl
         go_wp2_with fail
         generalize (u1.alloc (.cells #[.int .i64 y2,.int .i64 m2,.int .i64 d2] 110)) = V at *
         generalize u1.heap.size = XD at *
         refine (ans_is (fits_any fr ev ct un D M Y dn dc mn mc yn yc ds ms ys day _ HL.out) HF.out).mono ?_
         rintro e u2 ⟨rfl,hb⟩
         replace HBR:=hide (andthen HBR.out hb)
         replace HO:=hide (HO.out.keep hb)
         replace s0:=cell_keep hb s0
         replace s1:=cell_keep hb s1
         replace s2:=cell_keep hb s2
         replace s3:=cell_keep hb s3
         replace s4:=cell_keep hb s4
         replace s5:=cell_keep hb s5
         replace s6:=cell_keep hb s6
         replace e0:=cell_keep hb e0
         replace e1:=cell_keep hb e1
         replace e2:=cell_keep hb e2
         replace t0:=cell_keep hb t0
         replace t1:=cell_keep hb t1
         replace t2:=cell_keep hb t2
         clear hb
         have hsz:=HBR.out.size
         have hown:=HO.out
         have hlen : ((upto a day).filter (refB ⟨fr,ev,ct,un,ds,ms,ys⟩ s)).length <= 1000000:=Nat.le_trans (List.length_filter_le _ _) (by rw [upto_len]; omega)
         go_wp2_with (at_builtin; refine wp_oneI (l:=(upto a day).filter (refB ⟨fr,ev,ct,un,ds,ms,ys⟩ s)) (p:=day) rfl _ _ rfl rfl rfl rfl hown hsz hlen ?_; intro v1 w1 hown1 hb1)
         replace HO:=hide hown1
         replace HBR:=hide (HBR.out.trans hb1)
         clear hown hown1 hb1 hsz hlen
         go_wp2_with fail
         go_roundw
         case rel => exact ⟨day + 1,by omega,by omega,by go_num,by rw [HN.out]; exact HO.out,HBR.out⟩
         case measure => simp [intOf]; omega
       ·have gm : (((mn : Nat) : Int) == 0) = false:=by rw [beq_eq_false_iff_ne]; omega
        have jm : (mn == 0) = false:=by rw [beq_eq_false_iff_ne]; omega
        have lm : Hid (ms ≠ [] /\ 0 < ms.length):=hide <| by refine ⟨?_,by have:=QL.out.2.1; omega⟩; intro hc; have q:=QL.out.2.1; rw [hc] at q; simp at q; omega
        have HN:=hide (filt_in (refB ⟨fr,ev,ct,un,ds,ms,ys⟩ s) a day da (by unfold refB; simp only [hf]; simp [EE.out,ld.out,lm.out]))
        have HF:=hide hf
        clear hf
        go_wp2_with fail
        refine (rdate_is day y2 m2 d2 _ hday.1 hday.2 HD2.out.1 HD2.out.2.1 HD2.out.2.2).mono ?_
        rintro e u1 ⟨rfl,hb⟩
        replace HBR:=hide (andthen HBR.out hb)
        replace HO:=hide (HO.out.keep hb)
        replace HL:=hide (HL.out.keep hb)
        replace s0:=cell_keep hb s0
        replace s1:=cell_keep hb s1
        replace s2:=cell_keep hb s2
        replace s3:=cell_keep hb s3
        replace s4:=cell_keep hb s4
        replace s5:=cell_keep hb s5
        replace s6:=cell_keep hb s6
        replace e0:=cell_keep hb e0
        replace e1:=cell_keep hb e1
        replace e2:=cell_keep hb e2
        clear hb
        have hb:=more (start u1) (.cells #[.int .i64 y2,.int .i64 m2,.int .i64 d2] 110)
        replace HBR:=hide (andthen HBR.out hb)
        replace HO:=hide (HO.out.keep hb)
        replace HL:=hide (HL.out.keep hb)
        replace s0:=cell_keep hb s0
        replace s1:=cell_keep hb s1
        replace s2:=cell_keep hb s2
        replace s3:=cell_keep hb s3
        replace s4:=cell_keep hb s4
        replace s5:=cell_keep hb s5
        replace s6:=cell_keep hb s6
        replace e0:=cell_keep hb e0
        replace e1:=cell_keep hb e1
        replace e2:=cell_keep hb e2
        clear hb
        have t0 : (u1.alloc (.cells #[.int .i64 y2,.int .i64 m2,.int .i64 d2] 110)).cell? ⟨u1.heap.size,0,none⟩ = some (.int .i64 y2):=by rw [World.cell?_alloc_at _ _ _ _ rfl]; rfl
        have t1 : (u1.alloc (.cells #[.int .i64 y2,.int .i64 m2,.int .i64 d2] 110)).cell? ⟨u1.heap.size,1,none⟩ = some (.int .i64 m2):=by rw [World.cell?_alloc_at _ _ _ _ rfl]; rfl
        have t2 : (u1.alloc (.cells #[.int .i64 y2,.int .i64 m2,.int .i64 d2] 110)).cell? ⟨u1.heap.size,2,none⟩ = some (.int .i64 d2):=by rw [World.cell?_alloc_at _ _ _ _ rfl]; rfl
        go_wp2_with fail
        generalize (u1.alloc (.cells #[.int .i64 y2,.int .i64 m2,.int .i64 d2] 110)) = V at *
        generalize u1.heap.size = XD at *
        refine (ans_is (fits_any fr ev ct un D M Y dn dc mn mc yn yc ds ms ys day _ HL.out) HF.out).mono ?_
        rintro e u2 ⟨rfl,hb⟩
        replace HBR:=hide (andthen HBR.out hb)
        replace HO:=hide (HO.out.keep hb)
        replace s0:=cell_keep hb s0
        replace s1:=cell_keep hb s1
        replace s2:=cell_keep hb s2
        replace s3:=cell_keep hb s3
        replace s4:=cell_keep hb s4
        replace s5:=cell_keep hb s5
        replace s6:=cell_keep hb s6
        replace e0:=cell_keep hb e0
        replace e1:=cell_keep hb e1
        replace e2:=cell_keep hb e2
        replace t0:=cell_keep hb t0
        replace t1:=cell_keep hb t1
        replace t2:=cell_keep hb t2
        clear hb
        have hsz:=HBR.out.size
        have hown:=HO.out
        have hlen : ((upto a day).filter (refB ⟨fr,ev,ct,un,ds,ms,ys⟩ s)).length <= 1000000:=Nat.le_trans (List.length_filter_le _ _) (by rw [upto_len]; omega)
        go_wp2_with (at_builtin; refine wp_oneI (l:=(upto a day).filter (refB ⟨fr,ev,ct,un,ds,ms,ys⟩ s)) (p:=day) rfl _ _ rfl rfl rfl rfl hown hsz hlen ?_; intro v1 w1 hown1 hb1)
        replace HO:=hide hown1
        replace HBR:=hide (HBR.out.trans hb1)
        clear hown hown1 hb1 hsz hlen
        go_wp2_with fail
        go_roundw
        case rel => exact ⟨day + 1,by omega,by omega,by go_num,by rw [HN.out]; exact HO.out,HBR.out⟩
        case measure => simp [intOf]; omega
     ·have gd : (((dn : Nat) : Int) == 0) = false:=by rw [beq_eq_false_iff_ne]; omega
      have jd : (dn == 0) = false:=by rw [beq_eq_false_iff_ne]; omega
      have ld : Hid (ds ≠ [] /\ 0 < ds.length):=hide <| by refine ⟨?_,by have:=QL.out.1; omega⟩; intro hc; have q:=QL.out.1; rw [hc] at q; simp at q; omega
      cases hf : fitsB ⟨fr,ev,ct,un,ds,ms,ys⟩ day
      ·have HN:=hide (filt_out (refB ⟨fr,ev,ct,un,ds,ms,ys⟩ s) a day da (by unfold refB; simp only [hf]; simp [EE.out]))
       have HF:=hide hf
       clear hf
       go_wp2_with fail
       refine (rdate_is day y2 m2 d2 _ hday.1 hday.2 HD2.out.1 HD2.out.2.1 HD2.out.2.2).mono ?_
       rintro e u1 ⟨rfl,hb⟩
       replace HBR:=hide (andthen HBR.out hb)
       replace HO:=hide (HO.out.keep hb)
       replace HL:=hide (HL.out.keep hb)
       replace s0:=cell_keep hb s0
       replace s1:=cell_keep hb s1
       replace s2:=cell_keep hb s2
       replace s3:=cell_keep hb s3
       replace s4:=cell_keep hb s4
       replace s5:=cell_keep hb s5
       replace s6:=cell_keep hb s6
       replace e0:=cell_keep hb e0
       replace e1:=cell_keep hb e1
       replace e2:=cell_keep hb e2
       clear hb
       have hb:=more (start u1) (.cells #[.int .i64 y2,.int .i64 m2,.int .i64 d2] 110)
       replace HBR:=hide (andthen HBR.out hb)
       replace HO:=hide (HO.out.keep hb)
       replace HL:=hide (HL.out.keep hb)
       replace s0:=cell_keep hb s0
       replace s1:=cell_keep hb s1
       replace s2:=cell_keep hb s2
       replace s3:=cell_keep hb s3
       replace s4:=cell_keep hb s4
       replace s5:=cell_keep hb s5
       replace s6:=cell_keep hb s6
       replace e0:=cell_keep hb e0
       replace e1:=cell_keep hb e1
       replace e2:=cell_keep hb e2
       clear hb
       have t0 : (u1.alloc (.cells #[.int .i64 y2,.int .i64 m2,.int .i64 d2] 110)).cell? ⟨u1.heap.size,0,none⟩ = some (.int .i64 y2):=by rw [World.cell?_alloc_at _ _ _ _ rfl]; rfl
       have t1 : (u1.alloc (.cells #[.int .i64 y2,.int .i64 m2,.int .i64 d2] 110)).cell? ⟨u1.heap.size,1,none⟩ = some (.int .i64 m2):=by rw [World.cell?_alloc_at _ _ _ _ rfl]; rfl
       have t2 : (u1.alloc (.cells #[.int .i64 y2,.int .i64 m2,.int .i64 d2] 110)).cell? ⟨u1.heap.size,2,none⟩ = some (.int .i64 d2):=by rw [World.cell?_alloc_at _ _ _ _ rfl]; rfl
       go_wp2_with fail
       generalize (u1.alloc (.cells #[.int .i64 y2,.int .i64 m2,.int .i64 d2] 110)) = V at *
       generalize u1.heap.size = XD at *
       refine (ans_is (fits_any fr ev ct un D M Y dn dc mn mc yn yc ds ms ys day _ HL.out) HF.out).mono ?_
       rintro e u2 ⟨rfl,hb⟩
       replace HBR:=hide (andthen HBR.out hb)
       replace HO:=hide (HO.out.keep hb)
       replace s0:=cell_keep hb s0
       replace s1:=cell_keep hb s1
       replace s2:=cell_keep hb s2
       replace s3:=cell_keep hb s3
       replace s4:=cell_keep hb s4
       replace s5:=cell_keep hb s5
       replace s6:=cell_keep hb s6
       replace e0:=cell_keep hb e0
       replace e1:=cell_keep hb e1
       replace e2:=cell_keep hb e2
       replace t0:=cell_keep hb t0
       replace t1:=cell_keep hb t1
       replace t2:=cell_keep hb t2
       clear hb
       go_wp2_with fail
       go_roundw
       case rel => exact ⟨day + 1,by omega,by omega,by go_num,by rw [HN.out]; exact HO.out,HBR.out⟩
       case measure => simp [intOf]; omega
      ·have HN:=hide (filt_in (refB ⟨fr,ev,ct,un,ds,ms,ys⟩ s) a day da (by unfold refB; simp only [hf]; simp [EE.out,ld.out]))
       have HF:=hide hf
       clear hf
       go_wp2_with fail
       refine (rdate_is day y2 m2 d2 _ hday.1 hday.2 HD2.out.1 HD2.out.2.1 HD2.out.2.2).mono ?_
       rintro e u1 ⟨rfl,hb⟩
       replace HBR:=hide (andthen HBR.out hb)
       replace HO:=hide (HO.out.keep hb)
       replace HL:=hide (HL.out.keep hb)
       replace s0:=cell_keep hb s0
       replace s1:=cell_keep hb s1
       replace s2:=cell_keep hb s2
       replace s3:=cell_keep hb s3
       replace s4:=cell_keep hb s4
       replace s5:=cell_keep hb s5
       replace s6:=cell_keep hb s6
       replace e0:=cell_keep hb e0
       replace e1:=cell_keep hb e1
       replace e2:=cell_keep hb e2
       clear hb
       have hb:=more (start u1) (.cells #[.int .i64 y2,.int .i64 m2,.int .i64 d2] 110)
       replace HBR:=hide (andthen HBR.out hb)
       replace HO:=hide (HO.out.keep hb)
       replace HL:=hide (HL.out.keep hb)
       replace s0:=cell_keep hb s0
       replace s1:=cell_keep hb s1
       replace s2:=cell_keep hb s2
       replace s3:=cell_keep hb s3
       replace s4:=cell_keep hb s4
       replace s5:=cell_keep hb s5
       replace s6:=cell_keep hb s6
       replace e0:=cell_keep hb e0
       replace e1:=cell_keep hb e1
       replace e2:=cell_keep hb e2
       clear hb
       have t0 : (u1.alloc (.cells #[.int .i64 y2,.int .i64 m2,.int .i64 d2] 110)).cell? ⟨u1.heap.size,0,none⟩ = some (.int .i64 y2):=by rw [World.cell?_alloc_at _ _ _ _ rfl]; rfl
       have t1 : (u1.alloc (.cells #[.int .i64 y2,.int .i64 m2,.int .i64 d2] 110)).cell? ⟨u1.heap.size,1,none⟩ = some (.int .i64 m2):=by rw [World.cell?_alloc_at _ _ _ _ rfl]; rfl
       have t2 : (u1.alloc (.cells #[.int .i64 y2,.int .i64 m2,.int .i64 d2] 110)).cell? ⟨u1.heap.size,2,none⟩ = some (.int .i64 d2):=by rw [World.cell?_alloc_at _ _ _ _ rfl]; rfl
       go_wp2_with fail
       generalize (u1.alloc (.cells #[.int .i64 y2,.int .i64 m2,.int .i64 d2] 110)) = V at *
       generalize u1.heap.size = XD at *
       refine (ans_is (fits_any fr ev ct un D M Y dn dc mn mc yn yc ds ms ys day _ HL.out) HF.out).mono ?_
       rintro e u2 ⟨rfl,hb⟩
       replace HBR:=hide (andthen HBR.out hb)
       replace HO:=hide (HO.out.keep hb)
       replace s0:=cell_keep hb s0
       replace s1:=cell_keep hb s1
       replace s2:=cell_keep hb s2
       replace s3:=cell_keep hb s3
       replace s4:=cell_keep hb s4
       replace s5:=cell_keep hb s5
       replace s6:=cell_keep hb s6
       replace e0:=cell_keep hb e0
       replace e1:=cell_keep hb e1
       replace e2:=cell_keep hb e2
       replace t0:=cell_keep hb t0
       replace t1:=cell_keep hb t1
       replace t2:=cell_keep hb t2
       clear hb
       have hsz:=HBR.out.size
       have hown:=HO.out
       have hlen : ((upto a day).filter (refB ⟨fr,ev,ct,un,ds,ms,ys⟩ s)).length <= 1000000:=Nat.le_trans (List.length_filter_le _ _) (by rw [upto_len]; omega)
       go_wp2_with (at_builtin; refine wp_oneI (l:=(upto a day).filter (refB ⟨fr,ev,ct,un,ds,ms,ys⟩ s)) (p:=day) rfl _ _ rfl rfl rfl rfl hown hsz hlen ?_; intro v1 w1 hown1 hb1)
       replace HO:=hide hown1
       replace HBR:=hide (HBR.out.trans hb1)
       clear hown hown1 hb1 hsz hlen
       go_wp2_with fail
       go_roundw
       case rel => exact ⟨day + 1,by omega,by omega,by go_num,by rw [HN.out]; exact HO.out,HBR.out⟩
       case measure => simp [intOf]; omega
    ·have f2 : (fr == 2) = false:=by rw [e]; rfl
     have f3 : (fr == 3) = false:=by rw [e]; rfl
     have f4 : (fr == 4) = true:=by rw [e]; rfl
     have EE:=hide e
     clear e
     rcases Nat.eq_zero_or_pos dn with cd | cd
     ·have gd : (((dn : Nat) : Int) == 0) = true:=by rw [beq_iff_eq]; omega
      have jd : (dn == 0) = true:=by rw [beq_iff_eq]; omega
      have ld : Hid (ds = []):=hide <| by exact List.eq_nil_of_length_eq_zero (by have:=QL.out.1; omega)
      have nd : dn <= 0:=by omega
      clear cd
      cases hf : fitsB ⟨fr,ev,ct,un,ds,ms,ys⟩ day
      ·have HN:=hide (filt_out (refB ⟨fr,ev,ct,un,ds,ms,ys⟩ s) a day da (by unfold refB; simp only [hf]; simp [EE.out]))
       have HF:=hide hf
       clear hf
       go_wp2_with fail
       refine (rdate_is day y2 m2 d2 _ hday.1 hday.2 HD2.out.1 HD2.out.2.1 HD2.out.2.2).mono ?_
       rintro e u1 ⟨rfl,hb⟩
       replace HBR:=hide (andthen HBR.out hb)
       replace HO:=hide (HO.out.keep hb)
       replace HL:=hide (HL.out.keep hb)
       replace s0:=cell_keep hb s0
       replace s1:=cell_keep hb s1
       replace s2:=cell_keep hb s2
       replace s3:=cell_keep hb s3
       replace s4:=cell_keep hb s4
       replace s5:=cell_keep hb s5
       replace s6:=cell_keep hb s6
       replace e0:=cell_keep hb e0
       replace e1:=cell_keep hb e1
       replace e2:=cell_keep hb e2
       clear hb
       have hb:=more (start u1) (.cells #[.int .i64 y2,.int .i64 m2,.int .i64 d2] 110)
       replace HBR:=hide (andthen HBR.out hb)
       replace HO:=hide (HO.out.keep hb)
       replace HL:=hide (HL.out.keep hb)
       replace s0:=cell_keep hb s0
       replace s1:=cell_keep hb s1
       replace s2:=cell_keep hb s2
       replace s3:=cell_keep hb s3
       replace s4:=cell_keep hb s4
       replace s5:=cell_keep hb s5
       replace s6:=cell_keep hb s6
       replace e0:=cell_keep hb e0
       replace e1:=cell_keep hb e1
       replace e2:=cell_keep hb e2
       clear hb
       have t0 : (u1.alloc (.cells #[.int .i64 y2,.int .i64 m2,.int .i64 d2] 110)).cell? ⟨u1.heap.size,0,none⟩ = some (.int .i64 y2):=by rw [World.cell?_alloc_at _ _ _ _ rfl]; rfl
       have t1 : (u1.alloc (.cells #[.int .i64 y2,.int .i64 m2,.int .i64 d2] 110)).cell? ⟨u1.heap.size,1,none⟩ = some (.int .i64 m2):=by rw [World.cell?_alloc_at _ _ _ _ rfl]; rfl
       have t2 : (u1.alloc (.cells #[.int .i64 y2,.int .i64 m2,.int .i64 d2] 110)).cell? ⟨u1.heap.size,2,none⟩ = some (.int .i64 d2):=by rw [World.cell?_alloc_at _ _ _ _ rfl]; rfl
       go_wp2_with fail
       generalize (u1.alloc (.cells #[.int .i64 y2,.int .i64 m2,.int .i64 d2] 110)) = V at *
       generalize u1.heap.size = XD at *
       refine (ans_is (fits_any fr ev ct un D M Y dn dc mn mc yn yc ds ms ys day _ HL.out) HF.out).mono ?_
       rintro e u2 ⟨rfl,hb⟩
       replace HBR:=hide (andthen HBR.out hb)
       replace HO:=hide (HO.out.keep hb)
       replace s0:=cell_keep hb s0
       replace s1:=cell_keep hb s1
       replace s2:=cell_keep hb s2
       replace s3:=cell_keep hb s3
       replace s4:=cell_keep hb s4
       replace s5:=cell_keep hb s5
       replace s6:=cell_keep hb s6
       replace e0:=cell_keep hb e0
       replace e1:=cell_keep hb e1
       replace e2:=cell_keep hb e2
       replace t0:=cell_keep hb t0
       replace t1:=cell_keep hb t1
       replace t2:=cell_keep hb t2
       clear hb
       go_wp2_with fail
       go_roundw
       case rel => exact ⟨day + 1,by omega,by omega,by go_num,by rw [HN.out]; exact HO.out,HBR.out⟩
       case measure => simp [intOf]; omega
      ·rcases Nat.eq_zero_or_pos mn with cm | cm
       ·have gm : (((mn : Nat) : Int) == 0) = true:=by rw [beq_iff_eq]; omega
        have jm : (mn == 0) = true:=by rw [beq_iff_eq]; omega
        have lm : Hid (ms = []):=hide <| by exact List.eq_nil_of_length_eq_zero (by have:=QL.out.2.1; omega)
        have nm : mn <= 0:=by omega
        clear cm
        cases hdd : (d2 == d)
        ·have HN:=hide (filt_out (refB ⟨fr,ev,ct,un,ds,ms,ys⟩ s) a day da (by unfold refB; simp only [hf]; simp [EE.out,ld.out,lm.out,HD.out.2.2,HD2.out.2.2,hdd]))
         have HF:=hide hf
         clear hf
         go_wp2_with fail
         refine (rdate_is day y2 m2 d2 _ hday.1 hday.2 HD2.out.1 HD2.out.2.1 HD2.out.2.2).mono ?_
         rintro e u1 ⟨rfl,hb⟩
         replace HBR:=hide (andthen HBR.out hb)
         replace HO:=hide (HO.out.keep hb)
         replace HL:=hide (HL.out.keep hb)
         replace s0:=cell_keep hb s0
         replace s1:=cell_keep hb s1
         replace s2:=cell_keep hb s2
         replace s3:=cell_keep hb s3
         replace s4:=cell_keep hb s4
         replace s5:=cell_keep hb s5
         replace s6:=cell_keep hb s6
         replace e0:=cell_keep hb e0
         replace e1:=cell_keep hb e1
         replace e2:=cell_keep hb e2
         clear hb
         have hb:=more (start u1) (.cells #[.int .i64 y2,.int .i64 m2,.int .i64 d2] 110)
         replace HBR:=hide (andthen HBR.out hb)
         replace HO:=hide (HO.out.keep hb)
         replace HL:=hide (HL.out.keep hb)
         replace s0:=cell_keep hb s0
         replace s1:=cell_keep hb s1
         replace s2:=cell_keep hb s2
         replace s3:=cell_keep hb s3
         replace s4:=cell_keep hb s4
         replace s5:=cell_keep hb s5
         replace s6:=cell_keep hb s6
         replace e0:=cell_keep hb e0
         replace e1:=cell_keep hb e1
         replace e2:=cell_keep hb e2
         clear hb
         have t0 : (u1.alloc (.cells #[.int .i64 y2,.int .i64 m2,.int .i64 d2] 110)).cell? ⟨u1.heap.size,0,none⟩ = some (.int .i64 y2):=by rw [World.cell?_alloc_at _ _ _ _ rfl]; rfl
         have t1 : (u1.alloc (.cells #[.int .i64 y2,.int .i64 m2,.int .i64 d2] 110)).cell? ⟨u1.heap.size,1,none⟩ = some (.int .i64 m2):=by rw [World.cell?_alloc_at _ _ _ _ rfl]; rfl
         have t2 : (u1.alloc (.cells #[.int .i64 y2,.int .i64 m2,.int .i64 d2] 110)).cell? ⟨u1.heap.size,2,none⟩ = some (.int .i64 d2):=by rw [World.cell?_alloc_at _ _ _ _ rfl]; rfl
         go_wp2_with fail
         generalize (u1.alloc (.cells #[.int .i64 y2,.int .i64 m2,.int .i64 d2] 110)) = V at *
         generalize u1.heap.size = XD at *
         refine (ans_is (fits_any fr ev ct un D M Y dn dc mn mc yn yc ds ms ys day _ HL.out) HF.out).mono ?_
         rintro e u2 ⟨rfl,hb⟩
         replace HBR:=hide (andthen HBR.out hb)
         replace HO:=hide (HO.out.keep hb)
         replace s0:=cell_keep hb s0
         replace s1:=cell_keep hb s1
         replace s2:=cell_keep hb s2
         replace s3:=cell_keep hb s3
         replace s4:=cell_keep hb s4
         replace s5:=cell_keep hb s5
         replace s6:=cell_keep hb s6
         replace e0:=cell_keep hb e0
         replace e1:=cell_keep hb e1
         replace e2:=cell_keep hb e2
         replace t0:=cell_keep hb t0
         replace t1:=cell_keep hb t1
         replace t2:=cell_keep hb t2
         clear hb
         go_wp2_with fail
         go_roundw
         case rel => exact ⟨day + 1,by omega,by omega,by go_num,by rw [HN.out]; exact HO.out,HBR.out⟩
         case measure => simp [intOf]; omega
        ·rcases Nat.eq_zero_or_pos yn with cy | cy
         ·have gy : (((yn : Nat) : Int) == 0) = true:=by rw [beq_iff_eq]; omega
          have jy : (yn == 0) = true:=by rw [beq_iff_eq]; omega
          have ly : Hid (ys = []):=hide <| by exact List.eq_nil_of_length_eq_zero (by have:=QL.out.2.2; omega)
          have ny : yn <= 0:=by omega
          clear cy
          cases hmm : (m2 == m)
          ·have HN:=hide (filt_out (refB ⟨fr,ev,ct,un,ds,ms,ys⟩ s) a day da (by unfold refB; simp only [hf]; simp [EE.out,ld.out,lm.out,HD.out.2.2,HD2.out.2.2,hdd,ly.out,HD.out.2.1,HD2.out.2.1,hmm]))
           have HF:=hide hf
           clear hf
           go_wp2_with fail
           refine (rdate_is day y2 m2 d2 _ hday.1 hday.2 HD2.out.1 HD2.out.2.1 HD2.out.2.2).mono ?_
           rintro e u1 ⟨rfl,hb⟩
           replace HBR:=hide (andthen HBR.out hb)
           replace HO:=hide (HO.out.keep hb)
           replace HL:=hide (HL.out.keep hb)
           replace s0:=cell_keep hb s0
           replace s1:=cell_keep hb s1
           replace s2:=cell_keep hb s2
           replace s3:=cell_keep hb s3
           replace s4:=cell_keep hb s4
           replace s5:=cell_keep hb s5
           replace s6:=cell_keep hb s6
           replace e0:=cell_keep hb e0
           replace e1:=cell_keep hb e1
           replace e2:=cell_keep hb e2
           clear hb
           have hb:=more (start u1) (.cells #[.int .i64 y2,.int .i64 m2,.int .i64 d2] 110)
           replace HBR:=hide (andthen HBR.out hb)
           replace HO:=hide (HO.out.keep hb)
           replace HL:=hide (HL.out.keep hb)
           replace s0:=cell_keep hb s0
           replace s1:=cell_keep hb s1
           replace s2:=cell_keep hb s2
           replace s3:=cell_keep hb s3
           replace s4:=cell_keep hb s4
           replace s5:=cell_keep hb s5
           replace s6:=cell_keep hb s6
           replace e0:=cell_keep hb e0
           replace e1:=cell_keep hb e1
           replace e2:=cell_keep hb e2
           clear hb
           have t0 : (u1.alloc (.cells #[.int .i64 y2,.int .i64 m2,.int .i64 d2] 110)).cell? ⟨u1.heap.size,0,none⟩ = some (.int .i64 y2):=by rw [World.cell?_alloc_at _ _ _ _ rfl]; rfl
           have t1 : (u1.alloc (.cells #[.int .i64 y2,.int .i64 m2,.int .i64 d2] 110)).cell? ⟨u1.heap.size,1,none⟩ = some (.int .i64 m2):=by rw [World.cell?_alloc_at _ _ _ _ rfl]; rfl
           have t2 : (u1.alloc (.cells #[.int .i64 y2,.int .i64 m2,.int .i64 d2] 110)).cell? ⟨u1.heap.size,2,none⟩ = some (.int .i64 d2):=by rw [World.cell?_alloc_at _ _ _ _ rfl]; rfl
           go_wp2_with fail
           generalize (u1.alloc (.cells #[.int .i64 y2,.int .i64 m2,.int .i64 d2] 110)) = V at *
           generalize u1.heap.size = XD at *
           refine (ans_is (fits_any fr ev ct un D M Y dn dc mn mc yn yc ds ms ys day _ HL.out) HF.out).mono ?_
           rintro e u2 ⟨rfl,hb⟩
           replace HBR:=hide (andthen HBR.out hb)
           replace HO:=hide (HO.out.keep hb)
           replace s0:=cell_keep hb s0
           replace s1:=cell_keep hb s1
           replace s2:=cell_keep hb s2
           replace s3:=cell_keep hb s3
           replace s4:=cell_keep hb s4
           replace s5:=cell_keep hb s5
           replace s6:=cell_keep hb s6
           replace e0:=cell_keep hb e0
           replace e1:=cell_keep hb e1
           replace e2:=cell_keep hb e2
           replace t0:=cell_keep hb t0
           replace t1:=cell_keep hb t1
           replace t2:=cell_keep hb t2
           clear hb
           go_wp2_with fail
           go_roundw
           case rel => exact ⟨day + 1,by omega,by omega,by go_num,by rw [HN.out]; exact HO.out,HBR.out⟩
           case measure => simp [intOf]; omega
          ·have HN:=hide (filt_in (refB ⟨fr,ev,ct,un,ds,ms,ys⟩ s) a day da (by unfold refB; simp only [hf]; simp [EE.out,ld.out,lm.out,HD.out.2.2,HD2.out.2.2,hdd,ly.out,HD.out.2.1,HD2.out.2.1,hmm]))
           have HF:=hide hf
           clear hf
           go_wp2_with fail
           refine (rdate_is day y2 m2 d2 _ hday.1 hday.2 HD2.out.1 HD2.out.2.1 HD2.out.2.2).mono ?_
           rintro e u1 ⟨rfl,hb⟩
           replace HBR:=hide (andthen HBR.out hb)
           replace HO:=hide (HO.out.keep hb)
           replace HL:=hide (HL.out.keep hb)
           replace s0:=cell_keep hb s0
           replace s1:=cell_keep hb s1
           replace s2:=cell_keep hb s2
           replace s3:=cell_keep hb s3
           replace s4:=cell_keep hb s4
           replace s5:=cell_keep hb s5
           replace s6:=cell_keep hb s6
           replace e0:=cell_keep hb e0
           replace e1:=cell_keep hb e1
           replace e2:=cell_keep hb e2
           clear hb
           have hb:=more (start u1) (.cells #[.int .i64 y2,.int .i64 m2,.int .i64 d2] 110)
           replace HBR:=hide (andthen HBR.out hb)
           replace HO:=hide (HO.out.keep hb)
           replace HL:=hide (HL.out.keep hb)
           replace s0:=cell_keep hb s0
           replace s1:=cell_keep hb s1
           replace s2:=cell_keep hb s2
           replace s3:=cell_keep hb s3
           replace s4:=cell_keep hb s4
           replace s5:=cell_keep hb s5
           replace s6:=cell_keep hb s6
           replace e0:=cell_keep hb e0
           replace e1:=cell_keep hb e1
           replace e2:=cell_keep hb e2
           clear hb
           have t0 : (u1.alloc (.cells #[.int .i64 y2,.int .i64 m2,.int .i64 d2] 110)).cell? ⟨u1.heap.size,0,none⟩ = some (.int .i64 y2):=by rw [World.cell?_alloc_at _ _ _ _ rfl]; rfl
           have t1 : (u1.alloc (.cells #[.int .i64 y2,.int .i64 m2,.int .i64 d2] 110)).cell? ⟨u1.heap.size,1,none⟩ = some (.int .i64 m2):=by rw [World.cell?_alloc_at _ _ _ _ rfl]; rfl
           have t2 : (u1.alloc (.cells #[.int .i64 y2,.int .i64 m2,.int .i64 d2] 110)).cell? ⟨u1.heap.size,2,none⟩ = some (.int .i64 d2):=by rw [World.cell?_alloc_at _ _ _ _ rfl]; rfl
           go_wp2_with fail
           generalize (u1.alloc (.cells #[.int .i64 y2,.int .i64 m2,.int .i64 d2] 110)) = V at *
           generalize u1.heap.size = XD at *
           refine (ans_is (fits_any fr ev ct un D M Y dn dc mn mc yn yc ds ms ys day _ HL.out) HF.out).mono ?_
           rintro e u2 ⟨rfl,hb⟩
           replace HBR:=hide (andthen HBR.out hb)
           replace HO:=hide (HO.out.keep hb)
           replace s0:=cell_keep hb s0
           replace s1:=cell_keep hb s1
           replace s2:=cell_keep hb s2
           replace s3:=cell_keep hb s3
           replace s4:=cell_keep hb s4
           replace s5:=cell_keep hb s5
           replace s6:=cell_keep hb s6
           replace e0:=cell_keep hb e0
           replace e1:=cell_keep hb e1
           replace e2:=cell_keep hb e2
           replace t0:=cell_keep hb t0
           replace t1:=cell_keep hb t1
           replace t2:=cell_keep hb t2
           clear hb
           have hsz:=HBR.out.size
           have hown:=HO.out
           have hlen : ((upto a day).filter (refB ⟨fr,ev,ct,un,ds,ms,ys⟩ s)).length <= 1000000:=Nat.le_trans (List.length_filter_le _ _) (by rw [upto_len]; omega)
           go_wp2_with (at_builtin; refine wp_oneI (l:=(upto a day).filter (refB ⟨fr,ev,ct,un,ds,ms,ys⟩ s)) (p:=day) rfl _ _ rfl rfl rfl rfl hown hsz hlen ?_; intro v1 w1 hown1 hb1)
           replace HO:=hide hown1
           replace HBR:=hide (HBR.out.trans hb1)
           clear hown hown1 hb1 hsz hlen
           go_wp2_with fail
           go_roundw
           case rel => exact ⟨day + 1,by omega,by omega,by go_num,by rw [HN.out]; exact HO.out,HBR.out⟩
           case measure => simp [intOf]; omega
         ·have gy : (((yn : Nat) : Int) == 0) = false:=by rw [beq_eq_false_iff_ne]; omega
          have jy : (yn == 0) = false:=by rw [beq_eq_false_iff_ne]; omega
          have ly : Hid (ys ≠ [] /\ 0 < ys.length):=hide <| by refine ⟨?_,by have:=QL.out.2.2; omega⟩; intro hc; have q:=QL.out.2.2; rw [hc] at q; simp at q; omega
          have HN:=hide (filt_in (refB ⟨fr,ev,ct,un,ds,ms,ys⟩ s) a day da (by unfold refB; simp only [hf]; simp [EE.out,ld.out,lm.out,HD.out.2.2,HD2.out.2.2,hdd,ly.out]))
          have HF:=hide hf
          clear hf
          go_wp2_with fail
          refine (rdate_is day y2 m2 d2 _ hday.1 hday.2 HD2.out.1 HD2.out.2.1 HD2.out.2.2).mono ?_
          rintro e u1 ⟨rfl,hb⟩
          replace HBR:=hide (andthen HBR.out hb)
          replace HO:=hide (HO.out.keep hb)
          replace HL:=hide (HL.out.keep hb)
          replace s0:=cell_keep hb s0
          replace s1:=cell_keep hb s1
          replace s2:=cell_keep hb s2
          replace s3:=cell_keep hb s3
          replace s4:=cell_keep hb s4
          replace s5:=cell_keep hb s5
          replace s6:=cell_keep hb s6
          replace e0:=cell_keep hb e0
          replace e1:=cell_keep hb e1
          replace e2:=cell_keep hb e2
          clear hb
          have hb:=more (start u1) (.cells #[.int .i64 y2,.int .i64 m2,.int .i64 d2] 110)
          replace HBR:=hide (andthen HBR.out hb)
          replace HO:=hide (HO.out.keep hb)
          replace HL:=hide (HL.out.keep hb)
          replace s0:=cell_keep hb s0
          replace s1:=cell_keep hb s1
          replace s2:=cell_keep hb s2
          replace s3:=cell_keep hb s3
          replace s4:=cell_keep hb s4
          replace s5:=cell_keep hb s5
          replace s6:=cell_keep hb s6
          replace e0:=cell_keep hb e0
          replace e1:=cell_keep hb e1
          replace e2:=cell_keep hb e2
          clear hb
          have t0 : (u1.alloc (.cells #[.int .i64 y2,.int .i64 m2,.int .i64 d2] 110)).cell? ⟨u1.heap.size,0,none⟩ = some (.int .i64 y2):=by rw [World.cell?_alloc_at _ _ _ _ rfl]; rfl
          have t1 : (u1.alloc (.cells #[.int .i64 y2,.int .i64 m2,.int .i64 d2] 110)).cell? ⟨u1.heap.size,1,none⟩ = some (.int .i64 m2):=by rw [World.cell?_alloc_at _ _ _ _ rfl]; rfl
          have t2 : (u1.alloc (.cells #[.int .i64 y2,.int .i64 m2,.int .i64 d2] 110)).cell? ⟨u1.heap.size,2,none⟩ = some (.int .i64 d2):=by rw [World.cell?_alloc_at _ _ _ _ rfl]; rfl
          go_wp2_with fail
          generalize (u1.alloc (.cells #[.int .i64 y2,.int .i64 m2,.int .i64 d2] 110)) = V at *
          generalize u1.heap.size = XD at *
          refine (ans_is (fits_any fr ev ct un D M Y dn dc mn mc yn yc ds ms ys day _ HL.out) HF.out).mono ?_
          rintro e u2 ⟨rfl,hb⟩
          replace HBR:=hide (andthen HBR.out hb)
          replace HO:=hide (HO.out.keep hb)
          replace s0:=cell_keep hb s0
          replace s1:=cell_keep hb s1
          replace s2:=cell_keep hb s2
          replace s3:=cell_keep hb s3
          replace s4:=cell_keep hb s4
          replace s5:=cell_keep hb s5
          replace s6:=cell_keep hb s6
          replace e0:=cell_keep hb e0
          replace e1:=cell_keep hb e1
          replace e2:=cell_keep hb e2
          replace t0:=cell_keep hb t0
          replace t1:=cell_keep hb t1
          replace t2:=cell_keep hb t2
          clear hb
          have hsz:=HBR.out.size
          have hown:=HO.out
          have hlen : ((upto a day).filter (refB ⟨fr,ev,ct,un,ds,ms,ys⟩ s)).length <= 1000000:=Nat.le_trans (List.length_filter_le _ _) (by rw [upto_len]; omega)
          go_wp2_with (at_builtin; refine wp_oneI (l:=(upto a day).filter (refB ⟨fr,ev,ct,un,ds,ms,ys⟩ s)) (p:=day) rfl _ _ rfl rfl rfl rfl hown hsz hlen ?_; intro v1 w1 hown1 hb1)
          replace HO:=hide hown1
          replace HBR:=hide (HBR.out.trans hb1)
          clear hown hown1 hb1 hsz hlen
          go_wp2_with fail
          go_roundw
          case rel => exact ⟨day + 1,by omega,by omega,by go_num,by rw [HN.out]; exact HO.out,HBR.out⟩
          case measure => simp [intOf]; omega
       ·have gm : (((mn : Nat) : Int) == 0) = false:=by rw [beq_eq_false_iff_ne]; omega
        have jm : (mn == 0) = false:=by rw [beq_eq_false_iff_ne]; omega
        have lm : Hid (ms ≠ [] /\ 0 < ms.length):=hide <| by refine ⟨?_,by have:=QL.out.2.1; omega⟩; intro hc; have q:=QL.out.2.1; rw [hc] at q; simp at q; omega
        rcases Nat.eq_zero_or_pos yn with cy | cy
        ·have gy : (((yn : Nat) : Int) == 0) = true:=by rw [beq_iff_eq]; omega
         have jy : (yn == 0) = true:=by rw [beq_iff_eq]; omega
         have ly : Hid (ys = []):=hide <| by exact List.eq_nil_of_length_eq_zero (by have:=QL.out.2.2; omega)
         have ny : yn <= 0:=by omega
         clear cy
         cases hmm : (m2 == m)
         ·have HN:=hide (filt_out (refB ⟨fr,ev,ct,un,ds,ms,ys⟩ s) a day da (by unfold refB; simp only [hf]; simp [EE.out,ld.out,lm.out,ly.out,HD.out.2.1,HD2.out.2.1,hmm]))
          have HF:=hide hf
          clear hf
          go_wp2_with fail
          refine (rdate_is day y2 m2 d2 _ hday.1 hday.2 HD2.out.1 HD2.out.2.1 HD2.out.2.2).mono ?_
          rintro e u1 ⟨rfl,hb⟩
          replace HBR:=hide (andthen HBR.out hb)
          replace HO:=hide (HO.out.keep hb)
          replace HL:=hide (HL.out.keep hb)
          replace s0:=cell_keep hb s0
          replace s1:=cell_keep hb s1
          replace s2:=cell_keep hb s2
          replace s3:=cell_keep hb s3
          replace s4:=cell_keep hb s4
          replace s5:=cell_keep hb s5
          replace s6:=cell_keep hb s6
          replace e0:=cell_keep hb e0
          replace e1:=cell_keep hb e1
          replace e2:=cell_keep hb e2
          clear hb
          have hb:=more (start u1) (.cells #[.int .i64 y2,.int .i64 m2,.int .i64 d2] 110)
          replace HBR:=hide (andthen HBR.out hb)
          replace HO:=hide (HO.out.keep hb)
          replace HL:=hide (HL.out.keep hb)
          replace s0:=cell_keep hb s0
          replace s1:=cell_keep hb s1
          replace s2:=cell_keep hb s2
          replace s3:=cell_keep hb s3
          replace s4:=cell_keep hb s4
          replace s5:=cell_keep hb s5
          replace s6:=cell_keep hb s6
          replace e0:=cell_keep hb e0
          replace e1:=cell_keep hb e1
          replace e2:=cell_keep hb e2
          clear hb
          have t0 : (u1.alloc (.cells #[.int .i64 y2,.int .i64 m2,.int .i64 d2] 110)).cell? ⟨u1.heap.size,0,none⟩ = some (.int .i64 y2):=by rw [World.cell?_alloc_at _ _ _ _ rfl]; rfl
          have t1 : (u1.alloc (.cells #[.int .i64 y2,.int .i64 m2,.int .i64 d2] 110)).cell? ⟨u1.heap.size,1,none⟩ = some (.int .i64 m2):=by rw [World.cell?_alloc_at _ _ _ _ rfl]; rfl
          have t2 : (u1.alloc (.cells #[.int .i64 y2,.int .i64 m2,.int .i64 d2] 110)).cell? ⟨u1.heap.size,2,none⟩ = some (.int .i64 d2):=by rw [World.cell?_alloc_at _ _ _ _ rfl]; rfl
          go_wp2_with fail
          generalize (u1.alloc (.cells #[.int .i64 y2,.int .i64 m2,.int .i64 d2] 110)) = V at *
          generalize u1.heap.size = XD at *
          refine (ans_is (fits_any fr ev ct un D M Y dn dc mn mc yn yc ds ms ys day _ HL.out) HF.out).mono ?_
          rintro e u2 ⟨rfl,hb⟩
          replace HBR:=hide (andthen HBR.out hb)
          replace HO:=hide (HO.out.keep hb)
          replace s0:=cell_keep hb s0
          replace s1:=cell_keep hb s1
          replace s2:=cell_keep hb s2
          replace s3:=cell_keep hb s3
          replace s4:=cell_keep hb s4
          replace s5:=cell_keep hb s5
          replace s6:=cell_keep hb s6
          replace e0:=cell_keep hb e0
          replace e1:=cell_keep hb e1
          replace e2:=cell_keep hb e2
          replace t0:=cell_keep hb t0
          replace t1:=cell_keep hb t1
          replace t2:=cell_keep hb t2
          clear hb
          go_wp2_with fail
          go_roundw
          case rel => exact ⟨day + 1,by omega,by omega,by go_num,by rw [HN.out]; exact HO.out,HBR.out⟩
          case measure => simp [intOf]; omega
         ·have HN:=hide (filt_in (refB ⟨fr,ev,ct,un,ds,ms,ys⟩ s) a day da (by unfold refB; simp only [hf]; simp [EE.out,ld.out,lm.out,ly.out,HD.out.2.1,HD2.out.2.1,hmm]))
          have HF:=hide hf
          clear hf
          go_wp2_with fail
          refine (rdate_is day y2 m2 d2 _ hday.1 hday.2 HD2.out.1 HD2.out.2.1 HD2.out.2.2).mono ?_
          rintro e u1 ⟨rfl,hb⟩
          replace HBR:=hide (andthen HBR.out hb)
          replace HO:=hide (HO.out.keep hb)
          replace HL:=hide (HL.out.keep hb)
          replace s0:=cell_keep hb s0
          replace s1:=cell_keep hb s1
          replace s2:=cell_keep hb s2
          replace s3:=cell_keep hb s3
          replace s4:=cell_keep hb s4
          replace s5:=cell_keep hb s5
          replace s6:=cell_keep hb s6
          replace e0:=cell_keep hb e0
          replace e1:=cell_keep hb e1
          replace e2:=cell_keep hb e2
          clear hb
          have hb:=more (start u1) (.cells #[.int .i64 y2,.int .i64 m2,.int .i64 d2] 110)
          replace HBR:=hide (andthen HBR.out hb)
          replace HO:=hide (HO.out.keep hb)
          replace HL:=hide (HL.out.keep hb)
          replace s0:=cell_keep hb s0
          replace s1:=cell_keep hb s1
          replace s2:=cell_keep hb s2
          replace s3:=cell_keep hb s3
          replace s4:=cell_keep hb s4
          replace s5:=cell_keep hb s5
          replace s6:=cell_keep hb s6
          replace e0:=cell_keep hb e0
          replace e1:=cell_keep hb e1
          replace e2:=cell_keep hb e2
          clear hb
          have t0 : (u1.alloc (.cells #[.int .i64 y2,.int .i64 m2,.int .i64 d2] 110)).cell? ⟨u1.heap.size,0,none⟩ = some (.int .i64 y2):=by rw [World.cell?_alloc_at _ _ _ _ rfl]; rfl
          have t1 : (u1.alloc (.cells #[.int .i64 y2,.int .i64 m2,.int .i64 d2] 110)).cell? ⟨u1.heap.size,1,none⟩ = some (.int .i64 m2):=by rw [World.cell?_alloc_at _ _ _ _ rfl]; rfl
          have t2 : (u1.alloc (.cells #[.int .i64 y2,.int .i64 m2,.int .i64 d2] 110)).cell? ⟨u1.heap.size,2,none⟩ = some (.int .i64 d2):=by rw [World.cell?_alloc_at _ _ _ _ rfl]; rfl
          go_wp2_with fail
          generalize (u1.alloc (.cells #[.int .i64 y2,.int .i64 m2,.int .i64 d2] 110)) = V at *
          generalize u1.heap.size = XD at *
          refine (ans_is (fits_any fr ev ct un D M Y dn dc mn mc yn yc ds ms ys day _ HL.out) HF.out).mono ?_
          rintro e u2 ⟨rfl,hb⟩
          replace HBR:=hide (andthen HBR.out hb)
          replace HO:=hide (HO.out.keep hb)
          replace s0:=cell_keep hb s0
          replace s1:=cell_keep hb s1
          replace s2:=cell_keep hb s2
          replace s3:=cell_keep hb s3
          replace s4:=cell_keep hb s4
          replace s5:=cell_keep hb s5
          replace s6:=cell_keep hb s6
          replace e0:=cell_keep hb e0
          replace e1:=cell_keep hb e1
          replace e2:=cell_keep hb e2
          replace t0:=cell_keep hb t0
          replace t1:=cell_keep hb t1
          replace t2:=cell_keep hb t2
          clear hb
          have hsz:=HBR.out.size
          have hown:=HO.out
          have hlen : ((upto a day).filter (refB ⟨fr,ev,ct,un,ds,ms,ys⟩ s)).length <= 1000000:=Nat.le_trans (List.length_filter_le _ _) (by rw [upto_len]; omega)
          go_wp2_with (at_builtin; refine wp_oneI (l:=(upto a day).filter (refB ⟨fr,ev,ct,un,ds,ms,ys⟩ s)) (p:=day) rfl _ _ rfl rfl rfl rfl hown hsz hlen ?_; intro v1 w1 hown1 hb1)
          replace HO:=hide hown1
          replace HBR:=hide (HBR.out.trans hb1)
          clear hown hown1 hb1 hsz hlen
          go_wp2_with fail
          go_roundw
          case rel => exact ⟨day + 1,by omega,by omega,by go_num,by rw [HN.out]; exact HO.out,HBR.out⟩
          case measure => simp [intOf]; omega
        ·have gy : (((yn : Nat) : Int) == 0) = false:=by rw [beq_eq_false_iff_ne]; omega
         have jy : (yn == 0) = false:=by rw [beq_eq_false_iff_ne]; omega
         have ly : Hid (ys ≠ [] /\ 0 < ys.length):=hide <| by refine ⟨?_,by have:=QL.out.2.2; omega⟩; intro hc; have q:=QL.out.2.2; rw [hc] at q; simp at q; omega
         have HN:=hide (filt_in (refB ⟨fr,ev,ct,un,ds,ms,ys⟩ s) a day da (by unfold refB; simp only [hf]; simp [EE.out,ld.out,lm.out,ly.out]))
         have HF:=hide hf
         clear hf
         go_wp2_with fail
         refine (rdate_is day y2 m2 d2 _ hday.1 hday.2 HD2.out.1 HD2.out.2.1 HD2.out.2.2).mono ?_
         rintro e u1 ⟨rfl,hb⟩
         replace HBR:=hide (andthen HBR.out hb)
         replace HO:=hide (HO.out.keep hb)
         replace HL:=hide (HL.out.keep hb)
         replace s0:=cell_keep hb s0
         replace s1:=cell_keep hb s1
         replace s2:=cell_keep hb s2
         replace s3:=cell_keep hb s3
         replace s4:=cell_keep hb s4
         replace s5:=cell_keep hb s5
         replace s6:=cell_keep hb s6
         replace e0:=cell_keep hb e0
         replace e1:=cell_keep hb e1
         replace e2:=cell_keep hb e2
         clear hb
         have hb:=more (start u1) (.cells #[.int .i64 y2,.int .i64 m2,.int .i64 d2] 110)
         replace HBR:=hide (andthen HBR.out hb)
         replace HO:=hide (HO.out.keep hb)
         replace HL:=hide (HL.out.keep hb)
         replace s0:=cell_keep hb s0
         replace s1:=cell_keep hb s1
         replace s2:=cell_keep hb s2
         replace s3:=cell_keep hb s3
         replace s4:=cell_keep hb s4
         replace s5:=cell_keep hb s5
         replace s6:=cell_keep hb s6
         replace e0:=cell_keep hb e0
         replace e1:=cell_keep hb e1
         replace e2:=cell_keep hb e2
         clear hb
         have t0 : (u1.alloc (.cells #[.int .i64 y2,.int .i64 m2,.int .i64 d2] 110)).cell? ⟨u1.heap.size,0,none⟩ = some (.int .i64 y2):=by rw [World.cell?_alloc_at _ _ _ _ rfl]; rfl
         have t1 : (u1.alloc (.cells #[.int .i64 y2,.int .i64 m2,.int .i64 d2] 110)).cell? ⟨u1.heap.size,1,none⟩ = some (.int .i64 m2):=by rw [World.cell?_alloc_at _ _ _ _ rfl]; rfl
         have t2 : (u1.alloc (.cells #[.int .i64 y2,.int .i64 m2,.int .i64 d2] 110)).cell? ⟨u1.heap.size,2,none⟩ = some (.int .i64 d2):=by rw [World.cell?_alloc_at _ _ _ _ rfl]; rfl
         go_wp2_with fail
         generalize (u1.alloc (.cells #[.int .i64 y2,.int .i64 m2,.int .i64 d2] 110)) = V at *
         generalize u1.heap.size = XD at *
         refine (ans_is (fits_any fr ev ct un D M Y dn dc mn mc yn yc ds ms ys day _ HL.out) HF.out).mono ?_
         rintro e u2 ⟨rfl,hb⟩
         replace HBR:=hide (andthen HBR.out hb)
         replace HO:=hide (HO.out.keep hb)
         replace s0:=cell_keep hb s0
         replace s1:=cell_keep hb s1
         replace s2:=cell_keep hb s2
         replace s3:=cell_keep hb s3
         replace s4:=cell_keep hb s4
         replace s5:=cell_keep hb s5
         replace s6:=cell_keep hb s6
         replace e0:=cell_keep hb e0
         replace e1:=cell_keep hb e1
         replace e2:=cell_keep hb e2
         replace t0:=cell_keep hb t0
         replace t1:=cell_keep hb t1
         replace t2:=cell_keep hb t2
         clear hb
         have hsz:=HBR.out.size
         have hown:=HO.out
         have hlen : ((upto a day).filter (refB ⟨fr,ev,ct,un,ds,ms,ys⟩ s)).length <= 1000000:=Nat.le_trans (List.length_filter_le _ _) (by rw [upto_len]; omega)
         go_wp2_with (at_builtin; refine wp_oneI (l:=(upto a day).filter (refB ⟨fr,ev,ct,un,ds,ms,ys⟩ s)) (p:=day) rfl _ _ rfl rfl rfl rfl hown hsz hlen ?_; intro v1 w1 hown1 hb1)
         replace HO:=hide hown1
         replace HBR:=hide (HBR.out.trans hb1)
         clear hown hown1 hb1 hsz hlen
         go_wp2_with fail
         go_roundw
         case rel => exact ⟨day + 1,by omega,by omega,by go_num,by rw [HN.out]; exact HO.out,HBR.out⟩
         case measure => simp [intOf]; omega
     ·have gd : (((dn : Nat) : Int) == 0) = false:=by rw [beq_eq_false_iff_ne]; omega
      have jd : (dn == 0) = false:=by rw [beq_eq_false_iff_ne]; omega
      have ld : Hid (ds ≠ [] /\ 0 < ds.length):=hide <| by refine ⟨?_,by have:=QL.out.1; omega⟩; intro hc; have q:=QL.out.1; rw [hc] at q; simp at q; omega
      cases hf : fitsB ⟨fr,ev,ct,un,ds,ms,ys⟩ day
      ·have HN:=hide (filt_out (refB ⟨fr,ev,ct,un,ds,ms,ys⟩ s) a day da (by unfold refB; simp only [hf]; simp [EE.out]))
       have HF:=hide hf
       clear hf
       go_wp2_with fail
       refine (rdate_is day y2 m2 d2 _ hday.1 hday.2 HD2.out.1 HD2.out.2.1 HD2.out.2.2).mono ?_
       rintro e u1 ⟨rfl,hb⟩
       replace HBR:=hide (andthen HBR.out hb)
       replace HO:=hide (HO.out.keep hb)
       replace HL:=hide (HL.out.keep hb)
       replace s0:=cell_keep hb s0
       replace s1:=cell_keep hb s1
       replace s2:=cell_keep hb s2
       replace s3:=cell_keep hb s3
       replace s4:=cell_keep hb s4
       replace s5:=cell_keep hb s5
       replace s6:=cell_keep hb s6
       replace e0:=cell_keep hb e0
       replace e1:=cell_keep hb e1
       replace e2:=cell_keep hb e2
       clear hb
       have hb:=more (start u1) (.cells #[.int .i64 y2,.int .i64 m2,.int .i64 d2] 110)
       replace HBR:=hide (andthen HBR.out hb)
       replace HO:=hide (HO.out.keep hb)
       replace HL:=hide (HL.out.keep hb)
       replace s0:=cell_keep hb s0
       replace s1:=cell_keep hb s1
       replace s2:=cell_keep hb s2
       replace s3:=cell_keep hb s3
       replace s4:=cell_keep hb s4
       replace s5:=cell_keep hb s5
       replace s6:=cell_keep hb s6
       replace e0:=cell_keep hb e0
       replace e1:=cell_keep hb e1
       replace e2:=cell_keep hb e2
       clear hb
       have t0 : (u1.alloc (.cells #[.int .i64 y2,.int .i64 m2,.int .i64 d2] 110)).cell? ⟨u1.heap.size,0,none⟩ = some (.int .i64 y2):=by rw [World.cell?_alloc_at _ _ _ _ rfl]; rfl
       have t1 : (u1.alloc (.cells #[.int .i64 y2,.int .i64 m2,.int .i64 d2] 110)).cell? ⟨u1.heap.size,1,none⟩ = some (.int .i64 m2):=by rw [World.cell?_alloc_at _ _ _ _ rfl]; rfl
       have t2 : (u1.alloc (.cells #[.int .i64 y2,.int .i64 m2,.int .i64 d2] 110)).cell? ⟨u1.heap.size,2,none⟩ = some (.int .i64 d2):=by rw [World.cell?_alloc_at _ _ _ _ rfl]; rfl
       go_wp2_with fail
       generalize (u1.alloc (.cells #[.int .i64 y2,.int .i64 m2,.int .i64 d2] 110)) = V at *
       generalize u1.heap.size = XD at *
       refine (ans_is (fits_any fr ev ct un D M Y dn dc mn mc yn yc ds ms ys day _ HL.out) HF.out).mono ?_
       rintro e u2 ⟨rfl,hb⟩
       replace HBR:=hide (andthen HBR.out hb)
       replace HO:=hide (HO.out.keep hb)
       replace s0:=cell_keep hb s0
       replace s1:=cell_keep hb s1
       replace s2:=cell_keep hb s2
       replace s3:=cell_keep hb s3
       replace s4:=cell_keep hb s4
       replace s5:=cell_keep hb s5
       replace s6:=cell_keep hb s6
       replace e0:=cell_keep hb e0
       replace e1:=cell_keep hb e1
       replace e2:=cell_keep hb e2
       replace t0:=cell_keep hb t0
       replace t1:=cell_keep hb t1
       replace t2:=cell_keep hb t2
       clear hb
       go_wp2_with fail
       go_roundw
       case rel => exact ⟨day + 1,by omega,by omega,by go_num,by rw [HN.out]; exact HO.out,HBR.out⟩
       case measure => simp [intOf]; omega
      ·rcases Nat.eq_zero_or_pos yn with cy | cy
       ·have gy : (((yn : Nat) : Int) == 0) = true:=by rw [beq_iff_eq]; omega
        have jy : (yn == 0) = true:=by rw [beq_iff_eq]; omega
        have ly : Hid (ys = []):=hide <| by exact List.eq_nil_of_length_eq_zero (by have:=QL.out.2.2; omega)
        have ny : yn <= 0:=by omega
        clear cy
        cases hmm : (m2 == m)
        ·have HN:=hide (filt_out (refB ⟨fr,ev,ct,un,ds,ms,ys⟩ s) a day da (by unfold refB; simp only [hf]; simp [EE.out,ld.out,ly.out,HD.out.2.1,HD2.out.2.1,hmm]))
         have HF:=hide hf
         clear hf
         go_wp2_with fail
         refine (rdate_is day y2 m2 d2 _ hday.1 hday.2 HD2.out.1 HD2.out.2.1 HD2.out.2.2).mono ?_
         rintro e u1 ⟨rfl,hb⟩
         replace HBR:=hide (andthen HBR.out hb)
         replace HO:=hide (HO.out.keep hb)
         replace HL:=hide (HL.out.keep hb)
         replace s0:=cell_keep hb s0
         replace s1:=cell_keep hb s1
         replace s2:=cell_keep hb s2
         replace s3:=cell_keep hb s3
         replace s4:=cell_keep hb s4
         replace s5:=cell_keep hb s5
         replace s6:=cell_keep hb s6
         replace e0:=cell_keep hb e0
         replace e1:=cell_keep hb e1
         replace e2:=cell_keep hb e2
         clear hb
         have hb:=more (start u1) (.cells #[.int .i64 y2,.int .i64 m2,.int .i64 d2] 110)
         replace HBR:=hide (andthen HBR.out hb)
         replace HO:=hide (HO.out.keep hb)
         replace HL:=hide (HL.out.keep hb)
         replace s0:=cell_keep hb s0
         replace s1:=cell_keep hb s1
         replace s2:=cell_keep hb s2
         replace s3:=cell_keep hb s3
         replace s4:=cell_keep hb s4
         replace s5:=cell_keep hb s5
         replace s6:=cell_keep hb s6
         replace e0:=cell_keep hb e0
         replace e1:=cell_keep hb e1
         replace e2:=cell_keep hb e2
         clear hb
         have t0 : (u1.alloc (.cells #[.int .i64 y2,.int .i64 m2,.int .i64 d2] 110)).cell? ⟨u1.heap.size,0,none⟩ = some (.int .i64 y2):=by rw [World.cell?_alloc_at _ _ _ _ rfl]; rfl
         have t1 : (u1.alloc (.cells #[.int .i64 y2,.int .i64 m2,.int .i64 d2] 110)).cell? ⟨u1.heap.size,1,none⟩ = some (.int .i64 m2):=by rw [World.cell?_alloc_at _ _ _ _ rfl]; rfl
         have t2 : (u1.alloc (.cells #[.int .i64 y2,.int .i64 m2,.int .i64 d2] 110)).cell? ⟨u1.heap.size,2,none⟩ = some (.int .i64 d2):=by rw [World.cell?_alloc_at _ _ _ _ rfl]; rfl
         go_wp2_with fail
         generalize (u1.alloc (.cells #[.int .i64 y2,.int .i64 m2,.int .i64 d2] 110)) = V at *
         generalize u1.heap.size = XD at *
         refine (ans_is (fits_any fr ev ct un D M Y dn dc mn mc yn yc ds ms ys day _ HL.out) HF.out).mono ?_
         rintro e u2 ⟨rfl,hb⟩
         replace HBR:=hide (andthen HBR.out hb)
         replace HO:=hide (HO.out.keep hb)
         replace s0:=cell_keep hb s0
         replace s1:=cell_keep hb s1
         replace s2:=cell_keep hb s2
         replace s3:=cell_keep hb s3
         replace s4:=cell_keep hb s4
         replace s5:=cell_keep hb s5
         replace s6:=cell_keep hb s6
         replace e0:=cell_keep hb e0
         replace e1:=cell_keep hb e1
         replace e2:=cell_keep hb e2
         replace t0:=cell_keep hb t0
         replace t1:=cell_keep hb t1
         replace t2:=cell_keep hb t2
         clear hb
         go_wp2_with fail
         go_roundw
         case rel => exact ⟨day + 1,by omega,by omega,by go_num,by rw [HN.out]; exact HO.out,HBR.out⟩
         case measure => simp [intOf]; omega
        ·have HN:=hide (filt_in (refB ⟨fr,ev,ct,un,ds,ms,ys⟩ s) a day da (by unfold refB; simp only [hf]; simp [EE.out,ld.out,ly.out,HD.out.2.1,HD2.out.2.1,hmm]))
         have HF:=hide hf
         clear hf
         go_wp2_with fail
         refine (rdate_is day y2 m2 d2 _ hday.1 hday.2 HD2.out.1 HD2.out.2.1 HD2.out.2.2).mono ?_
         rintro e u1 ⟨rfl,hb⟩
         replace HBR:=hide (andthen HBR.out hb)
         replace HO:=hide (HO.out.keep hb)
         replace HL:=hide (HL.out.keep hb)
         replace s0:=cell_keep hb s0
         replace s1:=cell_keep hb s1
         replace s2:=cell_keep hb s2
         replace s3:=cell_keep hb s3
         replace s4:=cell_keep hb s4
         replace s5:=cell_keep hb s5
         replace s6:=cell_keep hb s6
         replace e0:=cell_keep hb e0
         replace e1:=cell_keep hb e1
         replace e2:=cell_keep hb e2
         clear hb
         have hb:=more (start u1) (.cells #[.int .i64 y2,.int .i64 m2,.int .i64 d2] 110)
         replace HBR:=hide (andthen HBR.out hb)
         replace HO:=hide (HO.out.keep hb)
         replace HL:=hide (HL.out.keep hb)
         replace s0:=cell_keep hb s0
         replace s1:=cell_keep hb s1
         replace s2:=cell_keep hb s2
         replace s3:=cell_keep hb s3
         replace s4:=cell_keep hb s4
         replace s5:=cell_keep hb s5
         replace s6:=cell_keep hb s6
         replace e0:=cell_keep hb e0
         replace e1:=cell_keep hb e1
         replace e2:=cell_keep hb e2
         clear hb
         have t0 : (u1.alloc (.cells #[.int .i64 y2,.int .i64 m2,.int .i64 d2] 110)).cell? ⟨u1.heap.size,0,none⟩ = some (.int .i64 y2):=by rw [World.cell?_alloc_at _ _ _ _ rfl]; rfl
         have t1 : (u1.alloc (.cells #[.int .i64 y2,.int .i64 m2,.int .i64 d2] 110)).cell? ⟨u1.heap.size,1,none⟩ = some (.int .i64 m2):=by rw [World.cell?_alloc_at _ _ _ _ rfl]; rfl
         have t2 : (u1.alloc (.cells #[.int .i64 y2,.int .i64 m2,.int .i64 d2] 110)).cell? ⟨u1.heap.size,2,none⟩ = some (.int .i64 d2):=by rw [World.cell?_alloc_at _ _ _ _ rfl]; rfl
         go_wp2_with fail
         generalize (u1.alloc (.cells #[.int .i64 y2,.int .i64 m2,.int .i64 d2] 110)) = V at *
         generalize u1.heap.size = XD at *
         refine (ans_is (fits_any fr ev ct un D M Y dn dc mn mc yn yc ds ms ys day _ HL.out) HF.out).mono ?_
         rintro e u2 ⟨rfl,hb⟩
         replace HBR:=hide (andthen HBR.out hb)
         replace HO:=hide (HO.out.keep hb)
         replace s0:=cell_keep hb s0
         replace s1:=cell_keep hb s1
         replace s2:=cell_keep hb s2
         replace s3:=cell_keep hb s3
         replace s4:=cell_keep hb s4
         replace s5:=cell_keep hb s5
         replace s6:=cell_keep hb s6
         replace e0:=cell_keep hb e0
         replace e1:=cell_keep hb e1
         replace e2:=cell_keep hb e2
         replace t0:=cell_keep hb t0
         replace t1:=cell_keep hb t1
         replace t2:=cell_keep hb t2
         clear hb
         have hsz:=HBR.out.size
         have hown:=HO.out
         have hlen : ((upto a day).filter (refB ⟨fr,ev,ct,un,ds,ms,ys⟩ s)).length <= 1000000:=Nat.le_trans (List.length_filter_le _ _) (by rw [upto_len]; omega)
         go_wp2_with (at_builtin; refine wp_oneI (l:=(upto a day).filter (refB ⟨fr,ev,ct,un,ds,ms,ys⟩ s)) (p:=day) rfl _ _ rfl rfl rfl rfl hown hsz hlen ?_; intro v1 w1 hown1 hb1)
         replace HO:=hide hown1
         replace HBR:=hide (HBR.out.trans hb1)
         clear hown hown1 hb1 hsz hlen
         go_wp2_with fail
         go_roundw
         case rel => exact ⟨day + 1,by omega,by omega,by go_num,by rw [HN.out]; exact HO.out,HBR.out⟩
         case measure => simp [intOf]; omega
       ·have gy : (((yn : Nat) : Int) == 0) = false:=by rw [beq_eq_false_iff_ne]; omega
        have jy : (yn == 0) = false:=by rw [beq_eq_false_iff_ne]; omega
        have ly : Hid (ys ≠ [] /\ 0 < ys.length):=hide <| by refine ⟨?_,by have:=QL.out.2.2; omega⟩; intro hc; have q:=QL.out.2.2; rw [hc] at q; simp at q; omega
        have HN:=hide (filt_in (refB ⟨fr,ev,ct,un,ds,ms,ys⟩ s) a day da (by unfold refB; simp only [hf]; simp [EE.out,ld.out,ly.out]))
        have HF:=hide hf
        clear hf
        go_wp2_with fail
        refine (rdate_is day y2 m2 d2 _ hday.1 hday.2 HD2.out.1 HD2.out.2.1 HD2.out.2.2).mono ?_
        rintro e u1 ⟨rfl,hb⟩
        replace HBR:=hide (andthen HBR.out hb)
        replace HO:=hide (HO.out.keep hb)
        replace HL:=hide (HL.out.keep hb)
        replace s0:=cell_keep hb s0
        replace s1:=cell_keep hb s1
        replace s2:=cell_keep hb s2
        replace s3:=cell_keep hb s3
        replace s4:=cell_keep hb s4
        replace s5:=cell_keep hb s5
        replace s6:=cell_keep hb s6
        replace e0:=cell_keep hb e0
        replace e1:=cell_keep hb e1
        replace e2:=cell_keep hb e2
        clear hb
        have hb:=more (start u1) (.cells #[.int .i64 y2,.int .i64 m2,.int .i64 d2] 110)
        replace HBR:=hide (andthen HBR.out hb)
        replace HO:=hide (HO.out.keep hb)
        replace HL:=hide (HL.out.keep hb)
        replace s0:=cell_keep hb s0
        replace s1:=cell_keep hb s1
        replace s2:=cell_keep hb s2
        replace s3:=cell_keep hb s3
        replace s4:=cell_keep hb s4
        replace s5:=cell_keep hb s5
        replace s6:=cell_keep hb s6
        replace e0:=cell_keep hb e0
        replace e1:=cell_keep hb e1
        replace e2:=cell_keep hb e2
        clear hb
        have t0 : (u1.alloc (.cells #[.int .i64 y2,.int .i64 m2,.int .i64 d2] 110)).cell? ⟨u1.heap.size,0,none⟩ = some (.int .i64 y2):=by rw [World.cell?_alloc_at _ _ _ _ rfl]; rfl
        have t1 : (u1.alloc (.cells #[.int .i64 y2,.int .i64 m2,.int .i64 d2] 110)).cell? ⟨u1.heap.size,1,none⟩ = some (.int .i64 m2):=by rw [World.cell?_alloc_at _ _ _ _ rfl]; rfl
        have t2 : (u1.alloc (.cells #[.int .i64 y2,.int .i64 m2,.int .i64 d2] 110)).cell? ⟨u1.heap.size,2,none⟩ = some (.int .i64 d2):=by rw [World.cell?_alloc_at _ _ _ _ rfl]; rfl
        go_wp2_with fail
        generalize (u1.alloc (.cells #[.int .i64 y2,.int .i64 m2,.int .i64 d2] 110)) = V at *
        generalize u1.heap.size = XD at *
        refine (ans_is (fits_any fr ev ct un D M Y dn dc mn mc yn yc ds ms ys day _ HL.out) HF.out).mono ?_
        rintro e u2 ⟨rfl,hb⟩
        replace HBR:=hide (andthen HBR.out hb)
        replace HO:=hide (HO.out.keep hb)
        replace s0:=cell_keep hb s0
        replace s1:=cell_keep hb s1
        replace s2:=cell_keep hb s2
        replace s3:=cell_keep hb s3
        replace s4:=cell_keep hb s4
        replace s5:=cell_keep hb s5
        replace s6:=cell_keep hb s6
        replace e0:=cell_keep hb e0
        replace e1:=cell_keep hb e1
        replace e2:=cell_keep hb e2
        replace t0:=cell_keep hb t0
        replace t1:=cell_keep hb t1
        replace t2:=cell_keep hb t2
        clear hb
        have hsz:=HBR.out.size
        have hown:=HO.out
        have hlen : ((upto a day).filter (refB ⟨fr,ev,ct,un,ds,ms,ys⟩ s)).length <= 1000000:=Nat.le_trans (List.length_filter_le _ _) (by rw [upto_len]; omega)
        go_wp2_with (at_builtin; refine wp_oneI (l:=(upto a day).filter (refB ⟨fr,ev,ct,un,ds,ms,ys⟩ s)) (p:=day) rfl _ _ rfl rfl rfl rfl hown hsz hlen ?_; intro v1 w1 hown1 hb1)
        replace HO:=hide hown1
        replace HBR:=hide (HBR.out.trans hb1)
        clear hown hown1 hb1 hsz hlen
        go_wp2_with fail
        go_roundw
        case rel => exact ⟨day + 1,by omega,by omega,by go_num,by rw [HN.out]; exact HO.out,HBR.out⟩
        case measure => simp [intOf]; omega
   ·obtain rfl : day = b:=by omega
    go_wp2_with fail
    go_ret
    exact ⟨_,rfl,by rw [HE.out]; exact OwnI.low HO.out HBX.out.size,andthen HBX.out HBR.out⟩
end Go.Proofs.YtgihekokbgggcaaGreat.R

/- ExCo; ExCode of the recipes, what is needed of them. -/
import Derived.Test.YtgihekokbgggcaaGreatZBExC
import Derived.Test.YtgihekokbgggcaaGreatZBM3
import Derived.Test.YtgihekokbgggcaaGreatZBDaF
import Derived.Test.YtgihekokbgggcaaGreatZW1
set_option maxHeartbeats 8000000
set_option maxRecDepth 1000000
namespace Go.Proofs.YtgihekokbgggcaaGreat
open Go.RowKit Rul Go.Sort
theorem mostOf_is (fr ev ct un : Int) (D M Y : Option Addr) (dn dc mn mc yn yc : Nat) (q : Int) (w : World) (h : (if 0 < ct then ct else 41) = q) :
  Calls Tryz.prog 110 #[.agg #[.int .i64 fr,.int .i64 ev,.int .i64 ct,.int .i64 un,.slice D dn dc,.slice M mn mc,.slice Y yn yc]] w (Ans w (.int .i64 q)):=by
 have hbx:=more (start w) (.cells #[.int .i64 fr,.int .i64 ev,.int .i64 ct,.int .i64 un,.slice D dn dc,.slice M mn mc,.slice Y yn yc] 39)
 have s2 : (w.alloc (.cells #[.int .i64 fr,.int .i64 ev,.int .i64 ct,.int .i64 un,.slice D dn dc,.slice M mn mc,.slice Y yn yc] 39)).cell? ⟨w.heap.size,2,none⟩ = some (.int .i64 ct):=by rw [World.cell?_alloc_at _ _ _ _ rfl]; rfl
 by_cases hc : 0 < ct
 ·rw [if_pos hc] at h
  subst h
  go_enter Tryz.func110,Tryz.ntmps110
  go_wp2_with fail
  go_ret
  exact ⟨rfl,hbx⟩
 ·rw [if_neg hc] at h
  subst h
  go_enter Tryz.func110,Tryz.ntmps110
  go_wp2_with fail
  go_ret
  exact ⟨rfl,hbx⟩
theorem lastOf_is (fr ev ct un : Int) (D M Y : Option Addr) (dn dc mn mc yn yc : Nat) (q : Int) (w : World) (h : (if 0 <= un then un else 52595999) = q) :
  Calls Tryz.prog 111 #[.agg #[.int .i64 fr,.int .i64 ev,.int .i64 ct,.int .i64 un,.slice D dn dc,.slice M mn mc,.slice Y yn yc]] w (Ans w (.int .i64 q)):=by
 have hbx:=more (start w) (.cells #[.int .i64 fr,.int .i64 ev,.int .i64 ct,.int .i64 un,.slice D dn dc,.slice M mn mc,.slice Y yn yc] 39)
 have s3 : (w.alloc (.cells #[.int .i64 fr,.int .i64 ev,.int .i64 ct,.int .i64 un,.slice D dn dc,.slice M mn mc,.slice Y yn yc] 39)).cell? ⟨w.heap.size,3,none⟩ = some (.int .i64 un):=by rw [World.cell?_alloc_at _ _ _ _ rfl]; rfl
 by_cases hc : 0 <= un
 ·rw [if_pos hc] at h
  subst h
  go_enter Tryz.func111,Tryz.ntmps111
  go_wp2_with fail
  go_ret
  exact ⟨rfl,hbx⟩
 ·rw [if_neg hc] at h
  subst h
  go_enter Tryz.func111,Tryz.ntmps111
  go_wp2_with fail
  go_ret
  exact ⟨rfl,hbx⟩
theorem once_at (r : Rul.T) (hi : isB r = true) (h0 : r.fr = 0) : sameB r once = true:=by
 have:=R.rec_0 r h0
 unfold isB at hi; rw [this,Bool.or_false] at hi; exact hi
theorem occ_once (fr ev ct un : Int) (D M Y : Option Addr) (dn dc mn mc yn yc : Nat) (ds : List Wd) (ms ys : List Int) (s : Int) (w : World) (h : Lies w D dn M mn Y yn ds ms ys) (hi : isB ⟨fr,ev,ct,un,ds,ms,ys⟩ = true) (h0 : fr = 0) :
  Calls Tryz.prog 85 #[.agg #[.int .i64 fr,.int .i64 ev,.int .i64 ct,.int .i64 un,.slice D dn dc,.slice M mn mc,.slice Y yn yc],.int .i64 s] w (GivesI w [s]):=by
 have HS:=hide (once_at ⟨fr,ev,ct,un,ds,ms,ys⟩ hi h0)
 have HBX:=hide (more (start w) (.cells #[.int .i64 fr,.int .i64 ev,.int .i64 ct,.int .i64 un,.slice D dn dc,.slice M mn mc,.slice Y yn yc] 39))
 have HL:=hide (h.keep HBX.out)
 have hAC : ∀ i v,(#[.int .i64 fr,.int .i64 ev,.int .i64 ct,.int .i64 un,.slice D dn dc,.slice M mn mc,.slice Y yn yc] : Array Value)[i]? = some v -> (w.alloc (.cells #[.int .i64 fr,.int .i64 ev,.int .i64 ct,.int .i64 un,.slice D dn dc,.slice M mn mc,.slice Y yn yc] 39)).cell? ⟨w.heap.size,i,none⟩ = some v:=fun i v h => by rw [World.cell?_alloc_at _ _ _ _ rfl]; exact h
 have s0:=hAC 0 _ rfl
 have s1:=hAC 1 _ rfl
 have s2:=hAC 2 _ rfl
 have s3:=hAC 3 _ rfl
 have s4:=hAC 4 _ rfl
 have s5:=hAC 5 _ rfl
 have s6:=hAC 6 _ rfl
 clear hAC
 clear h hi h0
 go_enter Tryz.func85,Tryz.ntmps85
 go_wp2_with fail
 generalize (w.alloc (.cells #[.int .i64 fr,.int .i64 ev,.int .i64 ct,.int .i64 un,.slice D dn dc,.slice M mn mc,.slice Y yn yc] 39)) = W at *
 have fs0:=fun d os => cell_regrown s0 d os
 have fs1:=fun d os => cell_regrown s1 d os
 have fs2:=fun d os => cell_regrown s2 d os
 have fs3:=fun d os => cell_regrown s3 d os
 have fs4:=fun d os => cell_regrown s4 d os
 have fs5:=fun d os => cell_regrown s5 d os
 have fs6:=fun d os => cell_regrown s6 d os
 have L1:=hide (fun d os => Lies.keep HL.out (below_regrown W d os))
 have hbq:=fun d os => below_regrown W d os
 refine wp_region_quiet_below (by kernel_rfl) (by kernel_rfl) ?_
 repeat (first | go_big_quiet_step ((first | (go_at_call 101; exact Calls.regrown_of (once_any _)) | (go_at_call 100; exact Calls.regrown_of (ans_is (same_any fr ev ct un D M Y dn dc mn mc yn yc 0 0 0 (-1) none none none 0 0 0 0 0 0 ds ms ys [] [] [] _ (L1.out _ _) (lies_once _)) HS.out)))) | quiet_step ((first | (go_at_call 101; exact Calls.regrown_of (once_any _)) | (go_at_call 100; exact Calls.regrown_of (ans_is (same_any fr ev ct un D M Y dn dc mn mc yn yc 0 0 0 (-1) none none none 0 0 0 0 0 0 ds ms ys [] [] [] _ (L1.out _ _) (lies_once _)) HS.out)))))
 refine wpQuiet_nil ?_
 intro _ hw'
 obtain ⟨⟨nq,osq⟩,hw''⟩:=hw'
 subst hw''
 have hb:=hbq nq osq
 replace HBX:=hide (andthen HBX.out hb)
 replace HL:=hide (HL.out.keep hb)
 replace s0:=cell_keep hb s0
 replace s1:=cell_keep hb s1
 replace s2:=cell_keep hb s2
 replace s3:=cell_keep hb s3
 replace s4:=cell_keep hb s4
 replace s5:=cell_keep hb s5
 replace s6:=cell_keep hb s6
 clear hb hbq fs0 fs1 fs2 fs3 fs4 fs5 fs6 L1
 generalize (grow (redrawn W nq) osq) = W1 at *
 go_wp2_with fail
 go_ret
 exact ⟨_,rfl,own_one _ _ s HBX.out.size,more HBX.out _⟩
theorem occ_rec (fr ev ct un : Int) (D M Y : Option Addr) (dn dc mn mc yn yc : Nat) (ds : List Wd) (ms ys : List Int) (s : Int) (w : World) (h : Lies w D dn M mn Y yn ds ms ys) (hr : recB ⟨fr,ev,ct,un,ds,ms,ys⟩ = true) (h1 : 0 <= s) (h2 : s < 52596000) :
  Calls Tryz.prog 85 #[.agg #[.int .i64 fr,.int .i64 ev,.int .i64 ct,.int .i64 un,.slice D dn dc,.slice M mn mc,.slice Y yn yc],.int .i64 s] w (GivesI w (allL ⟨fr,ev,ct,un,ds,ms,ys⟩ s)):=by
 have t1 : s.tdiv 1440 = s / 1440:=Int.tdiv_eq_ediv_of_nonneg (by omega)
 have t2 : s.tmod 1440 = s % 1440:=Int.tmod_eq_emod_of_nonneg (by omega)
 obtain ⟨day,hday⟩ : ∃ day,s / 1440 = day:=⟨_,rfl⟩
 obtain ⟨at0,hat⟩ : ∃ at0,s % 1440 = at0:=⟨_,rfl⟩
 have hat1 : 0 <= at0 /\ at0 < 1440:=by omega
 have hrng : rngB fr ev ct un = true:=by rw [recB_is,Bool.and_eq_true] at hr; exact hr.1
 rw [R.rng_iff] at hrng
 obtain ⟨_,_,_,_,ct0,ct1,un0,un1,_⟩:=hrng
 have HS:=hide (rec_once ⟨fr,ev,ct,un,ds,ms,ys⟩ hr).2
 obtain ⟨cn,hcn⟩ : ∃ cn,capN ⟨fr,ev,ct,un,ds,ms,ys⟩ = cn:=⟨_,rfl⟩
 have hcn1 : cn <= 41:=by rw [<- hcn]; unfold capN; show (if 0 < ct then ct.toNat else 41) <= 41; split <;> omega
 have HMO : Hid ((if 0 < ct then ct else 41) = (cn : Int)):=hide (by rw [<- hcn]; exact mostN_cap ⟨fr,ev,ct,un,ds,ms,ys⟩)
 obtain ⟨lst,hlst⟩ : ∃ lst,lstU ⟨fr,ev,ct,un,ds,ms,ys⟩ = lst:=⟨_,rfl⟩
 have HLA : Hid ((if 0 <= un then un else 52595999) = lst):=hide hlst
 have HLT:=hide hlst
 have HCN:=hide hcn
 have HBX:=hide (more (start w) (.cells #[.int .i64 fr,.int .i64 ev,.int .i64 ct,.int .i64 un,.slice D dn dc,.slice M mn mc,.slice Y yn yc] 39))
 have HL:=hide (h.keep HBX.out)
 have hAC : ∀ i v,(#[.int .i64 fr,.int .i64 ev,.int .i64 ct,.int .i64 un,.slice D dn dc,.slice M mn mc,.slice Y yn yc] : Array Value)[i]? = some v -> (w.alloc (.cells #[.int .i64 fr,.int .i64 ev,.int .i64 ct,.int .i64 un,.slice D dn dc,.slice M mn mc,.slice Y yn yc] 39)).cell? ⟨w.heap.size,i,none⟩ = some v:=fun i v h => by rw [World.cell?_alloc_at _ _ _ _ rfl]; exact h
 have s0:=hAC 0 _ rfl
 have s1:=hAC 1 _ rfl
 have s2:=hAC 2 _ rfl
 have s3:=hAC 3 _ rfl
 have s4:=hAC 4 _ rfl
 have s5:=hAC 5 _ rfl
 have s6:=hAC 6 _ rfl
 clear hAC
 clear h hr hcn hlst
 go_enter Tryz.func85,Tryz.ntmps85
 go_wp2_with fail
 generalize (w.alloc (.cells #[.int .i64 fr,.int .i64 ev,.int .i64 ct,.int .i64 un,.slice D dn dc,.slice M mn mc,.slice Y yn yc] 39)) = W0 at *
 have fs0:=fun d os => cell_regrown s0 d os
 have fs1:=fun d os => cell_regrown s1 d os
 have fs2:=fun d os => cell_regrown s2 d os
 have fs3:=fun d os => cell_regrown s3 d os
 have fs4:=fun d os => cell_regrown s4 d os
 have fs5:=fun d os => cell_regrown s5 d os
 have fs6:=fun d os => cell_regrown s6 d os
 have L1:=hide (fun d os => Lies.keep HL.out (below_regrown W0 d os))
 have hbq:=fun d os => below_regrown W0 d os
 refine wp_region_quiet_below (by kernel_rfl) (by kernel_rfl) ?_
 repeat (first | go_big_quiet_step ((first | (go_at_call 101; exact Calls.regrown_of (once_any _)) | (go_at_call 100; exact Calls.regrown_of (ans_is (same_any fr ev ct un D M Y dn dc mn mc yn yc 0 0 0 (-1) none none none 0 0 0 0 0 0 ds ms ys [] [] [] _ (L1.out _ _) (lies_once _)) HS.out)))) | quiet_step ((first | (go_at_call 101; exact Calls.regrown_of (once_any _)) | (go_at_call 100; exact Calls.regrown_of (ans_is (same_any fr ev ct un D M Y dn dc mn mc yn yc 0 0 0 (-1) none none none 0 0 0 0 0 0 ds ms ys [] [] [] _ (L1.out _ _) (lies_once _)) HS.out)))))
 refine wpQuiet_nil ?_
 intro _ hw'
 obtain ⟨⟨nq,osq⟩,hw''⟩:=hw'
 subst hw''
 have hb:=hbq nq osq
 replace HBX:=hide (andthen HBX.out hb)
 replace HL:=hide (HL.out.keep hb)
 replace s0:=cell_keep hb s0
 replace s1:=cell_keep hb s1
 replace s2:=cell_keep hb s2
 replace s3:=cell_keep hb s3
 replace s4:=cell_keep hb s4
 replace s5:=cell_keep hb s5
 replace s6:=cell_keep hb s6
 clear hb hbq fs0 fs1 fs2 fs3 fs4 fs5 fs6 L1
 generalize (grow (redrawn W0 nq) osq) = W1 at *
 go_wp2_with fail
 have fs0:=fun d os => cell_regrown s0 d os
 have fs1:=fun d os => cell_regrown s1 d os
 have fs2:=fun d os => cell_regrown s2 d os
 have fs3:=fun d os => cell_regrown s3 d os
 have fs4:=fun d os => cell_regrown s4 d os
 have fs5:=fun d os => cell_regrown s5 d os
 have fs6:=fun d os => cell_regrown s6 d os
 have L1:=hide (fun d os => Lies.keep HL.out (below_regrown W1 d os))
 have hbq:=fun d os => below_regrown W1 d os
 refine wp_region_quiet_below (by kernel_rfl) (by kernel_rfl) ?_
 repeat (first | go_big_quiet_step ((first | (go_at_call 110; exact Calls.regrown_of (mostOf_is fr ev ct un D M Y dn dc mn mc yn yc _ _ HMO.out)) | (go_at_call 111; exact Calls.regrown_of (lastOf_is fr ev ct un D M Y dn dc mn mc yn yc _ _ HLA.out)))) | quiet_step ((first | (go_at_call 110; exact Calls.regrown_of (mostOf_is fr ev ct un D M Y dn dc mn mc yn yc _ _ HMO.out)) | (go_at_call 111; exact Calls.regrown_of (lastOf_is fr ev ct un D M Y dn dc mn mc yn yc _ _ HLA.out)))))
 refine wpQuiet_nil ?_
 intro _ hw'
 obtain ⟨⟨nq,osq⟩,hw''⟩:=hw'
 subst hw''
 have hb:=hbq nq osq
 replace HBX:=hide (andthen HBX.out hb)
 replace HL:=hide (HL.out.keep hb)
 replace s0:=cell_keep hb s0
 replace s1:=cell_keep hb s1
 replace s2:=cell_keep hb s2
 replace s3:=cell_keep hb s3
 replace s4:=cell_keep hb s4
 replace s5:=cell_keep hb s5
 replace s6:=cell_keep hb s6
 clear hb hbq fs0 fs1 fs2 fs3 fs4 fs5 fs6 L1
 generalize (grow (redrawn W1 nq) osq) = W at *
 go_wp2_with fail
 have s0w:=s0
 have s1w:=s1
 have s2w:=s2
 have s3w:=s3
 have s4w:=s4
 have s5w:=s5
 have s6w:=s6
 go_loopw [9,10,11,12,13,14] (fun v kk _ _ _ _ wr => ∃ k : Nat,k <= 36525 /\ kk = .int .i64 k /\ OwnI wr W.heap.size v (fil ⟨fr,ev,ct,un,ds,ms,ys⟩ s k) /\ Below W.heap.size W wr) (fun _ kk _ _ _ _ _ => 36526 - (intOf kk).toNat)
 case atStart => exact ⟨0,Nat.zero_le _,rfl,ownI_nil _ _,start _⟩
 case round =>
  obtain ⟨k,hk,rfl,hown,hbw⟩:=hrel
  obtain ⟨A0,c0,rfl,_,_,hcap⟩:=hown.row0
  have HO:=hide hown
  have HBR:=hide hbw
  clear hown hbw
  by_cases hfull : cn <= (fil ⟨fr,ev,ct,un,ds,ms,ys⟩ s k).length
  ·have HE:=hide (fil_full ⟨fr,ev,ct,un,ds,ms,ys⟩ s k hk (by rw [HCN.out]; exact hfull))
   obtain ⟨L,hL⟩ : ∃ L,fil ⟨fr,ev,ct,un,ds,ms,ys⟩ s k = L:=⟨_,rfl⟩
   rw [hL] at HO hcap hfull
   have HF : Hid (L.take cn = allL ⟨fr,ev,ct,un,ds,ms,ys⟩ s):=hide (by rw [<- hL]; exact fil_cut ⟨fr,ev,ct,un,ds,ms,ys⟩ s k _ HE.out (by rw [HCN.out,hL]; omega))
   have hcl : (cn : Int) <= (L.length : Int):=by omega
   rw [hL]
   clear hL
   go_wp2_with fail
   go_ret
   exact ⟨_,rfl,by rw [<- HF.out]; exact (OwnI.cut HO.out hfull).low HBX.out.size,andthen HBX.out HBR.out⟩
  ·have hln : (fil ⟨fr,ev,ct,un,ds,ms,ys⟩ s k).length <= 1000000:=by omega
   replace HL:=hide (HL.out.keep HBR.out)
   replace s0:=cell_keep HBR.out s0
   replace s1:=cell_keep HBR.out s1
   replace s2:=cell_keep HBR.out s2
   replace s3:=cell_keep HBR.out s3
   replace s4:=cell_keep HBR.out s4
   replace s5:=cell_keep HBR.out s5
   replace s6:=cell_keep HBR.out s6
   cases hK : perK ⟨fr,ev,ct,un,ds,ms,ys⟩ day k
   ·have HE:=hide (fil_none ⟨fr,ev,ct,un,ds,ms,ys⟩ s k hk (by rw [hday]; exact hK))
    have HK:=hide hK
    clear hK
    obtain ⟨L,hL⟩ : ∃ L,fil ⟨fr,ev,ct,un,ds,ms,ys⟩ s k = L:=⟨_,rfl⟩
    rw [hL] at HO hcap hfull
    have HF : Hid (L.take L.length = allL ⟨fr,ev,ct,un,ds,ms,ys⟩ s):=hide (by rw [<- hL]; exact fil_cut ⟨fr,ev,ct,un,ds,ms,ys⟩ s k _ HE.out (by rw [HCN.out,hL]; omega))
    have hcl : (L.length : Int) < (cn : Int):=by omega
    rw [hL]
    clear hL
    go_wp2_with fail
    refine (period_is fr ev ct un D M Y dn dc mn mc yn yc ds ms ys day k _ _ false _ HL.out rfl rfl HK.out).mono ?_
    rintro e u1 ⟨rfl,hb⟩
    replace HO:=hide (HO.out.keep hb)
    replace HBR:=hide (andthen HBR.out hb)
    replace s0:=cell_keep hb s0
    replace s1:=cell_keep hb s1
    replace s2:=cell_keep hb s2
    replace s3:=cell_keep hb s3
    replace s4:=cell_keep hb s4
    replace s5:=cell_keep hb s5
    replace s6:=cell_keep hb s6
    replace HL:=hide (HL.out.keep hb)
    clear hb
    go_wp2_with fail
    go_ret
    exact ⟨_,rfl,by rw [<- HF.out]; exact (OwnI.cut HO.out (Nat.le_refl _)).low HBX.out.size,andthen HBX.out HBR.out⟩
   ·have hk2 : k < 36525:=by have:=((perK_iff _ _ _).1 hK).2.2.1; omega
    obtain ⟨a,ha⟩ : ∃ a,perA ⟨fr,ev,ct,un,ds,ms,ys⟩ day k = a:=⟨_,rfl⟩
    obtain ⟨b,hbb⟩ : ∃ b,perB ⟨fr,ev,ct,un,ds,ms,ys⟩ day k = b:=⟨_,rfl⟩
    have pb:=per_bd _ _ _ hK
    rw [ha,hbb] at pb
    by_cases hpa : lst < a * 1440
    ·have HE:=hide (fil_past ⟨fr,ev,ct,un,ds,ms,ys⟩ s k hk (by rw [hday]; exact hK) (by rw [hday,ha,HLT.out]; exact hpa))
     have HK:=hide hK
     have HP:=hide (And.intro ha hbb)
     clear hK ha hbb
     obtain ⟨L,hL⟩ : ∃ L,fil ⟨fr,ev,ct,un,ds,ms,ys⟩ s k = L:=⟨_,rfl⟩
     rw [hL] at HO hcap hfull
     have HF : Hid (L.take L.length = allL ⟨fr,ev,ct,un,ds,ms,ys⟩ s):=hide (by rw [<- hL]; exact fil_cut ⟨fr,ev,ct,un,ds,ms,ys⟩ s k _ HE.out (by rw [HCN.out,hL]; omega))
     have hcl : (L.length : Int) < (cn : Int):=by omega
     rw [hL]
     clear hL
     go_wp2_with fail
     refine (period_is fr ev ct un D M Y dn dc mn mc yn yc ds ms ys day k a b true _ HL.out HP.out.1 HP.out.2 HK.out).mono ?_
     rintro e u1 ⟨rfl,hb⟩
     replace HO:=hide (HO.out.keep hb)
     replace HBR:=hide (andthen HBR.out hb)
     replace s0:=cell_keep hb s0
     replace s1:=cell_keep hb s1
     replace s2:=cell_keep hb s2
     replace s3:=cell_keep hb s3
     replace s4:=cell_keep hb s4
     replace s5:=cell_keep hb s5
     replace s6:=cell_keep hb s6
     replace HL:=hide (HL.out.keep hb)
     clear hb
     go_wp2_with fail
     go_ret
     exact ⟨_,rfl,by rw [<- HF.out]; exact (OwnI.cut HO.out (Nat.le_refl _)).low HBX.out.size,andthen HBX.out HBR.out⟩
    ·obtain ⟨l,hl⟩ : ∃ l,daysL ⟨fr,ev,ct,un,ds,ms,ys⟩ day k = l:=⟨_,rfl⟩
     have hll : l.length <= 366:=by have h1:=daysL_len ⟨fr,ev,ct,un,ds,ms,ys⟩ day k; rw [hl] at h1; exact h1
     have HDB : Hid (∀ x ∈ l,0 <= x /\ x < 36525):=hide fun x hx => by
      rw [<- hl] at hx
      obtain ⟨j,hj,rfl⟩:=List.mem_iff_getElem.1 hx
      have h1:=daysL_in ⟨fr,ev,ct,un,ds,ms,ys⟩ day k j hj
      rw [ha,hbb] at h1
      omega
     have HN:=hide (fil_succ ⟨fr,ev,ct,un,ds,ms,ys⟩ s k)
     obtain ⟨lm,hmm⟩ : ∃ lm,(l.map fun d => d * 1440 + at0) = lm:=⟨_,rfl⟩
     have hlm : lm.length <= 1000:=by rw [<- hmm,List.length_map]; omega
     have HMM:=hide hmm
     rw [hday,hat,hl,HLT.out,hmm] at HN
     have HDL:=hide hl
     have HK:=hide hK
     have HP:=hide (And.intro ha hbb)
     clear hK ha hbb hl hmm
     go_wp2_with fail
     refine (period_is fr ev ct un D M Y dn dc mn mc yn yc ds ms ys day k a b true _ HL.out HP.out.1 HP.out.2 HK.out).mono ?_
     rintro e u1 ⟨rfl,hb⟩
     replace HO:=hide (HO.out.keep hb)
     replace HBR:=hide (andthen HBR.out hb)
     replace s0:=cell_keep hb s0
     replace s1:=cell_keep hb s1
     replace s2:=cell_keep hb s2
     replace s3:=cell_keep hb s3
     replace s4:=cell_keep hb s4
     replace s5:=cell_keep hb s5
     replace s6:=cell_keep hb s6
     replace HL:=hide (HL.out.keep hb)
     clear hb
     go_wp2_with fail
     refine (of_any fr ev ct un D M Y dn dc mn mc yn yc ds ms ys day k _ HL.out).mono ?_
     rintro e u2 ⟨v2,rfl,hownl,hb⟩
     rw [HDL.out] at hownl
     obtain ⟨A1,c1,rfl,hrow1⟩:=hownl.row
     replace HO:=hide (HO.out.keep hb)
     replace HBR:=hide (andthen HBR.out hb)
     replace s0:=cell_keep hb s0
     replace s1:=cell_keep hb s1
     replace s2:=cell_keep hb s2
     replace s3:=cell_keep hb s3
     replace s4:=cell_keep hb s4
     replace s5:=cell_keep hb s5
     replace s6:=cell_keep hb s6
     replace HL:=hide (HL.out.keep hb)
     have HR1:=hide hrow1
     clear hb hownl hrow1
     go_wp2_with fail
     refine (minutesAt_any at0 A1 _ c1 l _ HR1.out rfl (by omega) hat1.1 hat1.2 HDB.out).mono ?_
     rintro e u3 ⟨v3,rfl,hownm,hb⟩
     rw [HMM.out] at hownm
     obtain ⟨A2,c2,rfl,hrow2⟩:=hownm.row
     replace HO:=hide (HO.out.keep hb)
     replace HBR:=hide (andthen HBR.out hb)
     replace s0:=cell_keep hb s0
     replace s1:=cell_keep hb s1
     replace s2:=cell_keep hb s2
     replace s3:=cell_keep hb s3
     replace s4:=cell_keep hb s4
     replace s5:=cell_keep hb s5
     replace s6:=cell_keep hb s6
     replace HL:=hide (HL.out.keep hb)
     have HR2:=hide hrow2
     clear hb hownm hrow2
     go_wp2_with fail
     refine (between_any s lst A2 _ c2 lm _ HR2.out rfl hlm).mono ?_
     rintro e u4 ⟨v4,rfl,hownb,hb⟩
     obtain ⟨A3,c3,rfl,hrow3,hnil3,_⟩:=hownb.row0
     replace HO:=hide (HO.out.keep hb)
     replace HBR:=hide (andthen HBR.out hb)
     replace s0:=cell_keep hb s0
     replace s1:=cell_keep hb s1
     replace s2:=cell_keep hb s2
     replace s3:=cell_keep hb s3
     replace s4:=cell_keep hb s4
     replace s5:=cell_keep hb s5
     replace s6:=cell_keep hb s6
     replace HL:=hide (HL.out.keep hb)
     clear hb hownb
     have hl3 : (lm.filter fun m => decide (s <= m) && decide (m <= lst)).length <= 1000000:=Nat.le_trans (List.length_filter_le _ _) (Nat.le_trans hlm (by omega))
     have hz:=HBR.out.size
     have hown:=HO.out
     go_wp2_with (at_builtin; refine wp_rowI (l:=fil ⟨fr,ev,ct,un,ds,ms,ys⟩ s k) (k:=lm.filter fun m => decide (s <= m) && decide (m <= lst)) rfl _ _ rfl rfl rfl rfl hnil3 hrow3 hown hz hln hl3 ?_; intro v5 w5 hown5 hb5)
     have HO5:=hide hown5
     have HB5:=hide (HBR.out.trans hb5)
     clear hown hown5 hb5 hz hl3 hlm hrow3
     go_wp2_with fail
     go_roundw
     case rel => exact ⟨k + 1,by omega,by go_num,by rw [HN.out]; exact HO5.out,HB5.out⟩
     case measure => simp [intOf]; omega
theorem wrong_is (fr ev ct un : Int) (D M Y : Option Addr) (dn dc mn mc yn yc : Nat) (ds : List Wd) (ms ys : List Int) (s q : Int) (w : World) (h : Lies w D dn M mn Y yn ds ms ys) (hq : (if isB ⟨fr,ev,ct,un,ds,ms,ys⟩ = false then (12 : Int) else if s < 0 ∨ 52596000 <= s then 10 else 0) = q) :
  Calls Tryz.prog 67 #[.agg #[.int .i64 fr,.int .i64 ev,.int .i64 ct,.int .i64 un,.slice D dn dc,.slice M mn mc,.slice Y yn yc],.int .i64 s] w (Ans w (.int .i64 q)):=by
 have HBX:=hide (more (start w) (.cells #[.int .i64 fr,.int .i64 ev,.int .i64 ct,.int .i64 un,.slice D dn dc,.slice M mn mc,.slice Y yn yc] 39))
 have HL:=hide (h.keep HBX.out)
 have hAC : ∀ i v,(#[.int .i64 fr,.int .i64 ev,.int .i64 ct,.int .i64 un,.slice D dn dc,.slice M mn mc,.slice Y yn yc] : Array Value)[i]? = some v -> (w.alloc (.cells #[.int .i64 fr,.int .i64 ev,.int .i64 ct,.int .i64 un,.slice D dn dc,.slice M mn mc,.slice Y yn yc] 39)).cell? ⟨w.heap.size,i,none⟩ = some v:=fun i v h => by rw [World.cell?_alloc_at _ _ _ _ rfl]; exact h
 have s0:=hAC 0 _ rfl
 have s1:=hAC 1 _ rfl
 have s2:=hAC 2 _ rfl
 have s3:=hAC 3 _ rfl
 have s4:=hAC 4 _ rfl
 have s5:=hAC 5 _ rfl
 have s6:=hAC 6 _ rfl
 clear hAC
 clear h
 cases hi : isB ⟨fr,ev,ct,un,ds,ms,ys⟩
 ·have HI:=hide hi
  rw [if_pos hi] at hq
  clear hi
  subst hq
  go_enter Tryz.func67,Tryz.ntmps67
  go_wp2_with fail
  generalize (w.alloc (.cells #[.int .i64 fr,.int .i64 ev,.int .i64 ct,.int .i64 un,.slice D dn dc,.slice M mn mc,.slice Y yn yc] 39)) = W at *
  refine (ans_is (ruleIs_any fr ev ct un D M Y dn dc mn mc yn yc ds ms ys _ HL.out) HI.out).mono ?_
  rintro e u1 ⟨rfl,hb⟩
  replace HBX:=hide (andthen HBX.out hb)
  replace HL:=hide (HL.out.keep hb)
  replace s0:=cell_keep hb s0
  replace s1:=cell_keep hb s1
  replace s2:=cell_keep hb s2
  replace s3:=cell_keep hb s3
  replace s4:=cell_keep hb s4
  replace s5:=cell_keep hb s5
  replace s6:=cell_keep hb s6
  clear hb
  go_wp2_with fail
  go_ret
  exact ⟨rfl,HBX.out⟩
 ·have HI:=hide hi
  rw [if_neg (by rw [hi]; simp)] at hq
  clear hi
  by_cases hs : s < 0 ∨ 52596000 <= s
  ·rw [if_pos hs] at hq
   have HS:=hide hs
   clear hs
   subst hq
   go_enter Tryz.func67,Tryz.ntmps67
   go_wp2_with fail
   generalize (w.alloc (.cells #[.int .i64 fr,.int .i64 ev,.int .i64 ct,.int .i64 un,.slice D dn dc,.slice M mn mc,.slice Y yn yc] 39)) = W at *
   refine (ans_is (ruleIs_any fr ev ct un D M Y dn dc mn mc yn yc ds ms ys _ HL.out) HI.out).mono ?_
   rintro e u1 ⟨rfl,hb⟩
   replace HBX:=hide (andthen HBX.out hb)
   replace HL:=hide (HL.out.keep hb)
   replace s0:=cell_keep hb s0
   replace s1:=cell_keep hb s1
   replace s2:=cell_keep hb s2
   replace s3:=cell_keep hb s3
   replace s4:=cell_keep hb s4
   replace s5:=cell_keep hb s5
   replace s6:=cell_keep hb s6
   clear hb
   go_wp2_with fail
   refine (Clock_no s _ HS.out).mono ?_
   rintro e u2 ⟨rfl,hb⟩
   replace HBX:=hide (andthen HBX.out hb)
   clear hb
   go_wp2_with fail
   go_ret
   exact ⟨rfl,more HBX.out _⟩
  ·rw [if_neg hs] at hq
   have hs1 : 0 <= s:=by omega
   have hs2 : s < 52596000:=by omega
   clear hs
   subst hq
   go_enter Tryz.func67,Tryz.ntmps67
   go_wp2_with fail
   generalize (w.alloc (.cells #[.int .i64 fr,.int .i64 ev,.int .i64 ct,.int .i64 un,.slice D dn dc,.slice M mn mc,.slice Y yn yc] 39)) = W at *
   refine (ans_is (ruleIs_any fr ev ct un D M Y dn dc mn mc yn yc ds ms ys _ HL.out) HI.out).mono ?_
   rintro e u1 ⟨rfl,hb⟩
   replace HBX:=hide (andthen HBX.out hb)
   replace HL:=hide (HL.out.keep hb)
   replace s0:=cell_keep hb s0
   replace s1:=cell_keep hb s1
   replace s2:=cell_keep hb s2
   replace s3:=cell_keep hb s3
   replace s4:=cell_keep hb s4
   replace s5:=cell_keep hb s5
   replace s6:=cell_keep hb s6
   clear hb
   go_wp2_with fail
   refine (Clock_yes s _ hs1 hs2).mono ?_
   rintro e u2 ⟨rfl,hb⟩
   replace HBX:=hide (andthen HBX.out hb)
   clear hb
   go_wp2_with fail
   go_ret
   exact ⟨rfl,more HBX.out _⟩
theorem occ_any (fr ev ct un : Int) (D M Y : Option Addr) (dn dc mn mc yn yc : Nat) (ds : List Wd) (ms ys : List Int) (s : Int) (L : List Int) (w : World) (h : Lies w D dn M mn Y yn ds ms ys) (hi : isB ⟨fr,ev,ct,un,ds,ms,ys⟩ = true) (h1 : 0 <= s) (h2 : s < 52596000) (hL : (if fr = 0 then [s] else allL ⟨fr,ev,ct,un,ds,ms,ys⟩ s) = L) :
  Calls Tryz.prog 85 #[.agg #[.int .i64 fr,.int .i64 ev,.int .i64 ct,.int .i64 un,.slice D dn dc,.slice M mn mc,.slice Y yn yc],.int .i64 s] w (GivesI w L):=by
 by_cases h0 : fr = 0
 ·rw [if_pos h0] at hL
  rw [<- hL]; exact occ_once fr ev ct un D M Y dn dc mn mc yn yc ds ms ys s w h hi h0
 ·rw [if_neg h0] at hL
  rw [<- hL]; exact occ_rec fr ev ct un D M Y dn dc mn mc yn yc ds ms ys s w h (R.isB_rec _ hi h0) h1 h2
theorem all_len (r : Rul.T) (s : Int) (hi : isB r = true) : (if r.fr = 0 then [s] else allL r s).length <= 41:=by
 by_cases h0 : r.fr = 0
 ·rw [if_pos h0]; simp
 ·rw [if_neg h0]
  have a:=allL_len r s
  have hr:=R.isB_rec _ hi h0
  have b : capN r <= 41:=by
   have hrng : rngB r.fr r.ev r.ct r.un = true:=by unfold recB at hr; rw [Bool.and_eq_true] at hr; exact hr.1
   rw [R.rng_iff] at hrng
   unfold capN
   split <;> omega
  omega
theorem left_any (fr ev ct un : Int) (D M Y : Option Addr) (dn dc mn mc yn yc : Nat) (ds : List Wd) (ms ys : List Int) (s : Int) (X : Option Addr) (xn xc : Nat) (ex : List Int) (w : World) (h : Lies w D dn M mn Y yn ds ms ys) (hx : RowI w X ex) (hxn : xn = ex.length) (hxl : ex.length <= 1000) (hi : isB ⟨fr,ev,ct,un,ds,ms,ys⟩ = true) (hs1 : 0 <= s) (hs2 : s < 52596000) :
  Calls Tryz.prog 68 #[.agg #[.int .i64 fr,.int .i64 ev,.int .i64 ct,.int .i64 un,.slice D dn dc,.slice M mn mc,.slice Y yn yc],.int .i64 s,.slice X xn xc] w (R.GivesE w (startsE ⟨fr,ev,ct,un,ds,ms,ys⟩ s ex)):=by
 have HBX:=hide (more (start w) (.cells #[.int .i64 fr,.int .i64 ev,.int .i64 ct,.int .i64 un,.slice D dn dc,.slice M mn mc,.slice Y yn yc] 39))
 have HL:=hide (h.keep HBX.out)
 have hAC : ∀ i v,(#[.int .i64 fr,.int .i64 ev,.int .i64 ct,.int .i64 un,.slice D dn dc,.slice M mn mc,.slice Y yn yc] : Array Value)[i]? = some v -> (w.alloc (.cells #[.int .i64 fr,.int .i64 ev,.int .i64 ct,.int .i64 un,.slice D dn dc,.slice M mn mc,.slice Y yn yc] 39)).cell? ⟨w.heap.size,i,none⟩ = some v:=fun i v h => by rw [World.cell?_alloc_at _ _ _ _ rfl]; exact h
 have s0:=hAC 0 _ rfl
 have s1:=hAC 1 _ rfl
 have s2:=hAC 2 _ rfl
 have s3:=hAC 3 _ rfl
 have s4:=hAC 4 _ rfl
 have s5:=hAC 5 _ rfl
 have s6:=hAC 6 _ rfl
 clear hAC
 have HX:=hide (hx.keep HBX.out)
 have HXN:=hide hxn
 have HI:=hide hi
 obtain ⟨L,hL⟩ : ∃ L,(if fr = 0 then [s] else allL ⟨fr,ev,ct,un,ds,ms,ys⟩ s) = L:=⟨_,rfl⟩
 have hll:=all_len ⟨fr,ev,ct,un,ds,ms,ys⟩ s hi
 rw [show (if (⟨fr,ev,ct,un,ds,ms,ys⟩ : Rul.T).fr = 0 then [s] else allL ⟨fr,ev,ct,un,ds,ms,ys⟩ s) = L from hL] at hll
 have HLE:=hide hL
 clear h hx hxn
 by_cases hl : 40 < L.length
 ·have HE:=hide (R.starts_13 ⟨fr,ev,ct,un,ds,ms,ys⟩ s ex L hi hs1 hs2 hL hl)
  have gl : (40 : Int) < (L.length : Int):=by omega
  clear hi hL
  go_enter Tryz.func68,Tryz.ntmps68
  go_wp2_with fail
  generalize (w.alloc (.cells #[.int .i64 fr,.int .i64 ev,.int .i64 ct,.int .i64 un,.slice D dn dc,.slice M mn mc,.slice Y yn yc] 39)) = W at *
  refine (occ_any fr ev ct un D M Y dn dc mn mc yn yc ds ms ys s _ _ HL.out HI.out hs1 hs2 HLE.out).mono ?_
  rintro e u1 ⟨v1,rfl,hown,hb⟩
  obtain ⟨A,c,rfl,hrow⟩:=hown.row
  replace HX:=hide (HX.out.keep hb)
  replace HBX:=hide (andthen HBX.out hb)
  have HR:=hide hrow
  clear hb hown hrow
  go_wp2_with fail
  go_ret2
  exact R.gives_e HE.out rfl (ownI_nil _ _) HBX.out
 ·have HS:=hide (R.starts_at ⟨fr,ev,ct,un,ds,ms,ys⟩ s ex L hi hs1 hs2 hL hl)
  have gl : (L.length : Int) <= 40:=by omega
  obtain ⟨K,hK⟩ : ∃ K,(L.filter fun m => !outB ex m) = K:=⟨_,rfl⟩
  have hkl : K.length <= 41:=by rw [<- hK]; exact Nat.le_trans (List.length_filter_le _ _) hll
  rw [hK] at HS
  have HK:=hide hK
  clear hi hL hl hK
  have hwo : ∀ (A : Option Addr) (c : Nat) (u : World),RowI u X ex -> RowI u A L -> Calls Tryz.prog 86 #[.slice X xn xc,.slice A L.length c] u (GivesI u K):=fun A c u g1 g2 => by
   rw [<- HK.out]; exact without_any X xn xc ex A _ c L u g1 HXN.out hxl g2 rfl (by omega)
  by_cases hz : K.length = 0
  ·have HE:=hide (HS.out.1 (List.eq_nil_of_length_eq_zero hz))
   have gz : ((K.length : Int) == 0) = true:=by rw [beq_iff_eq]; omega
   have gz2 : (K.length == 0) = true:=by rw [beq_iff_eq]; exact hz
   clear hz
   go_enter Tryz.func68,Tryz.ntmps68
   go_wp2_with fail
   generalize (w.alloc (.cells #[.int .i64 fr,.int .i64 ev,.int .i64 ct,.int .i64 un,.slice D dn dc,.slice M mn mc,.slice Y yn yc] 39)) = W at *
   refine (occ_any fr ev ct un D M Y dn dc mn mc yn yc ds ms ys s _ _ HL.out HI.out hs1 hs2 HLE.out).mono ?_
   rintro e u1 ⟨v1,rfl,hown,hb⟩
   obtain ⟨A,c,rfl,hrow⟩:=hown.row
   replace HX:=hide (HX.out.keep hb)
   replace HBX:=hide (andthen HBX.out hb)
   have HR:=hide hrow
   clear hb hown hrow
   go_wp2_with fail
   refine (hwo A c _ HX.out HR.out).mono ?_
   rintro e u2 ⟨v2,rfl,hown2,hb⟩
   replace HBX:=hide (andthen HBX.out hb)
   obtain ⟨A2,c2,rfl,_⟩:=hown2.row
   clear hb hown2
   go_wp2_with fail
   go_ret2
   exact R.gives_e HE.out rfl (ownI_nil _ _) HBX.out
  ·have HE:=hide (HS.out.2 (by intro hc; rw [hc] at hz; exact hz rfl))
   have gz : ((K.length : Int) == 0) = false:=by rw [beq_eq_false_iff_ne]; omega
   have gz2 : (K.length == 0) = false:=by rw [beq_eq_false_iff_ne]; exact hz
   clear hz
   go_enter Tryz.func68,Tryz.ntmps68
   go_wp2_with fail
   generalize (w.alloc (.cells #[.int .i64 fr,.int .i64 ev,.int .i64 ct,.int .i64 un,.slice D dn dc,.slice M mn mc,.slice Y yn yc] 39)) = W at *
   refine (occ_any fr ev ct un D M Y dn dc mn mc yn yc ds ms ys s _ _ HL.out HI.out hs1 hs2 HLE.out).mono ?_
   rintro e u1 ⟨v1,rfl,hown,hb⟩
   obtain ⟨A,c,rfl,hrow⟩:=hown.row
   replace HX:=hide (HX.out.keep hb)
   replace HBX:=hide (andthen HBX.out hb)
   have HR:=hide hrow
   clear hb hown hrow
   go_wp2_with fail
   have hz:=HBX.out.size
   refine (hwo A c _ HX.out HR.out).mono ?_
   rintro e u2 ⟨v2,rfl,hown2,hb⟩
   replace HBX:=hide (andthen HBX.out hb)
   have HO:=hide (OwnI.low hown2 hz)
   obtain ⟨A2,c2,rfl,_⟩:=hown2.row
   clear hb hown2 hz
   go_wp2_with fail
   go_ret2
   exact R.gives_e HE.out rfl HO.out HBX.out
theorem spans_code (fr ev ct un : Int) (D M Y : Option Addr) (dn dc mn mc yn yc : Nat) (ds : List Wd) (ms ys : List Int) (s long : Int) (X : Option Addr) (xn xc : Nat) (ex : List Int) (w : World) (h : Lies w D dn M mn Y yn ds ms ys) (hx : RowI w X ex) (hxn : xn = ex.length) (hxl : ex.length <= 1000) :
  Calls Tryz.prog 50 #[.agg #[.int .i64 fr,.int .i64 ev,.int .i64 ct,.int .i64 un,.slice D dn dc,.slice M mn mc,.slice Y yn yc],.int .i64 s,.int .i64 long,.slice X xn xc] w (R.GivesP w (spansE ⟨fr,ev,ct,un,ds,ms,ys⟩ s long ex)):=by
 have HBX:=hide (more (start w) (.cells #[.int .i64 fr,.int .i64 ev,.int .i64 ct,.int .i64 un,.slice D dn dc,.slice M mn mc,.slice Y yn yc] 39))
 have HL:=hide (h.keep HBX.out)
 have hAC : ∀ i v,(#[.int .i64 fr,.int .i64 ev,.int .i64 ct,.int .i64 un,.slice D dn dc,.slice M mn mc,.slice Y yn yc] : Array Value)[i]? = some v -> (w.alloc (.cells #[.int .i64 fr,.int .i64 ev,.int .i64 ct,.int .i64 un,.slice D dn dc,.slice M mn mc,.slice Y yn yc] 39)).cell? ⟨w.heap.size,i,none⟩ = some v:=fun i v h => by rw [World.cell?_alloc_at _ _ _ _ rfl]; exact h
 have s0:=hAC 0 _ rfl
 have s1:=hAC 1 _ rfl
 have s2:=hAC 2 _ rfl
 have s3:=hAC 3 _ rfl
 have s4:=hAC 4 _ rfl
 have s5:=hAC 5 _ rfl
 have s6:=hAC 6 _ rfl
 clear hAC
 have HX:=hide (hx.keep HBX.out)
 have HXN:=hide hxn
 clear h hx hxn
 cases hi : isB ⟨fr,ev,ct,un,ds,ms,ys⟩
 ·have HE:=hide (R.spans_12 ⟨fr,ev,ct,un,ds,ms,ys⟩ s long ex hi)
  have HW : Hid ((if isB ⟨fr,ev,ct,un,ds,ms,ys⟩ = false then (12 : Int) else if s < 0 ∨ 52596000 <= s then 10 else 0) = 12):=hide (by rw [if_pos hi])
  clear hi
  go_enter Tryz.func50,Tryz.ntmps50
  go_wp2_with fail
  generalize (w.alloc (.cells #[.int .i64 fr,.int .i64 ev,.int .i64 ct,.int .i64 un,.slice D dn dc,.slice M mn mc,.slice Y yn yc] 39)) = W at *
  refine (wrong_is fr ev ct un D M Y dn dc mn mc yn yc ds ms ys s _ _ HL.out HW.out).mono ?_
  rintro e u1 ⟨rfl,hb⟩
  replace HBX:=hide (andthen HBX.out hb)
  replace HL:=hide (HL.out.keep hb)
  replace s0:=cell_keep hb s0
  replace s1:=cell_keep hb s1
  replace s2:=cell_keep hb s2
  replace s3:=cell_keep hb s3
  replace s4:=cell_keep hb s4
  replace s5:=cell_keep hb s5
  replace s6:=cell_keep hb s6
  replace HX:=hide (HX.out.keep hb)
  clear hb
  go_wp2_with fail
  go_ret2
  exact R.gives_p HE.out rfl (S2.Own.none _ _) HBX.out
 have HI:=hide hi
 by_cases hs : s < 0 ∨ 52596000 <= s
 ·have HE:=hide (R.spans_10 ⟨fr,ev,ct,un,ds,ms,ys⟩ s long ex hi hs)
  have HW : Hid ((if isB ⟨fr,ev,ct,un,ds,ms,ys⟩ = false then (12 : Int) else if s < 0 ∨ 52596000 <= s then 10 else 0) = 10):=hide (by rw [if_neg (by rw [hi]; simp),if_pos hs])
  clear hi hs
  go_enter Tryz.func50,Tryz.ntmps50
  go_wp2_with fail
  generalize (w.alloc (.cells #[.int .i64 fr,.int .i64 ev,.int .i64 ct,.int .i64 un,.slice D dn dc,.slice M mn mc,.slice Y yn yc] 39)) = W at *
  refine (wrong_is fr ev ct un D M Y dn dc mn mc yn yc ds ms ys s _ _ HL.out HW.out).mono ?_
  rintro e u1 ⟨rfl,hb⟩
  replace HBX:=hide (andthen HBX.out hb)
  replace HL:=hide (HL.out.keep hb)
  replace s0:=cell_keep hb s0
  replace s1:=cell_keep hb s1
  replace s2:=cell_keep hb s2
  replace s3:=cell_keep hb s3
  replace s4:=cell_keep hb s4
  replace s5:=cell_keep hb s5
  replace s6:=cell_keep hb s6
  replace HX:=hide (HX.out.keep hb)
  clear hb
  go_wp2_with fail
  go_ret2
  exact R.gives_p HE.out rfl (S2.Own.none _ _) HBX.out
 have HW : Hid ((if isB ⟨fr,ev,ct,un,ds,ms,ys⟩ = false then (12 : Int) else if s < 0 ∨ 52596000 <= s then 10 else 0) = 0):=hide (by rw [if_neg (by rw [hi]; simp),if_neg hs])
 have hs1 : 0 <= s:=by omega
 have hs2 : s < 52596000:=by omega
 by_cases hg1 : long < 1
 ·have HE:=hide (R.spans_15 ⟨fr,ev,ct,un,ds,ms,ys⟩ s long ex hi hs1 hs2 (Or.inl hg1))
  clear hi hs
  go_enter Tryz.func50,Tryz.ntmps50
  go_wp2_with fail
  generalize (w.alloc (.cells #[.int .i64 fr,.int .i64 ev,.int .i64 ct,.int .i64 un,.slice D dn dc,.slice M mn mc,.slice Y yn yc] 39)) = W at *
  refine (wrong_is fr ev ct un D M Y dn dc mn mc yn yc ds ms ys s _ _ HL.out HW.out).mono ?_
  rintro e u1 ⟨rfl,hb⟩
  replace HBX:=hide (andthen HBX.out hb)
  replace HL:=hide (HL.out.keep hb)
  replace s0:=cell_keep hb s0
  replace s1:=cell_keep hb s1
  replace s2:=cell_keep hb s2
  replace s3:=cell_keep hb s3
  replace s4:=cell_keep hb s4
  replace s5:=cell_keep hb s5
  replace s6:=cell_keep hb s6
  replace HX:=hide (HX.out.keep hb)
  clear hb
  go_wp2_with fail
  go_ret2
  exact R.gives_p HE.out rfl (S2.Own.none _ _) HBX.out
 by_cases hg2 : 10080 < long
 ·have HE:=hide (R.spans_15 ⟨fr,ev,ct,un,ds,ms,ys⟩ s long ex hi hs1 hs2 (Or.inr hg2))
  clear hi hs
  go_enter Tryz.func50,Tryz.ntmps50
  go_wp2_with fail
  generalize (w.alloc (.cells #[.int .i64 fr,.int .i64 ev,.int .i64 ct,.int .i64 un,.slice D dn dc,.slice M mn mc,.slice Y yn yc] 39)) = W at *
  refine (wrong_is fr ev ct un D M Y dn dc mn mc yn yc ds ms ys s _ _ HL.out HW.out).mono ?_
  rintro e u1 ⟨rfl,hb⟩
  replace HBX:=hide (andthen HBX.out hb)
  replace HL:=hide (HL.out.keep hb)
  replace s0:=cell_keep hb s0
  replace s1:=cell_keep hb s1
  replace s2:=cell_keep hb s2
  replace s3:=cell_keep hb s3
  replace s4:=cell_keep hb s4
  replace s5:=cell_keep hb s5
  replace s6:=cell_keep hb s6
  replace HX:=hide (HX.out.keep hb)
  clear hb
  go_wp2_with fail
  go_ret2
  exact R.gives_p HE.out rfl (S2.Own.none _ _) HBX.out
 obtain ⟨⟨l,e2⟩,hS⟩ : ∃ x,startsE ⟨fr,ev,ct,un,ds,ms,ys⟩ s ex = x:=⟨_,rfl⟩
 have HSE:=hide hS
 have hsp:=R.spans_at ⟨fr,ev,ct,un,ds,ms,ys⟩ s long e2 ex l hi hs1 hs2 ⟨by omega,by omega⟩ hS
 have hst:=R.starts_in ⟨fr,ev,ct,un,ds,ms,ys⟩ s ex
 rw [hS] at hst
 have HM:=hide hst.1
 have HLL:=hide hst.2
 by_cases he : e2 = 0
 ·have HS:=hide (hsp.2 he)
  obtain ⟨⟨x1,x2⟩,hx⟩ : ∃ x,spansE ⟨fr,ev,ct,un,ds,ms,ys⟩ s long ex = x:=⟨_,rfl⟩
  have HXE:=hide hx
  rw [hx] at HS
  have hll : l.length <= 41:=hst.2
  subst he
  clear hi hs hS hsp hst hx
  rw [HXE.out]
  go_enter Tryz.func50,Tryz.ntmps50
  go_wp2_with fail
  generalize (w.alloc (.cells #[.int .i64 fr,.int .i64 ev,.int .i64 ct,.int .i64 un,.slice D dn dc,.slice M mn mc,.slice Y yn yc] 39)) = W at *
  refine (wrong_is fr ev ct un D M Y dn dc mn mc yn yc ds ms ys s _ _ HL.out HW.out).mono ?_
  rintro e u1 ⟨rfl,hb⟩
  replace HBX:=hide (andthen HBX.out hb)
  replace HL:=hide (HL.out.keep hb)
  replace s0:=cell_keep hb s0
  replace s1:=cell_keep hb s1
  replace s2:=cell_keep hb s2
  replace s3:=cell_keep hb s3
  replace s4:=cell_keep hb s4
  replace s5:=cell_keep hb s5
  replace s6:=cell_keep hb s6
  replace HX:=hide (HX.out.keep hb)
  clear hb
  go_wp2_with fail
  refine (left_any fr ev ct un D M Y dn dc mn mc yn yc ds ms ys s X xn xc ex _ HL.out HX.out HXN.out hxl HI.out hs1 hs2).mono ?_
  rw [HSE.out]
  rintro e u2 ⟨v2,rfl,hown,hb⟩
  obtain ⟨A,c,rfl,hrow⟩:=hown.row
  have HR:=hide hrow
  replace HBX:=hide (andthen HBX.out hb)
  clear hown hb hrow
  go_wp2_with fail
  refine (spansFrom_any long A _ c l (x1,x2) _ HR.out rfl (by omega) (by omega) (by omega) HM.out HS.out.1 HS.out.2).mono ?_
  rintro e u3 ⟨v3,rfl,hown3,hb⟩
  have HO:=hide (S2.Own.low hown3 HBX.out.size)
  replace HBX:=hide (andthen HBX.out hb)
  clear hown3 hb
  go_wp2_with fail
  go_ret2
  exact R.gives_p rfl rfl HO.out HBX.out
 ·have HE:=hide (hsp.1 he)
  have ge : (e2 != 0) = true:=by rw [bne_iff_ne]; exact he
  clear hi hs hS hsp hst he
  go_enter Tryz.func50,Tryz.ntmps50
  go_wp2_with fail
  generalize (w.alloc (.cells #[.int .i64 fr,.int .i64 ev,.int .i64 ct,.int .i64 un,.slice D dn dc,.slice M mn mc,.slice Y yn yc] 39)) = W at *
  refine (wrong_is fr ev ct un D M Y dn dc mn mc yn yc ds ms ys s _ _ HL.out HW.out).mono ?_
  rintro e u1 ⟨rfl,hb⟩
  replace HBX:=hide (andthen HBX.out hb)
  replace HL:=hide (HL.out.keep hb)
  replace s0:=cell_keep hb s0
  replace s1:=cell_keep hb s1
  replace s2:=cell_keep hb s2
  replace s3:=cell_keep hb s3
  replace s4:=cell_keep hb s4
  replace s5:=cell_keep hb s5
  replace s6:=cell_keep hb s6
  replace HX:=hide (HX.out.keep hb)
  clear hb
  go_wp2_with fail
  refine (left_any fr ev ct un D M Y dn dc mn mc yn yc ds ms ys s X xn xc ex _ HL.out HX.out HXN.out hxl HI.out hs1 hs2).mono ?_
  rw [HSE.out]
  rintro e u2 ⟨v2,rfl,hown,hb⟩
  replace HBX:=hide (andthen HBX.out hb)
  clear hown hb
  go_wp2_with fail
  go_ret2
  exact R.gives_p HE.out rfl (S2.Own.none _ _) HBX.out
end Go.Proofs.YtgihekokbgggcaaGreat

/- Walks of the reference of layer 5: first, Period. Written by recipes/da5.py. -/
import Derived.Test.YtgihekokbgggcaaGreatZBW11
import Derived.Test.YtgihekokbgggcaaGreatZBRuV
set_option maxHeartbeats 8000000
set_option maxRecDepth 1000000
namespace Go.Proofs.YtgihekokbgggcaaGreat.R
open Go.RowKit Rul Go.Sort
theorem first_any (m : Int) (w : World) (h0 : 0 <= m) (h1 : m <= 1000000000) :
  Calls Tryz.prog 119 #[.int .i64 m] w (Ans w (.int .i64 (fst m))):=by
 have t1 : m.tdiv 12 = m / 12:=Int.tdiv_eq_ediv_of_nonneg (by omega)
 have t2 : m.tmod 12 = m % 12:=Int.tmod_eq_emod_of_nonneg (by omega)
 by_cases h : 2000 + m / 12 <= 2099
 ·have H:=hide (fE_0 (2000 + m / 12) (m % 12 + 1) (by omega) h (by omega) (by omega))
  go_enter Tryz.func119,Tryz.ntmps119
  go_wp2_with fail
  refine (rnumber_is (2000 + m / 12) (m % 12 + 1) 1 _ _ _ H.out).mono ?_
  rintro e w1 ⟨rfl,hb1⟩
  go_wp2_with fail
  go_ret
  exact ⟨rfl,hb1⟩
 ·have H:=hide (fE_10 (2000 + m / 12) (m % 12 + 1) (by omega) (by omega) (by omega))
  have e:=hide (fst_out m (by omega))
  go_enter Tryz.func119,Tryz.ntmps119
  go_wp2_with fail
  refine (rnumber_is (2000 + m / 12) (m % 12 + 1) 1 _ _ _ H.out).mono ?_
  rintro e w1 ⟨rfl,hb1⟩
  go_wp2_with fail
  go_ret
  exact ⟨ret_int (by rw [e.out]),hb1⟩
theorem first_is (m v : Int) (w : World) (h0 : 0 <= m) (h1 : m <= 1000000000) (h : fst m = v) :
  Calls Tryz.prog 119 #[.int .i64 m] w (Ans w (.int .i64 v)):=by subst h; exact first_any m w h0 h1
theorem pA_far (fr s n : Int) (h1 : 1 <= fr) (h2 : fr <= 4) (s0 : 0 <= s) (s1 : s < 36525) (h : 36525 <= n) : 36525 <= pA fr s n:=by
 have m:=mS s s0 s1
 have w:=Cal.wday_bd s
 rcases fr_cases fr h1 h2 with rfl | rfl | rfl | rfl
 ·rw [pA_1]; omega
 ·rw [pA_2]; omega
 ·rw [pA_3,fst_out _ (by omega)]; omega
 ·rw [pA_4,fst_out _ (by omega)]; omega
theorem ev_mul2 (ev k : Int) (h1 : 1 <= ev) (h2 : ev <= 100) (k0 : 0 <= k) (k1 : k <= 36525) : 0 <= ev * k /\ ev * k <= 3652500 /\ k <= ev * k:=by
 have a : 0 <= ev * k:=Int.mul_nonneg (by omega) k0
 have b : ev * k <= 100 * k:=Int.mul_le_mul_of_nonneg_right h2 k0
 have c : 1 * k <= ev * k:=Int.mul_le_mul_of_nonneg_right h1 k0
 omega
theorem period_any (fr ev ct un : Int) (D M Y : Option Addr) (dn dc mn mc yn yc : Nat) (ds : List Wd) (ms ys : List Int) (s k : Int) (w : World) (h : Lies w D dn M mn Y yn ds ms ys) :
  Calls Tryz.prog 89 #[.agg #[.int .i64 fr,.int .i64 ev,.int .i64 ct,.int .i64 un,.slice D dn dc,.slice M mn mc,.slice Y yn yc],.int .i64 s,.int .i64 k] w (Ans w (perV ⟨fr,ev,ct,un,ds,ms,ys⟩ s k)):=by
 have HBX:=hide (more (start w) (.cells #[.int .i64 fr,.int .i64 ev,.int .i64 ct,.int .i64 un,.slice D dn dc,.slice M mn mc,.slice Y yn yc] 39))
 have HL:=hide (h.keep HBX.out)
 have hAC : ∀ i v,(#[.int .i64 fr,.int .i64 ev,.int .i64 ct,.int .i64 un,.slice D dn dc,.slice M mn mc,.slice Y yn yc] : Array Value)[i]? = some v -> (w.alloc (.cells #[.int .i64 fr,.int .i64 ev,.int .i64 ct,.int .i64 un,.slice D dn dc,.slice M mn mc,.slice Y yn yc] 39)).cell? ⟨w.heap.size,i,none⟩ = some v:=fun i v h => by rw [World.cell?_alloc_at _ _ _ _ rfl]; exact h
 have s0:=hAC 0 _ rfl
 have s1:=hAC 1 _ rfl
 have s2:=hAC 2 _ rfl
 have s3:=hAC 3 _ rfl
 have s4:=hAC 4 _ rfl
 have s5:=hAC 5 _ rfl
 have s6:=hAC 6 _ rfl
 clear hAC
 clear h
 cases h1 : dayB s
 ·have HE:=hide (per_no ⟨fr,ev,ct,un,ds,ms,ys⟩ s k (perK_day _ _ _ h1))
  have H1:=hide (dayB_no s h1)
  clear h1
  clear s0 s1 s2 s3 s4 s5 s6 HL
  go_enter Tryz.func89,Tryz.ntmps89
  go_wp2_with fail
  refine (rDate_no s _ H1.out).mono ?_
  rintro e u1 ⟨rfl,hb⟩
  replace HBX:=hide (more (andthen HBX.out hb) (.cells #[.int .i64 0,.int .i64 0,.int .i64 0] 110))
  clear hb
  go_wp2_with fail
  go_ret3
  exact ⟨HE.out,HBX.out⟩
 ·obtain ⟨s1',s2'⟩:=dayB_yes s h1
  clear h1
  obtain ⟨y,hyy⟩ : ∃ y,Cal.yOf s = y:=⟨_,rfl⟩
  obtain ⟨m,hmm⟩ : ∃ m,Cal.mOf s = m:=⟨_,rfl⟩
  obtain ⟨d,hdd⟩ : ∃ d,Cal.dOf s = d:=⟨_,rfl⟩
  have HD:=hide (And.intro hyy (And.intro hmm hdd))
  clear hdd
  cases hi : isB ⟨fr,ev,ct,un,ds,ms,ys⟩
  ·have HE:=hide (per_no ⟨fr,ev,ct,un,ds,ms,ys⟩ s k (perK_rec _ _ _ (rec_isB0 _ hi)))
   have HI:=hide hi
   clear hi
   go_enter Tryz.func89,Tryz.ntmps89
   go_wp2_with fail
   generalize (w.alloc (.cells #[.int .i64 fr,.int .i64 ev,.int .i64 ct,.int .i64 un,.slice D dn dc,.slice M mn mc,.slice Y yn yc] 39)) = W at *
   refine (rdate_is s y m d _ s1' s2' HD.out.1 HD.out.2.1 HD.out.2.2).mono ?_
   rintro e u1 ⟨rfl,hb⟩
   replace HBX:=hide (andthen HBX.out hb)
   replace HL:=hide (HL.out.keep hb)
   replace s0:=cell_keep hb s0
   replace s1:=cell_keep hb s1
   replace s2:=cell_keep hb s2
   replace s3:=cell_keep hb s3
   replace s4:=cell_keep hb s4
   replace s5:=cell_keep hb s5
   replace s6:=cell_keep hb s6
   clear hb
   have hb:=more (start u1) (.cells #[.int .i64 y,.int .i64 m,.int .i64 d] 110)
   replace HBX:=hide (andthen HBX.out hb)
   replace HL:=hide (HL.out.keep hb)
   replace s0:=cell_keep hb s0
   replace s1:=cell_keep hb s1
   replace s2:=cell_keep hb s2
   replace s3:=cell_keep hb s3
   replace s4:=cell_keep hb s4
   replace s5:=cell_keep hb s5
   replace s6:=cell_keep hb s6
   clear hb
   have d0 : (u1.alloc (.cells #[.int .i64 y,.int .i64 m,.int .i64 d] 110)).cell? ⟨u1.heap.size,0,none⟩ = some (.int .i64 y):=by rw [World.cell?_alloc_at _ _ _ _ rfl]; rfl
   have d1 : (u1.alloc (.cells #[.int .i64 y,.int .i64 m,.int .i64 d] 110)).cell? ⟨u1.heap.size,1,none⟩ = some (.int .i64 m):=by rw [World.cell?_alloc_at _ _ _ _ rfl]; rfl
   have d2 : (u1.alloc (.cells #[.int .i64 y,.int .i64 m,.int .i64 d] 110)).cell? ⟨u1.heap.size,2,none⟩ = some (.int .i64 d):=by rw [World.cell?_alloc_at _ _ _ _ rfl]; rfl
   go_wp2_with fail
   generalize (u1.alloc (.cells #[.int .i64 y,.int .i64 m,.int .i64 d] 110)) = V at *
   generalize u1.heap.size = XD at *
   refine (ans_is (is_any fr ev ct un D M Y dn dc mn mc yn yc ds ms ys _ HL.out) HI.out).mono ?_
   rintro e u1 ⟨rfl,hb⟩
   replace HBX:=hide (andthen HBX.out hb)
   replace HL:=hide (HL.out.keep hb)
   replace s0:=cell_keep hb s0
   replace s1:=cell_keep hb s1
   replace s2:=cell_keep hb s2
   replace s3:=cell_keep hb s3
   replace s4:=cell_keep hb s4
   replace s5:=cell_keep hb s5
   replace s6:=cell_keep hb s6
   replace d0:=cell_keep hb d0
   replace d1:=cell_keep hb d1
   replace d2:=cell_keep hb d2
   clear hb
   go_wp2_with fail
   go_ret3
   exact ⟨HE.out,HBX.out⟩
  ·by_cases h0 : fr = 0
   ·have HE:=hide (per_no ⟨fr,ev,ct,un,ds,ms,ys⟩ s k (perK_rec _ _ _ (rec_0 _ h0)))
    have HI:=hide hi
    have f0 : (fr == 0) = true:=by rw [h0]; rfl
    clear hi h0
    go_enter Tryz.func89,Tryz.ntmps89
    go_wp2_with fail
    generalize (w.alloc (.cells #[.int .i64 fr,.int .i64 ev,.int .i64 ct,.int .i64 un,.slice D dn dc,.slice M mn mc,.slice Y yn yc] 39)) = W at *
    refine (rdate_is s y m d _ s1' s2' HD.out.1 HD.out.2.1 HD.out.2.2).mono ?_
    rintro e u1 ⟨rfl,hb⟩
    replace HBX:=hide (andthen HBX.out hb)
    replace HL:=hide (HL.out.keep hb)
    replace s0:=cell_keep hb s0
    replace s1:=cell_keep hb s1
    replace s2:=cell_keep hb s2
    replace s3:=cell_keep hb s3
    replace s4:=cell_keep hb s4
    replace s5:=cell_keep hb s5
    replace s6:=cell_keep hb s6
    clear hb
    have hb:=more (start u1) (.cells #[.int .i64 y,.int .i64 m,.int .i64 d] 110)
    replace HBX:=hide (andthen HBX.out hb)
    replace HL:=hide (HL.out.keep hb)
    replace s0:=cell_keep hb s0
    replace s1:=cell_keep hb s1
    replace s2:=cell_keep hb s2
    replace s3:=cell_keep hb s3
    replace s4:=cell_keep hb s4
    replace s5:=cell_keep hb s5
    replace s6:=cell_keep hb s6
    clear hb
    have d0 : (u1.alloc (.cells #[.int .i64 y,.int .i64 m,.int .i64 d] 110)).cell? ⟨u1.heap.size,0,none⟩ = some (.int .i64 y):=by rw [World.cell?_alloc_at _ _ _ _ rfl]; rfl
    have d1 : (u1.alloc (.cells #[.int .i64 y,.int .i64 m,.int .i64 d] 110)).cell? ⟨u1.heap.size,1,none⟩ = some (.int .i64 m):=by rw [World.cell?_alloc_at _ _ _ _ rfl]; rfl
    have d2 : (u1.alloc (.cells #[.int .i64 y,.int .i64 m,.int .i64 d] 110)).cell? ⟨u1.heap.size,2,none⟩ = some (.int .i64 d):=by rw [World.cell?_alloc_at _ _ _ _ rfl]; rfl
    go_wp2_with fail
    generalize (u1.alloc (.cells #[.int .i64 y,.int .i64 m,.int .i64 d] 110)) = V at *
    generalize u1.heap.size = XD at *
    refine (ans_is (is_any fr ev ct un D M Y dn dc mn mc yn yc ds ms ys _ HL.out) HI.out).mono ?_
    rintro e u1 ⟨rfl,hb⟩
    replace HBX:=hide (andthen HBX.out hb)
    replace HL:=hide (HL.out.keep hb)
    replace s0:=cell_keep hb s0
    replace s1:=cell_keep hb s1
    replace s2:=cell_keep hb s2
    replace s3:=cell_keep hb s3
    replace s4:=cell_keep hb s4
    replace s5:=cell_keep hb s5
    replace s6:=cell_keep hb s6
    replace d0:=cell_keep hb d0
    replace d1:=cell_keep hb d1
    replace d2:=cell_keep hb d2
    clear hb
    go_wp2_with fail
    go_ret3
    exact ⟨HE.out,HBX.out⟩
   ·have hr:=isB_rec _ hi h0
    have f0 : (fr == 0) = false:=by rw [beq_eq_false_iff_ne]; exact h0
    have fb:=recB_fr ⟨fr,ev,ct,un,ds,ms,ys⟩ hr
    have eb:=recB_ev ⟨fr,ev,ct,un,ds,ms,ys⟩ hr
    simp only at fb eb
    have HI:=hide hi
    clear hi h0
    by_cases hk1 : k < 0
    ·have HE:=hide (per_no ⟨fr,ev,ct,un,ds,ms,ys⟩ s k (perK_k _ _ _ (Or.inl hk1)))
     go_enter Tryz.func89,Tryz.ntmps89
     go_wp2_with fail
     generalize (w.alloc (.cells #[.int .i64 fr,.int .i64 ev,.int .i64 ct,.int .i64 un,.slice D dn dc,.slice M mn mc,.slice Y yn yc] 39)) = W at *
     refine (rdate_is s y m d _ s1' s2' HD.out.1 HD.out.2.1 HD.out.2.2).mono ?_
     rintro e u1 ⟨rfl,hb⟩
     replace HBX:=hide (andthen HBX.out hb)
     replace HL:=hide (HL.out.keep hb)
     replace s0:=cell_keep hb s0
     replace s1:=cell_keep hb s1
     replace s2:=cell_keep hb s2
     replace s3:=cell_keep hb s3
     replace s4:=cell_keep hb s4
     replace s5:=cell_keep hb s5
     replace s6:=cell_keep hb s6
     clear hb
     have hb:=more (start u1) (.cells #[.int .i64 y,.int .i64 m,.int .i64 d] 110)
     replace HBX:=hide (andthen HBX.out hb)
     replace HL:=hide (HL.out.keep hb)
     replace s0:=cell_keep hb s0
     replace s1:=cell_keep hb s1
     replace s2:=cell_keep hb s2
     replace s3:=cell_keep hb s3
     replace s4:=cell_keep hb s4
     replace s5:=cell_keep hb s5
     replace s6:=cell_keep hb s6
     clear hb
     have d0 : (u1.alloc (.cells #[.int .i64 y,.int .i64 m,.int .i64 d] 110)).cell? ⟨u1.heap.size,0,none⟩ = some (.int .i64 y):=by rw [World.cell?_alloc_at _ _ _ _ rfl]; rfl
     have d1 : (u1.alloc (.cells #[.int .i64 y,.int .i64 m,.int .i64 d] 110)).cell? ⟨u1.heap.size,1,none⟩ = some (.int .i64 m):=by rw [World.cell?_alloc_at _ _ _ _ rfl]; rfl
     have d2 : (u1.alloc (.cells #[.int .i64 y,.int .i64 m,.int .i64 d] 110)).cell? ⟨u1.heap.size,2,none⟩ = some (.int .i64 d):=by rw [World.cell?_alloc_at _ _ _ _ rfl]; rfl
     go_wp2_with fail
     generalize (u1.alloc (.cells #[.int .i64 y,.int .i64 m,.int .i64 d] 110)) = V at *
     generalize u1.heap.size = XD at *
     refine (ans_is (is_any fr ev ct un D M Y dn dc mn mc yn yc ds ms ys _ HL.out) HI.out).mono ?_
     rintro e u1 ⟨rfl,hb⟩
     replace HBX:=hide (andthen HBX.out hb)
     replace HL:=hide (HL.out.keep hb)
     replace s0:=cell_keep hb s0
     replace s1:=cell_keep hb s1
     replace s2:=cell_keep hb s2
     replace s3:=cell_keep hb s3
     replace s4:=cell_keep hb s4
     replace s5:=cell_keep hb s5
     replace s6:=cell_keep hb s6
     replace d0:=cell_keep hb d0
     replace d1:=cell_keep hb d1
     replace d2:=cell_keep hb d2
     clear hb
     go_wp2_with fail
     go_ret3
     exact ⟨HE.out,HBX.out⟩
    ·by_cases hk2 : 36525 < k
     ·have HE:=hide (per_no ⟨fr,ev,ct,un,ds,ms,ys⟩ s k (perK_k _ _ _ (Or.inr (by omega))))
      go_enter Tryz.func89,Tryz.ntmps89
      go_wp2_with fail
      generalize (w.alloc (.cells #[.int .i64 fr,.int .i64 ev,.int .i64 ct,.int .i64 un,.slice D dn dc,.slice M mn mc,.slice Y yn yc] 39)) = W at *
      refine (rdate_is s y m d _ s1' s2' HD.out.1 HD.out.2.1 HD.out.2.2).mono ?_
      rintro e u1 ⟨rfl,hb⟩
      replace HBX:=hide (andthen HBX.out hb)
      replace HL:=hide (HL.out.keep hb)
      replace s0:=cell_keep hb s0
      replace s1:=cell_keep hb s1
      replace s2:=cell_keep hb s2
      replace s3:=cell_keep hb s3
      replace s4:=cell_keep hb s4
      replace s5:=cell_keep hb s5
      replace s6:=cell_keep hb s6
      clear hb
      have hb:=more (start u1) (.cells #[.int .i64 y,.int .i64 m,.int .i64 d] 110)
      replace HBX:=hide (andthen HBX.out hb)
      replace HL:=hide (HL.out.keep hb)
      replace s0:=cell_keep hb s0
      replace s1:=cell_keep hb s1
      replace s2:=cell_keep hb s2
      replace s3:=cell_keep hb s3
      replace s4:=cell_keep hb s4
      replace s5:=cell_keep hb s5
      replace s6:=cell_keep hb s6
      clear hb
      have d0 : (u1.alloc (.cells #[.int .i64 y,.int .i64 m,.int .i64 d] 110)).cell? ⟨u1.heap.size,0,none⟩ = some (.int .i64 y):=by rw [World.cell?_alloc_at _ _ _ _ rfl]; rfl
      have d1 : (u1.alloc (.cells #[.int .i64 y,.int .i64 m,.int .i64 d] 110)).cell? ⟨u1.heap.size,1,none⟩ = some (.int .i64 m):=by rw [World.cell?_alloc_at _ _ _ _ rfl]; rfl
      have d2 : (u1.alloc (.cells #[.int .i64 y,.int .i64 m,.int .i64 d] 110)).cell? ⟨u1.heap.size,2,none⟩ = some (.int .i64 d):=by rw [World.cell?_alloc_at _ _ _ _ rfl]; rfl
      go_wp2_with fail
      generalize (u1.alloc (.cells #[.int .i64 y,.int .i64 m,.int .i64 d] 110)) = V at *
      generalize u1.heap.size = XD at *
      refine (ans_is (is_any fr ev ct un D M Y dn dc mn mc yn yc ds ms ys _ HL.out) HI.out).mono ?_
      rintro e u1 ⟨rfl,hb⟩
      replace HBX:=hide (andthen HBX.out hb)
      replace HL:=hide (HL.out.keep hb)
      replace s0:=cell_keep hb s0
      replace s1:=cell_keep hb s1
      replace s2:=cell_keep hb s2
      replace s3:=cell_keep hb s3
      replace s4:=cell_keep hb s4
      replace s5:=cell_keep hb s5
      replace s6:=cell_keep hb s6
      replace d0:=cell_keep hb d0
      replace d1:=cell_keep hb d1
      replace d2:=cell_keep hb d2
      clear hb
      go_wp2_with fail
      go_ret3
      exact ⟨HE.out,HBX.out⟩
     ·have hm:=ev_mul2 ev k eb.1 eb.2 (by omega) (by omega)
      obtain ⟨a,ha⟩ : ∃ a,pA fr s (ev * k) = a:=⟨_,rfl⟩
      obtain ⟨b,hb⟩ : ∃ b,pB fr s (ev * k) = b:=⟨_,rfl⟩
      have yb:=Cal.yOf_bd s s1' s2'
      have mb:=Cal.mOf_bd s
      rw [hyy] at yb
      rw [hmm] at mb
      by_cases hl : 36525 <= a
      ·have HE:=hide (per_no ⟨fr,ev,ct,un,ds,ms,ys⟩ s k (perK_late _ _ _ (by show 36525 <= pA fr s (ev * k); rw [ha]; exact hl)))
       clear hr
       rcases fr_cases fr fb.1 fb.2 with e | e | e | e
       ·have f0 : (fr == 0) = false:=by rw [e]; rfl
        have f1 : (fr == 1) = true:=by rw [e]; rfl
        have f2 : (fr == 2) = false:=by rw [e]; rfl
        have f3 : (fr == 3) = false:=by rw [e]; rfl
        have f4 : (fr == 4) = false:=by rw [e]; rfl
        have ea : a = s + ev * k:=by rw [<- ha,e,pA_1]
        have eb : b = s + ev * k + 1:=by rw [<- hb,e,pB_1]
        clear e ha hb
        go_enter Tryz.func89,Tryz.ntmps89
        go_wp2_with fail
        generalize (w.alloc (.cells #[.int .i64 fr,.int .i64 ev,.int .i64 ct,.int .i64 un,.slice D dn dc,.slice M mn mc,.slice Y yn yc] 39)) = W at *
        refine (rdate_is s y m d _ s1' s2' HD.out.1 HD.out.2.1 HD.out.2.2).mono ?_
        rintro e u1 ⟨rfl,hb⟩
        replace HBX:=hide (andthen HBX.out hb)
        replace HL:=hide (HL.out.keep hb)
        replace s0:=cell_keep hb s0
        replace s1:=cell_keep hb s1
        replace s2:=cell_keep hb s2
        replace s3:=cell_keep hb s3
        replace s4:=cell_keep hb s4
        replace s5:=cell_keep hb s5
        replace s6:=cell_keep hb s6
        clear hb
        have hb:=more (start u1) (.cells #[.int .i64 y,.int .i64 m,.int .i64 d] 110)
        replace HBX:=hide (andthen HBX.out hb)
        replace HL:=hide (HL.out.keep hb)
        replace s0:=cell_keep hb s0
        replace s1:=cell_keep hb s1
        replace s2:=cell_keep hb s2
        replace s3:=cell_keep hb s3
        replace s4:=cell_keep hb s4
        replace s5:=cell_keep hb s5
        replace s6:=cell_keep hb s6
        clear hb
        have d0 : (u1.alloc (.cells #[.int .i64 y,.int .i64 m,.int .i64 d] 110)).cell? ⟨u1.heap.size,0,none⟩ = some (.int .i64 y):=by rw [World.cell?_alloc_at _ _ _ _ rfl]; rfl
        have d1 : (u1.alloc (.cells #[.int .i64 y,.int .i64 m,.int .i64 d] 110)).cell? ⟨u1.heap.size,1,none⟩ = some (.int .i64 m):=by rw [World.cell?_alloc_at _ _ _ _ rfl]; rfl
        have d2 : (u1.alloc (.cells #[.int .i64 y,.int .i64 m,.int .i64 d] 110)).cell? ⟨u1.heap.size,2,none⟩ = some (.int .i64 d):=by rw [World.cell?_alloc_at _ _ _ _ rfl]; rfl
        go_wp2_with fail
        generalize (u1.alloc (.cells #[.int .i64 y,.int .i64 m,.int .i64 d] 110)) = V at *
        generalize u1.heap.size = XD at *
        refine (ans_is (is_any fr ev ct un D M Y dn dc mn mc yn yc ds ms ys _ HL.out) HI.out).mono ?_
        rintro e u1 ⟨rfl,hb⟩
        replace HBX:=hide (andthen HBX.out hb)
        replace HL:=hide (HL.out.keep hb)
        replace s0:=cell_keep hb s0
        replace s1:=cell_keep hb s1
        replace s2:=cell_keep hb s2
        replace s3:=cell_keep hb s3
        replace s4:=cell_keep hb s4
        replace s5:=cell_keep hb s5
        replace s6:=cell_keep hb s6
        replace d0:=cell_keep hb d0
        replace d1:=cell_keep hb d1
        replace d2:=cell_keep hb d2
        clear hb
        go_wp2_with fail
        go_ret3
        exact ⟨HE.out,HBX.out⟩
       ·have f0 : (fr == 0) = false:=by rw [e]; rfl
        have f1 : (fr == 1) = false:=by rw [e]; rfl
        have f2 : (fr == 2) = true:=by rw [e]; rfl
        have f3 : (fr == 3) = false:=by rw [e]; rfl
        have f4 : (fr == 4) = false:=by rw [e]; rfl
        obtain ⟨v,hv⟩ : ∃ v,Cal.wday s = v:=⟨_,rfl⟩
        have vb:=Cal.wday_bd s
        rw [hv] at vb
        have ea : a = s - v + ev * k * 7:=by rw [<- ha,e,pA_2,hv]
        have eb : b = s - v + ev * k * 7 + 7:=by rw [<- hb,e,pB_2,hv]
        have HV:=hide hv
        clear hv
        clear e ha hb
        go_enter Tryz.func89,Tryz.ntmps89
        go_wp2_with fail
        generalize (w.alloc (.cells #[.int .i64 fr,.int .i64 ev,.int .i64 ct,.int .i64 un,.slice D dn dc,.slice M mn mc,.slice Y yn yc] 39)) = W at *
        refine (rdate_is s y m d _ s1' s2' HD.out.1 HD.out.2.1 HD.out.2.2).mono ?_
        rintro e u1 ⟨rfl,hb⟩
        replace HBX:=hide (andthen HBX.out hb)
        replace HL:=hide (HL.out.keep hb)
        replace s0:=cell_keep hb s0
        replace s1:=cell_keep hb s1
        replace s2:=cell_keep hb s2
        replace s3:=cell_keep hb s3
        replace s4:=cell_keep hb s4
        replace s5:=cell_keep hb s5
        replace s6:=cell_keep hb s6
        clear hb
        have hb:=more (start u1) (.cells #[.int .i64 y,.int .i64 m,.int .i64 d] 110)
        replace HBX:=hide (andthen HBX.out hb)
        replace HL:=hide (HL.out.keep hb)
        replace s0:=cell_keep hb s0
        replace s1:=cell_keep hb s1
        replace s2:=cell_keep hb s2
        replace s3:=cell_keep hb s3
        replace s4:=cell_keep hb s4
        replace s5:=cell_keep hb s5
        replace s6:=cell_keep hb s6
        clear hb
        have d0 : (u1.alloc (.cells #[.int .i64 y,.int .i64 m,.int .i64 d] 110)).cell? ⟨u1.heap.size,0,none⟩ = some (.int .i64 y):=by rw [World.cell?_alloc_at _ _ _ _ rfl]; rfl
        have d1 : (u1.alloc (.cells #[.int .i64 y,.int .i64 m,.int .i64 d] 110)).cell? ⟨u1.heap.size,1,none⟩ = some (.int .i64 m):=by rw [World.cell?_alloc_at _ _ _ _ rfl]; rfl
        have d2 : (u1.alloc (.cells #[.int .i64 y,.int .i64 m,.int .i64 d] 110)).cell? ⟨u1.heap.size,2,none⟩ = some (.int .i64 d):=by rw [World.cell?_alloc_at _ _ _ _ rfl]; rfl
        go_wp2_with fail
        generalize (u1.alloc (.cells #[.int .i64 y,.int .i64 m,.int .i64 d] 110)) = V at *
        generalize u1.heap.size = XD at *
        refine (ans_is (is_any fr ev ct un D M Y dn dc mn mc yn yc ds ms ys _ HL.out) HI.out).mono ?_
        rintro e u1 ⟨rfl,hb⟩
        replace HBX:=hide (andthen HBX.out hb)
        replace HL:=hide (HL.out.keep hb)
        replace s0:=cell_keep hb s0
        replace s1:=cell_keep hb s1
        replace s2:=cell_keep hb s2
        replace s3:=cell_keep hb s3
        replace s4:=cell_keep hb s4
        replace s5:=cell_keep hb s5
        replace s6:=cell_keep hb s6
        replace d0:=cell_keep hb d0
        replace d1:=cell_keep hb d1
        replace d2:=cell_keep hb d2
        clear hb
        go_wp2_with fail
        refine (rweekday_is s v _ HV.out).mono ?_
        rintro e u2 ⟨rfl,rfl⟩
        go_wp2_with fail
        go_ret3
        exact ⟨HE.out,HBX.out⟩
       ·have f0 : (fr == 0) = false:=by rw [e]; rfl
        have f1 : (fr == 1) = false:=by rw [e]; rfl
        have f2 : (fr == 2) = false:=by rw [e]; rfl
        have f3 : (fr == 3) = true:=by rw [e]; rfl
        have f4 : (fr == 4) = false:=by rw [e]; rfl
        have HA : Hid (fst (12 * (y - 2000) + m - 1 + ev * k) = a):=hide (by rw [<- ha,e,pA_3,hyy,hmm]; congr 1; omega)
        have HB : Hid (fst (12 * (y - 2000) + m - 1 + ev * k + 1) = b):=hide (by rw [<- hb,e,pB_3,hyy,hmm]; congr 1; omega)
        clear e ha hb hyy hmm
        go_enter Tryz.func89,Tryz.ntmps89
        go_wp2_with fail
        generalize (w.alloc (.cells #[.int .i64 fr,.int .i64 ev,.int .i64 ct,.int .i64 un,.slice D dn dc,.slice M mn mc,.slice Y yn yc] 39)) = W at *
        refine (rdate_is s y m d _ s1' s2' HD.out.1 HD.out.2.1 HD.out.2.2).mono ?_
        rintro e u1 ⟨rfl,hb⟩
        replace HBX:=hide (andthen HBX.out hb)
        replace HL:=hide (HL.out.keep hb)
        replace s0:=cell_keep hb s0
        replace s1:=cell_keep hb s1
        replace s2:=cell_keep hb s2
        replace s3:=cell_keep hb s3
        replace s4:=cell_keep hb s4
        replace s5:=cell_keep hb s5
        replace s6:=cell_keep hb s6
        clear hb
        have hb:=more (start u1) (.cells #[.int .i64 y,.int .i64 m,.int .i64 d] 110)
        replace HBX:=hide (andthen HBX.out hb)
        replace HL:=hide (HL.out.keep hb)
        replace s0:=cell_keep hb s0
        replace s1:=cell_keep hb s1
        replace s2:=cell_keep hb s2
        replace s3:=cell_keep hb s3
        replace s4:=cell_keep hb s4
        replace s5:=cell_keep hb s5
        replace s6:=cell_keep hb s6
        clear hb
        have d0 : (u1.alloc (.cells #[.int .i64 y,.int .i64 m,.int .i64 d] 110)).cell? ⟨u1.heap.size,0,none⟩ = some (.int .i64 y):=by rw [World.cell?_alloc_at _ _ _ _ rfl]; rfl
        have d1 : (u1.alloc (.cells #[.int .i64 y,.int .i64 m,.int .i64 d] 110)).cell? ⟨u1.heap.size,1,none⟩ = some (.int .i64 m):=by rw [World.cell?_alloc_at _ _ _ _ rfl]; rfl
        have d2 : (u1.alloc (.cells #[.int .i64 y,.int .i64 m,.int .i64 d] 110)).cell? ⟨u1.heap.size,2,none⟩ = some (.int .i64 d):=by rw [World.cell?_alloc_at _ _ _ _ rfl]; rfl
        go_wp2_with fail
        generalize (u1.alloc (.cells #[.int .i64 y,.int .i64 m,.int .i64 d] 110)) = V at *
        generalize u1.heap.size = XD at *
        refine (ans_is (is_any fr ev ct un D M Y dn dc mn mc yn yc ds ms ys _ HL.out) HI.out).mono ?_
        rintro e u1 ⟨rfl,hb⟩
        replace HBX:=hide (andthen HBX.out hb)
        replace HL:=hide (HL.out.keep hb)
        replace s0:=cell_keep hb s0
        replace s1:=cell_keep hb s1
        replace s2:=cell_keep hb s2
        replace s3:=cell_keep hb s3
        replace s4:=cell_keep hb s4
        replace s5:=cell_keep hb s5
        replace s6:=cell_keep hb s6
        replace d0:=cell_keep hb d0
        replace d1:=cell_keep hb d1
        replace d2:=cell_keep hb d2
        clear hb
        go_wp2_with fail
        refine (first_is _ a _ (by omega) (by omega) HA.out).mono ?_
        rintro e u2 ⟨rfl,hb⟩
        replace HBX:=hide (andthen HBX.out hb)
        replace HL:=hide (HL.out.keep hb)
        replace s0:=cell_keep hb s0
        replace s1:=cell_keep hb s1
        replace s2:=cell_keep hb s2
        replace s3:=cell_keep hb s3
        replace s4:=cell_keep hb s4
        replace s5:=cell_keep hb s5
        replace s6:=cell_keep hb s6
        replace d0:=cell_keep hb d0
        replace d1:=cell_keep hb d1
        replace d2:=cell_keep hb d2
        clear hb
        go_wp2_with fail
        refine (first_is _ b _ (by omega) (by omega) HB.out).mono ?_
        rintro e u3 ⟨rfl,hb⟩
        replace HBX:=hide (andthen HBX.out hb)
        replace HL:=hide (HL.out.keep hb)
        replace s0:=cell_keep hb s0
        replace s1:=cell_keep hb s1
        replace s2:=cell_keep hb s2
        replace s3:=cell_keep hb s3
        replace s4:=cell_keep hb s4
        replace s5:=cell_keep hb s5
        replace s6:=cell_keep hb s6
        replace d0:=cell_keep hb d0
        replace d1:=cell_keep hb d1
        replace d2:=cell_keep hb d2
        clear hb
        go_wp2_with fail
        go_ret3
        exact ⟨HE.out,HBX.out⟩
       ·have f0 : (fr == 0) = false:=by rw [e]; rfl
        have f1 : (fr == 1) = false:=by rw [e]; rfl
        have f2 : (fr == 2) = false:=by rw [e]; rfl
        have f3 : (fr == 3) = false:=by rw [e]; rfl
        have f4 : (fr == 4) = true:=by rw [e]; rfl
        have HA : Hid (fst (12 * (y - 2000 + ev * k)) = a):=hide (by rw [<- ha,e,pA_4,hyy])
        have HB : Hid (fst (12 * (y - 2000 + ev * k) + 12) = b):=hide (by rw [<- hb,e,pB_4,hyy])
        clear e ha hb hyy hmm
        go_enter Tryz.func89,Tryz.ntmps89
        go_wp2_with fail
        generalize (w.alloc (.cells #[.int .i64 fr,.int .i64 ev,.int .i64 ct,.int .i64 un,.slice D dn dc,.slice M mn mc,.slice Y yn yc] 39)) = W at *
        refine (rdate_is s y m d _ s1' s2' HD.out.1 HD.out.2.1 HD.out.2.2).mono ?_
        rintro e u1 ⟨rfl,hb⟩
        replace HBX:=hide (andthen HBX.out hb)
        replace HL:=hide (HL.out.keep hb)
        replace s0:=cell_keep hb s0
        replace s1:=cell_keep hb s1
        replace s2:=cell_keep hb s2
        replace s3:=cell_keep hb s3
        replace s4:=cell_keep hb s4
        replace s5:=cell_keep hb s5
        replace s6:=cell_keep hb s6
        clear hb
        have hb:=more (start u1) (.cells #[.int .i64 y,.int .i64 m,.int .i64 d] 110)
        replace HBX:=hide (andthen HBX.out hb)
        replace HL:=hide (HL.out.keep hb)
        replace s0:=cell_keep hb s0
        replace s1:=cell_keep hb s1
        replace s2:=cell_keep hb s2
        replace s3:=cell_keep hb s3
        replace s4:=cell_keep hb s4
        replace s5:=cell_keep hb s5
        replace s6:=cell_keep hb s6
        clear hb
        have d0 : (u1.alloc (.cells #[.int .i64 y,.int .i64 m,.int .i64 d] 110)).cell? ⟨u1.heap.size,0,none⟩ = some (.int .i64 y):=by rw [World.cell?_alloc_at _ _ _ _ rfl]; rfl
        have d1 : (u1.alloc (.cells #[.int .i64 y,.int .i64 m,.int .i64 d] 110)).cell? ⟨u1.heap.size,1,none⟩ = some (.int .i64 m):=by rw [World.cell?_alloc_at _ _ _ _ rfl]; rfl
        have d2 : (u1.alloc (.cells #[.int .i64 y,.int .i64 m,.int .i64 d] 110)).cell? ⟨u1.heap.size,2,none⟩ = some (.int .i64 d):=by rw [World.cell?_alloc_at _ _ _ _ rfl]; rfl
        go_wp2_with fail
        generalize (u1.alloc (.cells #[.int .i64 y,.int .i64 m,.int .i64 d] 110)) = V at *
        generalize u1.heap.size = XD at *
        refine (ans_is (is_any fr ev ct un D M Y dn dc mn mc yn yc ds ms ys _ HL.out) HI.out).mono ?_
        rintro e u1 ⟨rfl,hb⟩
        replace HBX:=hide (andthen HBX.out hb)
        replace HL:=hide (HL.out.keep hb)
        replace s0:=cell_keep hb s0
        replace s1:=cell_keep hb s1
        replace s2:=cell_keep hb s2
        replace s3:=cell_keep hb s3
        replace s4:=cell_keep hb s4
        replace s5:=cell_keep hb s5
        replace s6:=cell_keep hb s6
        replace d0:=cell_keep hb d0
        replace d1:=cell_keep hb d1
        replace d2:=cell_keep hb d2
        clear hb
        go_wp2_with fail
        refine (first_is _ a _ (by omega) (by omega) HA.out).mono ?_
        rintro e u2 ⟨rfl,hb⟩
        replace HBX:=hide (andthen HBX.out hb)
        replace HL:=hide (HL.out.keep hb)
        replace s0:=cell_keep hb s0
        replace s1:=cell_keep hb s1
        replace s2:=cell_keep hb s2
        replace s3:=cell_keep hb s3
        replace s4:=cell_keep hb s4
        replace s5:=cell_keep hb s5
        replace s6:=cell_keep hb s6
        replace d0:=cell_keep hb d0
        replace d1:=cell_keep hb d1
        replace d2:=cell_keep hb d2
        clear hb
        go_wp2_with fail
        refine (first_is _ b _ (by omega) (by omega) HB.out).mono ?_
        rintro e u3 ⟨rfl,hb⟩
        replace HBX:=hide (andthen HBX.out hb)
        replace HL:=hide (HL.out.keep hb)
        replace s0:=cell_keep hb s0
        replace s1:=cell_keep hb s1
        replace s2:=cell_keep hb s2
        replace s3:=cell_keep hb s3
        replace s4:=cell_keep hb s4
        replace s5:=cell_keep hb s5
        replace s6:=cell_keep hb s6
        replace d0:=cell_keep hb d0
        replace d1:=cell_keep hb d1
        replace d2:=cell_keep hb d2
        clear hb
        go_wp2_with fail
        go_ret3
        exact ⟨HE.out,HBX.out⟩
      ·have hk3 : k < 36525:=by
        rcases Int.lt_or_le k 36525 with g | g
        ·exact g
        ·have:=pA_far fr s (ev * k) fb.1 fb.2 s1' s2' (by omega); omega
       have hK : perK ⟨fr,ev,ct,un,ds,ms,ys⟩ s k = true:=(perK_iff _ _ _).2 ⟨⟨s1',s2'⟩,hr,⟨by omega,hk3⟩,by show pA fr s (ev * k) < 36525; rw [ha]; omega⟩
       have HE : Hid (∀ u v,u = max a 0 -> v = min b 36525 -> Ending.returned (.tuple #[.int .i64 u,.int .i64 v,.bool true]) = .returned (perV ⟨fr,ev,ct,un,ds,ms,ys⟩ s k)):=hide fun u v hu hv => by subst hu hv; exact per_yes ⟨fr,ev,ct,un,ds,ms,ys⟩ s k a b hK ha hb.symm
       clear hr hK
       rcases fr_cases fr fb.1 fb.2 with e | e | e | e
       ·have f0 : (fr == 0) = false:=by rw [e]; rfl
        have f1 : (fr == 1) = true:=by rw [e]; rfl
        have f2 : (fr == 2) = false:=by rw [e]; rfl
        have f3 : (fr == 3) = false:=by rw [e]; rfl
        have f4 : (fr == 4) = false:=by rw [e]; rfl
        have ea : a = s + ev * k:=by rw [<- ha,e,pA_1]
        have eb : b = s + ev * k + 1:=by rw [<- hb,e,pB_1]
        clear e ha hb
        go_enter Tryz.func89,Tryz.ntmps89
        go_wp2_with fail
        generalize (w.alloc (.cells #[.int .i64 fr,.int .i64 ev,.int .i64 ct,.int .i64 un,.slice D dn dc,.slice M mn mc,.slice Y yn yc] 39)) = W at *
        refine (rdate_is s y m d _ s1' s2' HD.out.1 HD.out.2.1 HD.out.2.2).mono ?_
        rintro e u1 ⟨rfl,hb⟩
        replace HBX:=hide (andthen HBX.out hb)
        replace HL:=hide (HL.out.keep hb)
        replace s0:=cell_keep hb s0
        replace s1:=cell_keep hb s1
        replace s2:=cell_keep hb s2
        replace s3:=cell_keep hb s3
        replace s4:=cell_keep hb s4
        replace s5:=cell_keep hb s5
        replace s6:=cell_keep hb s6
        clear hb
        have hb:=more (start u1) (.cells #[.int .i64 y,.int .i64 m,.int .i64 d] 110)
        replace HBX:=hide (andthen HBX.out hb)
        replace HL:=hide (HL.out.keep hb)
        replace s0:=cell_keep hb s0
        replace s1:=cell_keep hb s1
        replace s2:=cell_keep hb s2
        replace s3:=cell_keep hb s3
        replace s4:=cell_keep hb s4
        replace s5:=cell_keep hb s5
        replace s6:=cell_keep hb s6
        clear hb
        have d0 : (u1.alloc (.cells #[.int .i64 y,.int .i64 m,.int .i64 d] 110)).cell? ⟨u1.heap.size,0,none⟩ = some (.int .i64 y):=by rw [World.cell?_alloc_at _ _ _ _ rfl]; rfl
        have d1 : (u1.alloc (.cells #[.int .i64 y,.int .i64 m,.int .i64 d] 110)).cell? ⟨u1.heap.size,1,none⟩ = some (.int .i64 m):=by rw [World.cell?_alloc_at _ _ _ _ rfl]; rfl
        have d2 : (u1.alloc (.cells #[.int .i64 y,.int .i64 m,.int .i64 d] 110)).cell? ⟨u1.heap.size,2,none⟩ = some (.int .i64 d):=by rw [World.cell?_alloc_at _ _ _ _ rfl]; rfl
        go_wp2_with fail
        generalize (u1.alloc (.cells #[.int .i64 y,.int .i64 m,.int .i64 d] 110)) = V at *
        generalize u1.heap.size = XD at *
        refine (ans_is (is_any fr ev ct un D M Y dn dc mn mc yn yc ds ms ys _ HL.out) HI.out).mono ?_
        rintro e u1 ⟨rfl,hb⟩
        replace HBX:=hide (andthen HBX.out hb)
        replace HL:=hide (HL.out.keep hb)
        replace s0:=cell_keep hb s0
        replace s1:=cell_keep hb s1
        replace s2:=cell_keep hb s2
        replace s3:=cell_keep hb s3
        replace s4:=cell_keep hb s4
        replace s5:=cell_keep hb s5
        replace s6:=cell_keep hb s6
        replace d0:=cell_keep hb d0
        replace d1:=cell_keep hb d1
        replace d2:=cell_keep hb d2
        clear hb
        go_wp2_with fail
        all_goals
         go_ret3
         exact ⟨HE.out _ _ (by omega) (by omega),HBX.out⟩
       ·have f0 : (fr == 0) = false:=by rw [e]; rfl
        have f1 : (fr == 1) = false:=by rw [e]; rfl
        have f2 : (fr == 2) = true:=by rw [e]; rfl
        have f3 : (fr == 3) = false:=by rw [e]; rfl
        have f4 : (fr == 4) = false:=by rw [e]; rfl
        obtain ⟨v,hv⟩ : ∃ v,Cal.wday s = v:=⟨_,rfl⟩
        have vb:=Cal.wday_bd s
        rw [hv] at vb
        have ea : a = s - v + ev * k * 7:=by rw [<- ha,e,pA_2,hv]
        have eb : b = s - v + ev * k * 7 + 7:=by rw [<- hb,e,pB_2,hv]
        have HV:=hide hv
        clear hv
        clear e ha hb
        go_enter Tryz.func89,Tryz.ntmps89
        go_wp2_with fail
        generalize (w.alloc (.cells #[.int .i64 fr,.int .i64 ev,.int .i64 ct,.int .i64 un,.slice D dn dc,.slice M mn mc,.slice Y yn yc] 39)) = W at *
        refine (rdate_is s y m d _ s1' s2' HD.out.1 HD.out.2.1 HD.out.2.2).mono ?_
        rintro e u1 ⟨rfl,hb⟩
        replace HBX:=hide (andthen HBX.out hb)
        replace HL:=hide (HL.out.keep hb)
        replace s0:=cell_keep hb s0
        replace s1:=cell_keep hb s1
        replace s2:=cell_keep hb s2
        replace s3:=cell_keep hb s3
        replace s4:=cell_keep hb s4
        replace s5:=cell_keep hb s5
        replace s6:=cell_keep hb s6
        clear hb
        have hb:=more (start u1) (.cells #[.int .i64 y,.int .i64 m,.int .i64 d] 110)
        replace HBX:=hide (andthen HBX.out hb)
        replace HL:=hide (HL.out.keep hb)
        replace s0:=cell_keep hb s0
        replace s1:=cell_keep hb s1
        replace s2:=cell_keep hb s2
        replace s3:=cell_keep hb s3
        replace s4:=cell_keep hb s4
        replace s5:=cell_keep hb s5
        replace s6:=cell_keep hb s6
        clear hb
        have d0 : (u1.alloc (.cells #[.int .i64 y,.int .i64 m,.int .i64 d] 110)).cell? ⟨u1.heap.size,0,none⟩ = some (.int .i64 y):=by rw [World.cell?_alloc_at _ _ _ _ rfl]; rfl
        have d1 : (u1.alloc (.cells #[.int .i64 y,.int .i64 m,.int .i64 d] 110)).cell? ⟨u1.heap.size,1,none⟩ = some (.int .i64 m):=by rw [World.cell?_alloc_at _ _ _ _ rfl]; rfl
        have d2 : (u1.alloc (.cells #[.int .i64 y,.int .i64 m,.int .i64 d] 110)).cell? ⟨u1.heap.size,2,none⟩ = some (.int .i64 d):=by rw [World.cell?_alloc_at _ _ _ _ rfl]; rfl
        go_wp2_with fail
        generalize (u1.alloc (.cells #[.int .i64 y,.int .i64 m,.int .i64 d] 110)) = V at *
        generalize u1.heap.size = XD at *
        refine (ans_is (is_any fr ev ct un D M Y dn dc mn mc yn yc ds ms ys _ HL.out) HI.out).mono ?_
        rintro e u1 ⟨rfl,hb⟩
        replace HBX:=hide (andthen HBX.out hb)
        replace HL:=hide (HL.out.keep hb)
        replace s0:=cell_keep hb s0
        replace s1:=cell_keep hb s1
        replace s2:=cell_keep hb s2
        replace s3:=cell_keep hb s3
        replace s4:=cell_keep hb s4
        replace s5:=cell_keep hb s5
        replace s6:=cell_keep hb s6
        replace d0:=cell_keep hb d0
        replace d1:=cell_keep hb d1
        replace d2:=cell_keep hb d2
        clear hb
        go_wp2_with fail
        refine (rweekday_is s v _ HV.out).mono ?_
        rintro e u2 ⟨rfl,rfl⟩
        go_wp2_with fail
        all_goals
         go_ret3
         exact ⟨HE.out _ _ (by omega) (by omega),HBX.out⟩
       ·have f0 : (fr == 0) = false:=by rw [e]; rfl
        have f1 : (fr == 1) = false:=by rw [e]; rfl
        have f2 : (fr == 2) = false:=by rw [e]; rfl
        have f3 : (fr == 3) = true:=by rw [e]; rfl
        have f4 : (fr == 4) = false:=by rw [e]; rfl
        have HA : Hid (fst (12 * (y - 2000) + m - 1 + ev * k) = a):=hide (by rw [<- ha,e,pA_3,hyy,hmm]; congr 1; omega)
        have HB : Hid (fst (12 * (y - 2000) + m - 1 + ev * k + 1) = b):=hide (by rw [<- hb,e,pB_3,hyy,hmm]; congr 1; omega)
        clear e ha hb hyy hmm
        go_enter Tryz.func89,Tryz.ntmps89
        go_wp2_with fail
        generalize (w.alloc (.cells #[.int .i64 fr,.int .i64 ev,.int .i64 ct,.int .i64 un,.slice D dn dc,.slice M mn mc,.slice Y yn yc] 39)) = W at *
        refine (rdate_is s y m d _ s1' s2' HD.out.1 HD.out.2.1 HD.out.2.2).mono ?_
        rintro e u1 ⟨rfl,hb⟩
        replace HBX:=hide (andthen HBX.out hb)
        replace HL:=hide (HL.out.keep hb)
        replace s0:=cell_keep hb s0
        replace s1:=cell_keep hb s1
        replace s2:=cell_keep hb s2
        replace s3:=cell_keep hb s3
        replace s4:=cell_keep hb s4
        replace s5:=cell_keep hb s5
        replace s6:=cell_keep hb s6
        clear hb
        have hb:=more (start u1) (.cells #[.int .i64 y,.int .i64 m,.int .i64 d] 110)
        replace HBX:=hide (andthen HBX.out hb)
        replace HL:=hide (HL.out.keep hb)
        replace s0:=cell_keep hb s0
        replace s1:=cell_keep hb s1
        replace s2:=cell_keep hb s2
        replace s3:=cell_keep hb s3
        replace s4:=cell_keep hb s4
        replace s5:=cell_keep hb s5
        replace s6:=cell_keep hb s6
        clear hb
        have d0 : (u1.alloc (.cells #[.int .i64 y,.int .i64 m,.int .i64 d] 110)).cell? ⟨u1.heap.size,0,none⟩ = some (.int .i64 y):=by rw [World.cell?_alloc_at _ _ _ _ rfl]; rfl
        have d1 : (u1.alloc (.cells #[.int .i64 y,.int .i64 m,.int .i64 d] 110)).cell? ⟨u1.heap.size,1,none⟩ = some (.int .i64 m):=by rw [World.cell?_alloc_at _ _ _ _ rfl]; rfl
        have d2 : (u1.alloc (.cells #[.int .i64 y,.int .i64 m,.int .i64 d] 110)).cell? ⟨u1.heap.size,2,none⟩ = some (.int .i64 d):=by rw [World.cell?_alloc_at _ _ _ _ rfl]; rfl
        go_wp2_with fail
        generalize (u1.alloc (.cells #[.int .i64 y,.int .i64 m,.int .i64 d] 110)) = V at *
        generalize u1.heap.size = XD at *
        refine (ans_is (is_any fr ev ct un D M Y dn dc mn mc yn yc ds ms ys _ HL.out) HI.out).mono ?_
        rintro e u1 ⟨rfl,hb⟩
        replace HBX:=hide (andthen HBX.out hb)
        replace HL:=hide (HL.out.keep hb)
        replace s0:=cell_keep hb s0
        replace s1:=cell_keep hb s1
        replace s2:=cell_keep hb s2
        replace s3:=cell_keep hb s3
        replace s4:=cell_keep hb s4
        replace s5:=cell_keep hb s5
        replace s6:=cell_keep hb s6
        replace d0:=cell_keep hb d0
        replace d1:=cell_keep hb d1
        replace d2:=cell_keep hb d2
        clear hb
        go_wp2_with fail
        refine (first_is _ a _ (by omega) (by omega) HA.out).mono ?_
        rintro e u2 ⟨rfl,hb⟩
        replace HBX:=hide (andthen HBX.out hb)
        replace HL:=hide (HL.out.keep hb)
        replace s0:=cell_keep hb s0
        replace s1:=cell_keep hb s1
        replace s2:=cell_keep hb s2
        replace s3:=cell_keep hb s3
        replace s4:=cell_keep hb s4
        replace s5:=cell_keep hb s5
        replace s6:=cell_keep hb s6
        replace d0:=cell_keep hb d0
        replace d1:=cell_keep hb d1
        replace d2:=cell_keep hb d2
        clear hb
        go_wp2_with fail
        refine (first_is _ b _ (by omega) (by omega) HB.out).mono ?_
        rintro e u3 ⟨rfl,hb⟩
        replace HBX:=hide (andthen HBX.out hb)
        replace HL:=hide (HL.out.keep hb)
        replace s0:=cell_keep hb s0
        replace s1:=cell_keep hb s1
        replace s2:=cell_keep hb s2
        replace s3:=cell_keep hb s3
        replace s4:=cell_keep hb s4
        replace s5:=cell_keep hb s5
        replace s6:=cell_keep hb s6
        replace d0:=cell_keep hb d0
        replace d1:=cell_keep hb d1
        replace d2:=cell_keep hb d2
        clear hb
        go_wp2_with fail
        all_goals
         go_ret3
         exact ⟨HE.out _ _ (by omega) (by omega),HBX.out⟩
       ·have f0 : (fr == 0) = false:=by rw [e]; rfl
        have f1 : (fr == 1) = false:=by rw [e]; rfl
        have f2 : (fr == 2) = false:=by rw [e]; rfl
        have f3 : (fr == 3) = false:=by rw [e]; rfl
        have f4 : (fr == 4) = true:=by rw [e]; rfl
        have HA : Hid (fst (12 * (y - 2000 + ev * k)) = a):=hide (by rw [<- ha,e,pA_4,hyy])
        have HB : Hid (fst (12 * (y - 2000 + ev * k) + 12) = b):=hide (by rw [<- hb,e,pB_4,hyy])
        clear e ha hb hyy hmm
        go_enter Tryz.func89,Tryz.ntmps89
        go_wp2_with fail
        generalize (w.alloc (.cells #[.int .i64 fr,.int .i64 ev,.int .i64 ct,.int .i64 un,.slice D dn dc,.slice M mn mc,.slice Y yn yc] 39)) = W at *
        refine (rdate_is s y m d _ s1' s2' HD.out.1 HD.out.2.1 HD.out.2.2).mono ?_
        rintro e u1 ⟨rfl,hb⟩
        replace HBX:=hide (andthen HBX.out hb)
        replace HL:=hide (HL.out.keep hb)
        replace s0:=cell_keep hb s0
        replace s1:=cell_keep hb s1
        replace s2:=cell_keep hb s2
        replace s3:=cell_keep hb s3
        replace s4:=cell_keep hb s4
        replace s5:=cell_keep hb s5
        replace s6:=cell_keep hb s6
        clear hb
        have hb:=more (start u1) (.cells #[.int .i64 y,.int .i64 m,.int .i64 d] 110)
        replace HBX:=hide (andthen HBX.out hb)
        replace HL:=hide (HL.out.keep hb)
        replace s0:=cell_keep hb s0
        replace s1:=cell_keep hb s1
        replace s2:=cell_keep hb s2
        replace s3:=cell_keep hb s3
        replace s4:=cell_keep hb s4
        replace s5:=cell_keep hb s5
        replace s6:=cell_keep hb s6
        clear hb
        have d0 : (u1.alloc (.cells #[.int .i64 y,.int .i64 m,.int .i64 d] 110)).cell? ⟨u1.heap.size,0,none⟩ = some (.int .i64 y):=by rw [World.cell?_alloc_at _ _ _ _ rfl]; rfl
        have d1 : (u1.alloc (.cells #[.int .i64 y,.int .i64 m,.int .i64 d] 110)).cell? ⟨u1.heap.size,1,none⟩ = some (.int .i64 m):=by rw [World.cell?_alloc_at _ _ _ _ rfl]; rfl
        have d2 : (u1.alloc (.cells #[.int .i64 y,.int .i64 m,.int .i64 d] 110)).cell? ⟨u1.heap.size,2,none⟩ = some (.int .i64 d):=by rw [World.cell?_alloc_at _ _ _ _ rfl]; rfl
        go_wp2_with fail
        generalize (u1.alloc (.cells #[.int .i64 y,.int .i64 m,.int .i64 d] 110)) = V at *
        generalize u1.heap.size = XD at *
        refine (ans_is (is_any fr ev ct un D M Y dn dc mn mc yn yc ds ms ys _ HL.out) HI.out).mono ?_
        rintro e u1 ⟨rfl,hb⟩
        replace HBX:=hide (andthen HBX.out hb)
        replace HL:=hide (HL.out.keep hb)
        replace s0:=cell_keep hb s0
        replace s1:=cell_keep hb s1
        replace s2:=cell_keep hb s2
        replace s3:=cell_keep hb s3
        replace s4:=cell_keep hb s4
        replace s5:=cell_keep hb s5
        replace s6:=cell_keep hb s6
        replace d0:=cell_keep hb d0
        replace d1:=cell_keep hb d1
        replace d2:=cell_keep hb d2
        clear hb
        go_wp2_with fail
        refine (first_is _ a _ (by omega) (by omega) HA.out).mono ?_
        rintro e u2 ⟨rfl,hb⟩
        replace HBX:=hide (andthen HBX.out hb)
        replace HL:=hide (HL.out.keep hb)
        replace s0:=cell_keep hb s0
        replace s1:=cell_keep hb s1
        replace s2:=cell_keep hb s2
        replace s3:=cell_keep hb s3
        replace s4:=cell_keep hb s4
        replace s5:=cell_keep hb s5
        replace s6:=cell_keep hb s6
        replace d0:=cell_keep hb d0
        replace d1:=cell_keep hb d1
        replace d2:=cell_keep hb d2
        clear hb
        go_wp2_with fail
        refine (first_is _ b _ (by omega) (by omega) HB.out).mono ?_
        rintro e u3 ⟨rfl,hb⟩
        replace HBX:=hide (andthen HBX.out hb)
        replace HL:=hide (HL.out.keep hb)
        replace s0:=cell_keep hb s0
        replace s1:=cell_keep hb s1
        replace s2:=cell_keep hb s2
        replace s3:=cell_keep hb s3
        replace s4:=cell_keep hb s4
        replace s5:=cell_keep hb s5
        replace s6:=cell_keep hb s6
        replace d0:=cell_keep hb d0
        replace d1:=cell_keep hb d1
        replace d2:=cell_keep hb d2
        clear hb
        go_wp2_with fail
        all_goals
         go_ret3
         exact ⟨HE.out _ _ (by omega) (by omega),HBX.out⟩
end Go.Proofs.YtgihekokbgggcaaGreat.R

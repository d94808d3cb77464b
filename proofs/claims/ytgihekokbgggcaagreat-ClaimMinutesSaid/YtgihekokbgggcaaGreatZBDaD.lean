/- Walks of package days: what a day must have in common with start. Written by recipes/da2.py. -/
import Derived.Test.YtgihekokbgggcaaGreatZBW11
import Derived.Test.YtgihekokbgggcaaGreatZW5
set_option maxHeartbeats 8000000
set_option maxRecDepth 1000000
namespace Go.Proofs.YtgihekokbgggcaaGreat
open Go.RowKit Rul Go.Sort
def hs (wk dy mo v d m : Int) : Bool:=((wk == -1) || (wk == v)) && (((dy == -1) || (dy == d)) && ((mo == -1) || (mo == m)))
theorem has_walk (wk dy mo n y m d v : Int) (w : World) (h1 : 0 <= n) (h2 : n < 36525) (HD : Hid (Cal.yOf n = y /\ Cal.mOf n = m /\ Cal.dOf n = d)) (HV : Hid (Cal.wday n = v)) :
  Calls Tryz.prog 168 #[.agg #[.int .i64 wk,.int .i64 dy,.int .i64 mo],.int .i64 n] w (Ans w (.bool (hs wk dy mo v d m))):=by
 have HBX:=hide (more (start w) (.cells #[.int .i64 wk,.int .i64 dy,.int .i64 mo] 159))
 have s0 : (w.alloc (.cells #[.int .i64 wk,.int .i64 dy,.int .i64 mo] 159)).cell? ⟨w.heap.size,0,none⟩ = some (.int .i64 wk):=by rw [World.cell?_alloc_at _ _ _ _ rfl]; rfl
 have s1 : (w.alloc (.cells #[.int .i64 wk,.int .i64 dy,.int .i64 mo] 159)).cell? ⟨w.heap.size,1,none⟩ = some (.int .i64 dy):=by rw [World.cell?_alloc_at _ _ _ _ rfl]; rfl
 have s2 : (w.alloc (.cells #[.int .i64 wk,.int .i64 dy,.int .i64 mo] 159)).cell? ⟨w.heap.size,2,none⟩ = some (.int .i64 mo):=by rw [World.cell?_alloc_at _ _ _ _ rfl]; rfl
 cases a_wk : (wk == -1)
 ·cases b_wk : (wk == v)
  ·have HE:=hide (show hs wk dy mo v d m = false by unfold hs; rw [a_wk,b_wk]; rfl)
   go_enter Tryz.func168,Tryz.ntmps168
   go_wp2_with fail
   generalize HW0 : (w.alloc (.cells #[.int .i64 wk,.int .i64 dy,.int .i64 mo] 159)) = W at *
   clear HW0
   refine (date_is n y m d _ h1 h2 HD.out.1 HD.out.2.1 HD.out.2.2).mono ?_
   rintro e u1 ⟨rfl,hb⟩
   replace HBX:=hide (andthen HBX.out hb)
   replace s0:=cell_keep hb s0
   replace s1:=cell_keep hb s1
   replace s2:=cell_keep hb s2
   clear hb
   go_wp2_with fail
   have hb:=more (start u1) (.cells #[.int .i64 y,.int .i64 m,.int .i64 d] 110)
   replace HBX:=hide (andthen HBX.out hb)
   replace s0:=cell_keep hb s0
   replace s1:=cell_keep hb s1
   replace s2:=cell_keep hb s2
   clear hb
   have d0 : (u1.alloc (.cells #[.int .i64 y,.int .i64 m,.int .i64 d] 110)).cell? ⟨u1.heap.size,0,none⟩ = some (.int .i64 y):=by rw [World.cell?_alloc_at _ _ _ _ rfl]; rfl
   have d1 : (u1.alloc (.cells #[.int .i64 y,.int .i64 m,.int .i64 d] 110)).cell? ⟨u1.heap.size,1,none⟩ = some (.int .i64 m):=by rw [World.cell?_alloc_at _ _ _ _ rfl]; rfl
   have d2 : (u1.alloc (.cells #[.int .i64 y,.int .i64 m,.int .i64 d] 110)).cell? ⟨u1.heap.size,2,none⟩ = some (.int .i64 d):=by rw [World.cell?_alloc_at _ _ _ _ rfl]; rfl
   generalize (u1.alloc (.cells #[.int .i64 y,.int .i64 m,.int .i64 d] 110)) = VD at *
   generalize u1.heap.size = XD at *
   have fs0:=fun d os => cell_regrown s0 d os
   have fs1:=fun d os => cell_regrown s1 d os
   have fs2:=fun d os => cell_regrown s2 d os
   have fd0:=fun d os => cell_regrown d0 d os
   have fd1:=fun d os => cell_regrown d1 d os
   have fd2:=fun d os => cell_regrown d2 d os
   have hbq:=fun d os => below_regrown VD d os
   refine wp_region_quiet_below (by kernel_rfl) (by kernel_rfl) ?_
   repeat (first | go_big_quiet_step ((first | (go_at_call 165; exact Calls.regrown_of (weekday_at n v _ h1 h2 HV.out)))) | quiet_step ((first | (go_at_call 165; exact Calls.regrown_of (weekday_at n v _ h1 h2 HV.out)))))
   refine wpQuiet_nil ?_
   intro _ hw'
   obtain ⟨⟨nq,osq⟩,hw''⟩:=hw'
   subst hw''
   have hb:=hbq nq osq
   replace HBX:=hide (andthen HBX.out hb)
   replace s0:=cell_keep hb s0
   replace s1:=cell_keep hb s1
   replace s2:=cell_keep hb s2
   replace d0:=cell_keep hb d0
   replace d1:=cell_keep hb d1
   replace d2:=cell_keep hb d2
   clear hb hbq fs0 fs1 fs2 fd0 fd1 fd2
   go_wp2_with fail
   go_ret
   exact ⟨ret_bool (by rw [HE.out]),HBX.out⟩
  ·cases a_dy : (dy == -1)
   ·cases b_dy : (dy == d)
    ·have HE:=hide (show hs wk dy mo v d m = false by unfold hs; rw [a_wk,b_wk,a_dy,b_dy]; rfl)
     go_enter Tryz.func168,Tryz.ntmps168
     go_wp2_with fail
     generalize HW0 : (w.alloc (.cells #[.int .i64 wk,.int .i64 dy,.int .i64 mo] 159)) = W at *
     clear HW0
     refine (date_is n y m d _ h1 h2 HD.out.1 HD.out.2.1 HD.out.2.2).mono ?_
     rintro e u1 ⟨rfl,hb⟩
     replace HBX:=hide (andthen HBX.out hb)
     replace s0:=cell_keep hb s0
     replace s1:=cell_keep hb s1
     replace s2:=cell_keep hb s2
     clear hb
     go_wp2_with fail
     have hb:=more (start u1) (.cells #[.int .i64 y,.int .i64 m,.int .i64 d] 110)
     replace HBX:=hide (andthen HBX.out hb)
     replace s0:=cell_keep hb s0
     replace s1:=cell_keep hb s1
     replace s2:=cell_keep hb s2
     clear hb
     have d0 : (u1.alloc (.cells #[.int .i64 y,.int .i64 m,.int .i64 d] 110)).cell? ⟨u1.heap.size,0,none⟩ = some (.int .i64 y):=by rw [World.cell?_alloc_at _ _ _ _ rfl]; rfl
     have d1 : (u1.alloc (.cells #[.int .i64 y,.int .i64 m,.int .i64 d] 110)).cell? ⟨u1.heap.size,1,none⟩ = some (.int .i64 m):=by rw [World.cell?_alloc_at _ _ _ _ rfl]; rfl
     have d2 : (u1.alloc (.cells #[.int .i64 y,.int .i64 m,.int .i64 d] 110)).cell? ⟨u1.heap.size,2,none⟩ = some (.int .i64 d):=by rw [World.cell?_alloc_at _ _ _ _ rfl]; rfl
     generalize (u1.alloc (.cells #[.int .i64 y,.int .i64 m,.int .i64 d] 110)) = VD at *
     generalize u1.heap.size = XD at *
     have fs0:=fun d os => cell_regrown s0 d os
     have fs1:=fun d os => cell_regrown s1 d os
     have fs2:=fun d os => cell_regrown s2 d os
     have fd0:=fun d os => cell_regrown d0 d os
     have fd1:=fun d os => cell_regrown d1 d os
     have fd2:=fun d os => cell_regrown d2 d os
     have hbq:=fun d os => below_regrown VD d os
     refine wp_region_quiet_below (by kernel_rfl) (by kernel_rfl) ?_
     repeat (first | go_big_quiet_step ((first | (go_at_call 165; exact Calls.regrown_of (weekday_at n v _ h1 h2 HV.out)))) | quiet_step ((first | (go_at_call 165; exact Calls.regrown_of (weekday_at n v _ h1 h2 HV.out)))))
     refine wpQuiet_nil ?_
     intro _ hw'
     obtain ⟨⟨nq,osq⟩,hw''⟩:=hw'
     subst hw''
     have hb:=hbq nq osq
     replace HBX:=hide (andthen HBX.out hb)
     replace s0:=cell_keep hb s0
     replace s1:=cell_keep hb s1
     replace s2:=cell_keep hb s2
     replace d0:=cell_keep hb d0
     replace d1:=cell_keep hb d1
     replace d2:=cell_keep hb d2
     clear hb hbq fs0 fs1 fs2 fd0 fd1 fd2
     go_wp2_with fail
     go_ret
     exact ⟨ret_bool (by rw [HE.out]),HBX.out⟩
    ·cases a_mo : (mo == -1)
     ·cases b_mo : (mo == m)
      ·have HE:=hide (show hs wk dy mo v d m = false by unfold hs; rw [a_wk,b_wk,a_dy,b_dy,a_mo,b_mo]; rfl)
       go_enter Tryz.func168,Tryz.ntmps168
       go_wp2_with fail
       generalize HW0 : (w.alloc (.cells #[.int .i64 wk,.int .i64 dy,.int .i64 mo] 159)) = W at *
       clear HW0
       refine (date_is n y m d _ h1 h2 HD.out.1 HD.out.2.1 HD.out.2.2).mono ?_
       rintro e u1 ⟨rfl,hb⟩
       replace HBX:=hide (andthen HBX.out hb)
       replace s0:=cell_keep hb s0
       replace s1:=cell_keep hb s1
       replace s2:=cell_keep hb s2
       clear hb
       go_wp2_with fail
       have hb:=more (start u1) (.cells #[.int .i64 y,.int .i64 m,.int .i64 d] 110)
       replace HBX:=hide (andthen HBX.out hb)
       replace s0:=cell_keep hb s0
       replace s1:=cell_keep hb s1
       replace s2:=cell_keep hb s2
       clear hb
       have d0 : (u1.alloc (.cells #[.int .i64 y,.int .i64 m,.int .i64 d] 110)).cell? ⟨u1.heap.size,0,none⟩ = some (.int .i64 y):=by rw [World.cell?_alloc_at _ _ _ _ rfl]; rfl
       have d1 : (u1.alloc (.cells #[.int .i64 y,.int .i64 m,.int .i64 d] 110)).cell? ⟨u1.heap.size,1,none⟩ = some (.int .i64 m):=by rw [World.cell?_alloc_at _ _ _ _ rfl]; rfl
       have d2 : (u1.alloc (.cells #[.int .i64 y,.int .i64 m,.int .i64 d] 110)).cell? ⟨u1.heap.size,2,none⟩ = some (.int .i64 d):=by rw [World.cell?_alloc_at _ _ _ _ rfl]; rfl
       generalize (u1.alloc (.cells #[.int .i64 y,.int .i64 m,.int .i64 d] 110)) = VD at *
       generalize u1.heap.size = XD at *
       have fs0:=fun d os => cell_regrown s0 d os
       have fs1:=fun d os => cell_regrown s1 d os
       have fs2:=fun d os => cell_regrown s2 d os
       have fd0:=fun d os => cell_regrown d0 d os
       have fd1:=fun d os => cell_regrown d1 d os
       have fd2:=fun d os => cell_regrown d2 d os
       have hbq:=fun d os => below_regrown VD d os
       refine wp_region_quiet_below (by kernel_rfl) (by kernel_rfl) ?_
       repeat (first | go_big_quiet_step ((first | (go_at_call 165; exact Calls.regrown_of (weekday_at n v _ h1 h2 HV.out)))) | quiet_step ((first | (go_at_call 165; exact Calls.regrown_of (weekday_at n v _ h1 h2 HV.out)))))
       refine wpQuiet_nil ?_
       intro _ hw'
       obtain ⟨⟨nq,osq⟩,hw''⟩:=hw'
       subst hw''
       have hb:=hbq nq osq
       replace HBX:=hide (andthen HBX.out hb)
       replace s0:=cell_keep hb s0
       replace s1:=cell_keep hb s1
       replace s2:=cell_keep hb s2
       replace d0:=cell_keep hb d0
       replace d1:=cell_keep hb d1
       replace d2:=cell_keep hb d2
       clear hb hbq fs0 fs1 fs2 fd0 fd1 fd2
       go_wp2_with fail
       go_ret
       exact ⟨ret_bool (by rw [HE.out]),HBX.out⟩
      ·have HE:=hide (show hs wk dy mo v d m = true by unfold hs; rw [a_wk,b_wk,a_dy,b_dy,a_mo,b_mo]; rfl)
       go_enter Tryz.func168,Tryz.ntmps168
       go_wp2_with fail
       generalize HW0 : (w.alloc (.cells #[.int .i64 wk,.int .i64 dy,.int .i64 mo] 159)) = W at *
       clear HW0
       refine (date_is n y m d _ h1 h2 HD.out.1 HD.out.2.1 HD.out.2.2).mono ?_
       rintro e u1 ⟨rfl,hb⟩
       replace HBX:=hide (andthen HBX.out hb)
       replace s0:=cell_keep hb s0
       replace s1:=cell_keep hb s1
       replace s2:=cell_keep hb s2
       clear hb
       go_wp2_with fail
       have hb:=more (start u1) (.cells #[.int .i64 y,.int .i64 m,.int .i64 d] 110)
       replace HBX:=hide (andthen HBX.out hb)
       replace s0:=cell_keep hb s0
       replace s1:=cell_keep hb s1
       replace s2:=cell_keep hb s2
       clear hb
       have d0 : (u1.alloc (.cells #[.int .i64 y,.int .i64 m,.int .i64 d] 110)).cell? ⟨u1.heap.size,0,none⟩ = some (.int .i64 y):=by rw [World.cell?_alloc_at _ _ _ _ rfl]; rfl
       have d1 : (u1.alloc (.cells #[.int .i64 y,.int .i64 m,.int .i64 d] 110)).cell? ⟨u1.heap.size,1,none⟩ = some (.int .i64 m):=by rw [World.cell?_alloc_at _ _ _ _ rfl]; rfl
       have d2 : (u1.alloc (.cells #[.int .i64 y,.int .i64 m,.int .i64 d] 110)).cell? ⟨u1.heap.size,2,none⟩ = some (.int .i64 d):=by rw [World.cell?_alloc_at _ _ _ _ rfl]; rfl
       generalize (u1.alloc (.cells #[.int .i64 y,.int .i64 m,.int .i64 d] 110)) = VD at *
       generalize u1.heap.size = XD at *
       have fs0:=fun d os => cell_regrown s0 d os
       have fs1:=fun d os => cell_regrown s1 d os
       have fs2:=fun d os => cell_regrown s2 d os
       have fd0:=fun d os => cell_regrown d0 d os
       have fd1:=fun d os => cell_regrown d1 d os
       have fd2:=fun d os => cell_regrown d2 d os
       have hbq:=fun d os => below_regrown VD d os
       refine wp_region_quiet_below (by kernel_rfl) (by kernel_rfl) ?_
       repeat (first | go_big_quiet_step ((first | (go_at_call 165; exact Calls.regrown_of (weekday_at n v _ h1 h2 HV.out)))) | quiet_step ((first | (go_at_call 165; exact Calls.regrown_of (weekday_at n v _ h1 h2 HV.out)))))
       refine wpQuiet_nil ?_
       intro _ hw'
       obtain ⟨⟨nq,osq⟩,hw''⟩:=hw'
       subst hw''
       have hb:=hbq nq osq
       replace HBX:=hide (andthen HBX.out hb)
       replace s0:=cell_keep hb s0
       replace s1:=cell_keep hb s1
       replace s2:=cell_keep hb s2
       replace d0:=cell_keep hb d0
       replace d1:=cell_keep hb d1
       replace d2:=cell_keep hb d2
       clear hb hbq fs0 fs1 fs2 fd0 fd1 fd2
       go_wp2_with fail
       go_ret
       exact ⟨ret_bool (by rw [HE.out]),HBX.out⟩
     ·have HE:=hide (show hs wk dy mo v d m = true by unfold hs; rw [a_wk,b_wk,a_dy,b_dy,a_mo]; rfl)
      go_enter Tryz.func168,Tryz.ntmps168
      go_wp2_with fail
      generalize HW0 : (w.alloc (.cells #[.int .i64 wk,.int .i64 dy,.int .i64 mo] 159)) = W at *
      clear HW0
      refine (date_is n y m d _ h1 h2 HD.out.1 HD.out.2.1 HD.out.2.2).mono ?_
      rintro e u1 ⟨rfl,hb⟩
      replace HBX:=hide (andthen HBX.out hb)
      replace s0:=cell_keep hb s0
      replace s1:=cell_keep hb s1
      replace s2:=cell_keep hb s2
      clear hb
      go_wp2_with fail
      have hb:=more (start u1) (.cells #[.int .i64 y,.int .i64 m,.int .i64 d] 110)
      replace HBX:=hide (andthen HBX.out hb)
      replace s0:=cell_keep hb s0
      replace s1:=cell_keep hb s1
      replace s2:=cell_keep hb s2
      clear hb
      have d0 : (u1.alloc (.cells #[.int .i64 y,.int .i64 m,.int .i64 d] 110)).cell? ⟨u1.heap.size,0,none⟩ = some (.int .i64 y):=by rw [World.cell?_alloc_at _ _ _ _ rfl]; rfl
      have d1 : (u1.alloc (.cells #[.int .i64 y,.int .i64 m,.int .i64 d] 110)).cell? ⟨u1.heap.size,1,none⟩ = some (.int .i64 m):=by rw [World.cell?_alloc_at _ _ _ _ rfl]; rfl
      have d2 : (u1.alloc (.cells #[.int .i64 y,.int .i64 m,.int .i64 d] 110)).cell? ⟨u1.heap.size,2,none⟩ = some (.int .i64 d):=by rw [World.cell?_alloc_at _ _ _ _ rfl]; rfl
      generalize (u1.alloc (.cells #[.int .i64 y,.int .i64 m,.int .i64 d] 110)) = VD at *
      generalize u1.heap.size = XD at *
      have fs0:=fun d os => cell_regrown s0 d os
      have fs1:=fun d os => cell_regrown s1 d os
      have fs2:=fun d os => cell_regrown s2 d os
      have fd0:=fun d os => cell_regrown d0 d os
      have fd1:=fun d os => cell_regrown d1 d os
      have fd2:=fun d os => cell_regrown d2 d os
      have hbq:=fun d os => below_regrown VD d os
      refine wp_region_quiet_below (by kernel_rfl) (by kernel_rfl) ?_
      repeat (first | go_big_quiet_step ((first | (go_at_call 165; exact Calls.regrown_of (weekday_at n v _ h1 h2 HV.out)))) | quiet_step ((first | (go_at_call 165; exact Calls.regrown_of (weekday_at n v _ h1 h2 HV.out)))))
      refine wpQuiet_nil ?_
      intro _ hw'
      obtain ⟨⟨nq,osq⟩,hw''⟩:=hw'
      subst hw''
      have hb:=hbq nq osq
      replace HBX:=hide (andthen HBX.out hb)
      replace s0:=cell_keep hb s0
      replace s1:=cell_keep hb s1
      replace s2:=cell_keep hb s2
      replace d0:=cell_keep hb d0
      replace d1:=cell_keep hb d1
      replace d2:=cell_keep hb d2
      clear hb hbq fs0 fs1 fs2 fd0 fd1 fd2
      go_wp2_with fail
      go_ret
      exact ⟨ret_bool (by rw [HE.out]),HBX.out⟩
   ·cases a_mo : (mo == -1)
    ·cases b_mo : (mo == m)
     ·have HE:=hide (show hs wk dy mo v d m = false by unfold hs; rw [a_wk,b_wk,a_dy,a_mo,b_mo]; rfl)
      go_enter Tryz.func168,Tryz.ntmps168
      go_wp2_with fail
      generalize HW0 : (w.alloc (.cells #[.int .i64 wk,.int .i64 dy,.int .i64 mo] 159)) = W at *
      clear HW0
      refine (date_is n y m d _ h1 h2 HD.out.1 HD.out.2.1 HD.out.2.2).mono ?_
      rintro e u1 ⟨rfl,hb⟩
      replace HBX:=hide (andthen HBX.out hb)
      replace s0:=cell_keep hb s0
      replace s1:=cell_keep hb s1
      replace s2:=cell_keep hb s2
      clear hb
      go_wp2_with fail
      have hb:=more (start u1) (.cells #[.int .i64 y,.int .i64 m,.int .i64 d] 110)
      replace HBX:=hide (andthen HBX.out hb)
      replace s0:=cell_keep hb s0
      replace s1:=cell_keep hb s1
      replace s2:=cell_keep hb s2
      clear hb
      have d0 : (u1.alloc (.cells #[.int .i64 y,.int .i64 m,.int .i64 d] 110)).cell? ⟨u1.heap.size,0,none⟩ = some (.int .i64 y):=by rw [World.cell?_alloc_at _ _ _ _ rfl]; rfl
      have d1 : (u1.alloc (.cells #[.int .i64 y,.int .i64 m,.int .i64 d] 110)).cell? ⟨u1.heap.size,1,none⟩ = some (.int .i64 m):=by rw [World.cell?_alloc_at _ _ _ _ rfl]; rfl
      have d2 : (u1.alloc (.cells #[.int .i64 y,.int .i64 m,.int .i64 d] 110)).cell? ⟨u1.heap.size,2,none⟩ = some (.int .i64 d):=by rw [World.cell?_alloc_at _ _ _ _ rfl]; rfl
      generalize (u1.alloc (.cells #[.int .i64 y,.int .i64 m,.int .i64 d] 110)) = VD at *
      generalize u1.heap.size = XD at *
      have fs0:=fun d os => cell_regrown s0 d os
      have fs1:=fun d os => cell_regrown s1 d os
      have fs2:=fun d os => cell_regrown s2 d os
      have fd0:=fun d os => cell_regrown d0 d os
      have fd1:=fun d os => cell_regrown d1 d os
      have fd2:=fun d os => cell_regrown d2 d os
      have hbq:=fun d os => below_regrown VD d os
      refine wp_region_quiet_below (by kernel_rfl) (by kernel_rfl) ?_
      repeat (first | go_big_quiet_step ((first | (go_at_call 165; exact Calls.regrown_of (weekday_at n v _ h1 h2 HV.out)))) | quiet_step ((first | (go_at_call 165; exact Calls.regrown_of (weekday_at n v _ h1 h2 HV.out)))))
      refine wpQuiet_nil ?_
      intro _ hw'
      obtain ⟨⟨nq,osq⟩,hw''⟩:=hw'
      subst hw''
      have hb:=hbq nq osq
      replace HBX:=hide (andthen HBX.out hb)
      replace s0:=cell_keep hb s0
      replace s1:=cell_keep hb s1
      replace s2:=cell_keep hb s2
      replace d0:=cell_keep hb d0
      replace d1:=cell_keep hb d1
      replace d2:=cell_keep hb d2
      clear hb hbq fs0 fs1 fs2 fd0 fd1 fd2
      go_wp2_with fail
      go_ret
      exact ⟨ret_bool (by rw [HE.out]),HBX.out⟩
     ·have HE:=hide (show hs wk dy mo v d m = true by unfold hs; rw [a_wk,b_wk,a_dy,a_mo,b_mo]; rfl)
      go_enter Tryz.func168,Tryz.ntmps168
      go_wp2_with fail
      generalize HW0 : (w.alloc (.cells #[.int .i64 wk,.int .i64 dy,.int .i64 mo] 159)) = W at *
      clear HW0
      refine (date_is n y m d _ h1 h2 HD.out.1 HD.out.2.1 HD.out.2.2).mono ?_
      rintro e u1 ⟨rfl,hb⟩
      replace HBX:=hide (andthen HBX.out hb)
      replace s0:=cell_keep hb s0
      replace s1:=cell_keep hb s1
      replace s2:=cell_keep hb s2
      clear hb
      go_wp2_with fail
      have hb:=more (start u1) (.cells #[.int .i64 y,.int .i64 m,.int .i64 d] 110)
      replace HBX:=hide (andthen HBX.out hb)
      replace s0:=cell_keep hb s0
      replace s1:=cell_keep hb s1
      replace s2:=cell_keep hb s2
      clear hb
      have d0 : (u1.alloc (.cells #[.int .i64 y,.int .i64 m,.int .i64 d] 110)).cell? ⟨u1.heap.size,0,none⟩ = some (.int .i64 y):=by rw [World.cell?_alloc_at _ _ _ _ rfl]; rfl
      have d1 : (u1.alloc (.cells #[.int .i64 y,.int .i64 m,.int .i64 d] 110)).cell? ⟨u1.heap.size,1,none⟩ = some (.int .i64 m):=by rw [World.cell?_alloc_at _ _ _ _ rfl]; rfl
      have d2 : (u1.alloc (.cells #[.int .i64 y,.int .i64 m,.int .i64 d] 110)).cell? ⟨u1.heap.size,2,none⟩ = some (.int .i64 d):=by rw [World.cell?_alloc_at _ _ _ _ rfl]; rfl
      generalize (u1.alloc (.cells #[.int .i64 y,.int .i64 m,.int .i64 d] 110)) = VD at *
      generalize u1.heap.size = XD at *
      have fs0:=fun d os => cell_regrown s0 d os
      have fs1:=fun d os => cell_regrown s1 d os
      have fs2:=fun d os => cell_regrown s2 d os
      have fd0:=fun d os => cell_regrown d0 d os
      have fd1:=fun d os => cell_regrown d1 d os
      have fd2:=fun d os => cell_regrown d2 d os
      have hbq:=fun d os => below_regrown VD d os
      refine wp_region_quiet_below (by kernel_rfl) (by kernel_rfl) ?_
      repeat (first | go_big_quiet_step ((first | (go_at_call 165; exact Calls.regrown_of (weekday_at n v _ h1 h2 HV.out)))) | quiet_step ((first | (go_at_call 165; exact Calls.regrown_of (weekday_at n v _ h1 h2 HV.out)))))
      refine wpQuiet_nil ?_
      intro _ hw'
      obtain ⟨⟨nq,osq⟩,hw''⟩:=hw'
      subst hw''
      have hb:=hbq nq osq
      replace HBX:=hide (andthen HBX.out hb)
      replace s0:=cell_keep hb s0
      replace s1:=cell_keep hb s1
      replace s2:=cell_keep hb s2
      replace d0:=cell_keep hb d0
      replace d1:=cell_keep hb d1
      replace d2:=cell_keep hb d2
      clear hb hbq fs0 fs1 fs2 fd0 fd1 fd2
      go_wp2_with fail
      go_ret
      exact ⟨ret_bool (by rw [HE.out]),HBX.out⟩
    ·have HE:=hide (show hs wk dy mo v d m = true by unfold hs; rw [a_wk,b_wk,a_dy,a_mo]; rfl)
     go_enter Tryz.func168,Tryz.ntmps168
     go_wp2_with fail
     generalize HW0 : (w.alloc (.cells #[.int .i64 wk,.int .i64 dy,.int .i64 mo] 159)) = W at *
     clear HW0
     refine (date_is n y m d _ h1 h2 HD.out.1 HD.out.2.1 HD.out.2.2).mono ?_
     rintro e u1 ⟨rfl,hb⟩
     replace HBX:=hide (andthen HBX.out hb)
     replace s0:=cell_keep hb s0
     replace s1:=cell_keep hb s1
     replace s2:=cell_keep hb s2
     clear hb
     go_wp2_with fail
     have hb:=more (start u1) (.cells #[.int .i64 y,.int .i64 m,.int .i64 d] 110)
     replace HBX:=hide (andthen HBX.out hb)
     replace s0:=cell_keep hb s0
     replace s1:=cell_keep hb s1
     replace s2:=cell_keep hb s2
     clear hb
     have d0 : (u1.alloc (.cells #[.int .i64 y,.int .i64 m,.int .i64 d] 110)).cell? ⟨u1.heap.size,0,none⟩ = some (.int .i64 y):=by rw [World.cell?_alloc_at _ _ _ _ rfl]; rfl
     have d1 : (u1.alloc (.cells #[.int .i64 y,.int .i64 m,.int .i64 d] 110)).cell? ⟨u1.heap.size,1,none⟩ = some (.int .i64 m):=by rw [World.cell?_alloc_at _ _ _ _ rfl]; rfl
     have d2 : (u1.alloc (.cells #[.int .i64 y,.int .i64 m,.int .i64 d] 110)).cell? ⟨u1.heap.size,2,none⟩ = some (.int .i64 d):=by rw [World.cell?_alloc_at _ _ _ _ rfl]; rfl
     generalize (u1.alloc (.cells #[.int .i64 y,.int .i64 m,.int .i64 d] 110)) = VD at *
     generalize u1.heap.size = XD at *
     have fs0:=fun d os => cell_regrown s0 d os
     have fs1:=fun d os => cell_regrown s1 d os
     have fs2:=fun d os => cell_regrown s2 d os
     have fd0:=fun d os => cell_regrown d0 d os
     have fd1:=fun d os => cell_regrown d1 d os
     have fd2:=fun d os => cell_regrown d2 d os
     have hbq:=fun d os => below_regrown VD d os
     refine wp_region_quiet_below (by kernel_rfl) (by kernel_rfl) ?_
     repeat (first | go_big_quiet_step ((first | (go_at_call 165; exact Calls.regrown_of (weekday_at n v _ h1 h2 HV.out)))) | quiet_step ((first | (go_at_call 165; exact Calls.regrown_of (weekday_at n v _ h1 h2 HV.out)))))
     refine wpQuiet_nil ?_
     intro _ hw'
     obtain ⟨⟨nq,osq⟩,hw''⟩:=hw'
     subst hw''
     have hb:=hbq nq osq
     replace HBX:=hide (andthen HBX.out hb)
     replace s0:=cell_keep hb s0
     replace s1:=cell_keep hb s1
     replace s2:=cell_keep hb s2
     replace d0:=cell_keep hb d0
     replace d1:=cell_keep hb d1
     replace d2:=cell_keep hb d2
     clear hb hbq fs0 fs1 fs2 fd0 fd1 fd2
     go_wp2_with fail
     go_ret
     exact ⟨ret_bool (by rw [HE.out]),HBX.out⟩
 ·cases a_dy : (dy == -1)
  ·cases b_dy : (dy == d)
   ·have HE:=hide (show hs wk dy mo v d m = false by unfold hs; rw [a_wk,a_dy,b_dy]; rfl)
    go_enter Tryz.func168,Tryz.ntmps168
    go_wp2_with fail
    generalize HW0 : (w.alloc (.cells #[.int .i64 wk,.int .i64 dy,.int .i64 mo] 159)) = W at *
    clear HW0
    refine (date_is n y m d _ h1 h2 HD.out.1 HD.out.2.1 HD.out.2.2).mono ?_
    rintro e u1 ⟨rfl,hb⟩
    replace HBX:=hide (andthen HBX.out hb)
    replace s0:=cell_keep hb s0
    replace s1:=cell_keep hb s1
    replace s2:=cell_keep hb s2
    clear hb
    go_wp2_with fail
    have hb:=more (start u1) (.cells #[.int .i64 y,.int .i64 m,.int .i64 d] 110)
    replace HBX:=hide (andthen HBX.out hb)
    replace s0:=cell_keep hb s0
    replace s1:=cell_keep hb s1
    replace s2:=cell_keep hb s2
    clear hb
    have d0 : (u1.alloc (.cells #[.int .i64 y,.int .i64 m,.int .i64 d] 110)).cell? ⟨u1.heap.size,0,none⟩ = some (.int .i64 y):=by rw [World.cell?_alloc_at _ _ _ _ rfl]; rfl
    have d1 : (u1.alloc (.cells #[.int .i64 y,.int .i64 m,.int .i64 d] 110)).cell? ⟨u1.heap.size,1,none⟩ = some (.int .i64 m):=by rw [World.cell?_alloc_at _ _ _ _ rfl]; rfl
    have d2 : (u1.alloc (.cells #[.int .i64 y,.int .i64 m,.int .i64 d] 110)).cell? ⟨u1.heap.size,2,none⟩ = some (.int .i64 d):=by rw [World.cell?_alloc_at _ _ _ _ rfl]; rfl
    generalize (u1.alloc (.cells #[.int .i64 y,.int .i64 m,.int .i64 d] 110)) = VD at *
    generalize u1.heap.size = XD at *
    have fs0:=fun d os => cell_regrown s0 d os
    have fs1:=fun d os => cell_regrown s1 d os
    have fs2:=fun d os => cell_regrown s2 d os
    have fd0:=fun d os => cell_regrown d0 d os
    have fd1:=fun d os => cell_regrown d1 d os
    have fd2:=fun d os => cell_regrown d2 d os
    have hbq:=fun d os => below_regrown VD d os
    refine wp_region_quiet_below (by kernel_rfl) (by kernel_rfl) ?_
    repeat (first | go_big_quiet_step ((first | (go_at_call 165; exact Calls.regrown_of (weekday_at n v _ h1 h2 HV.out)))) | quiet_step ((first | (go_at_call 165; exact Calls.regrown_of (weekday_at n v _ h1 h2 HV.out)))))
    refine wpQuiet_nil ?_
    intro _ hw'
    obtain ⟨⟨nq,osq⟩,hw''⟩:=hw'
    subst hw''
    have hb:=hbq nq osq
    replace HBX:=hide (andthen HBX.out hb)
    replace s0:=cell_keep hb s0
    replace s1:=cell_keep hb s1
    replace s2:=cell_keep hb s2
    replace d0:=cell_keep hb d0
    replace d1:=cell_keep hb d1
    replace d2:=cell_keep hb d2
    clear hb hbq fs0 fs1 fs2 fd0 fd1 fd2
    go_wp2_with fail
    go_ret
    exact ⟨ret_bool (by rw [HE.out]),HBX.out⟩
   ·cases a_mo : (mo == -1)
    ·cases b_mo : (mo == m)
     ·have HE:=hide (show hs wk dy mo v d m = false by unfold hs; rw [a_wk,a_dy,b_dy,a_mo,b_mo]; rfl)
      go_enter Tryz.func168,Tryz.ntmps168
      go_wp2_with fail
      generalize HW0 : (w.alloc (.cells #[.int .i64 wk,.int .i64 dy,.int .i64 mo] 159)) = W at *
      clear HW0
      refine (date_is n y m d _ h1 h2 HD.out.1 HD.out.2.1 HD.out.2.2).mono ?_
      rintro e u1 ⟨rfl,hb⟩
      replace HBX:=hide (andthen HBX.out hb)
      replace s0:=cell_keep hb s0
      replace s1:=cell_keep hb s1
      replace s2:=cell_keep hb s2
      clear hb
      go_wp2_with fail
      have hb:=more (start u1) (.cells #[.int .i64 y,.int .i64 m,.int .i64 d] 110)
      replace HBX:=hide (andthen HBX.out hb)
      replace s0:=cell_keep hb s0
      replace s1:=cell_keep hb s1
      replace s2:=cell_keep hb s2
      clear hb
      have d0 : (u1.alloc (.cells #[.int .i64 y,.int .i64 m,.int .i64 d] 110)).cell? ⟨u1.heap.size,0,none⟩ = some (.int .i64 y):=by rw [World.cell?_alloc_at _ _ _ _ rfl]; rfl
      have d1 : (u1.alloc (.cells #[.int .i64 y,.int .i64 m,.int .i64 d] 110)).cell? ⟨u1.heap.size,1,none⟩ = some (.int .i64 m):=by rw [World.cell?_alloc_at _ _ _ _ rfl]; rfl
      have d2 : (u1.alloc (.cells #[.int .i64 y,.int .i64 m,.int .i64 d] 110)).cell? ⟨u1.heap.size,2,none⟩ = some (.int .i64 d):=by rw [World.cell?_alloc_at _ _ _ _ rfl]; rfl
      generalize (u1.alloc (.cells #[.int .i64 y,.int .i64 m,.int .i64 d] 110)) = VD at *
      generalize u1.heap.size = XD at *
      have fs0:=fun d os => cell_regrown s0 d os
      have fs1:=fun d os => cell_regrown s1 d os
      have fs2:=fun d os => cell_regrown s2 d os
      have fd0:=fun d os => cell_regrown d0 d os
      have fd1:=fun d os => cell_regrown d1 d os
      have fd2:=fun d os => cell_regrown d2 d os
      have hbq:=fun d os => below_regrown VD d os
      refine wp_region_quiet_below (by kernel_rfl) (by kernel_rfl) ?_
      repeat (first | go_big_quiet_step ((first | (go_at_call 165; exact Calls.regrown_of (weekday_at n v _ h1 h2 HV.out)))) | quiet_step ((first | (go_at_call 165; exact Calls.regrown_of (weekday_at n v _ h1 h2 HV.out)))))
      refine wpQuiet_nil ?_
      intro _ hw'
      obtain ⟨⟨nq,osq⟩,hw''⟩:=hw'
      subst hw''
      have hb:=hbq nq osq
      replace HBX:=hide (andthen HBX.out hb)
      replace s0:=cell_keep hb s0
      replace s1:=cell_keep hb s1
      replace s2:=cell_keep hb s2
      replace d0:=cell_keep hb d0
      replace d1:=cell_keep hb d1
      replace d2:=cell_keep hb d2
      clear hb hbq fs0 fs1 fs2 fd0 fd1 fd2
      go_wp2_with fail
      go_ret
      exact ⟨ret_bool (by rw [HE.out]),HBX.out⟩
     ·have HE:=hide (show hs wk dy mo v d m = true by unfold hs; rw [a_wk,a_dy,b_dy,a_mo,b_mo]; rfl)
      go_enter Tryz.func168,Tryz.ntmps168
      go_wp2_with fail
      generalize HW0 : (w.alloc (.cells #[.int .i64 wk,.int .i64 dy,.int .i64 mo] 159)) = W at *
      clear HW0
      refine (date_is n y m d _ h1 h2 HD.out.1 HD.out.2.1 HD.out.2.2).mono ?_
      rintro e u1 ⟨rfl,hb⟩
      replace HBX:=hide (andthen HBX.out hb)
      replace s0:=cell_keep hb s0
      replace s1:=cell_keep hb s1
      replace s2:=cell_keep hb s2
      clear hb
      go_wp2_with fail
      have hb:=more (start u1) (.cells #[.int .i64 y,.int .i64 m,.int .i64 d] 110)
      replace HBX:=hide (andthen HBX.out hb)
      replace s0:=cell_keep hb s0
      replace s1:=cell_keep hb s1
      replace s2:=cell_keep hb s2
      clear hb
      have d0 : (u1.alloc (.cells #[.int .i64 y,.int .i64 m,.int .i64 d] 110)).cell? ⟨u1.heap.size,0,none⟩ = some (.int .i64 y):=by rw [World.cell?_alloc_at _ _ _ _ rfl]; rfl
      have d1 : (u1.alloc (.cells #[.int .i64 y,.int .i64 m,.int .i64 d] 110)).cell? ⟨u1.heap.size,1,none⟩ = some (.int .i64 m):=by rw [World.cell?_alloc_at _ _ _ _ rfl]; rfl
      have d2 : (u1.alloc (.cells #[.int .i64 y,.int .i64 m,.int .i64 d] 110)).cell? ⟨u1.heap.size,2,none⟩ = some (.int .i64 d):=by rw [World.cell?_alloc_at _ _ _ _ rfl]; rfl
      generalize (u1.alloc (.cells #[.int .i64 y,.int .i64 m,.int .i64 d] 110)) = VD at *
      generalize u1.heap.size = XD at *
      have fs0:=fun d os => cell_regrown s0 d os
      have fs1:=fun d os => cell_regrown s1 d os
      have fs2:=fun d os => cell_regrown s2 d os
      have fd0:=fun d os => cell_regrown d0 d os
      have fd1:=fun d os => cell_regrown d1 d os
      have fd2:=fun d os => cell_regrown d2 d os
      have hbq:=fun d os => below_regrown VD d os
      refine wp_region_quiet_below (by kernel_rfl) (by kernel_rfl) ?_
      repeat (first | go_big_quiet_step ((first | (go_at_call 165; exact Calls.regrown_of (weekday_at n v _ h1 h2 HV.out)))) | quiet_step ((first | (go_at_call 165; exact Calls.regrown_of (weekday_at n v _ h1 h2 HV.out)))))
      refine wpQuiet_nil ?_
      intro _ hw'
      obtain ⟨⟨nq,osq⟩,hw''⟩:=hw'
      subst hw''
      have hb:=hbq nq osq
      replace HBX:=hide (andthen HBX.out hb)
      replace s0:=cell_keep hb s0
      replace s1:=cell_keep hb s1
      replace s2:=cell_keep hb s2
      replace d0:=cell_keep hb d0
      replace d1:=cell_keep hb d1
      replace d2:=cell_keep hb d2
      clear hb hbq fs0 fs1 fs2 fd0 fd1 fd2
      go_wp2_with fail
      go_ret
      exact ⟨ret_bool (by rw [HE.out]),HBX.out⟩
    ·have HE:=hide (show hs wk dy mo v d m = true by unfold hs; rw [a_wk,a_dy,b_dy,a_mo]; rfl)
     go_enter Tryz.func168,Tryz.ntmps168
     go_wp2_with fail
     generalize HW0 : (w.alloc (.cells #[.int .i64 wk,.int .i64 dy,.int .i64 mo] 159)) = W at *
     clear HW0
     refine (date_is n y m d _ h1 h2 HD.out.1 HD.out.2.1 HD.out.2.2).mono ?_
     rintro e u1 ⟨rfl,hb⟩
     replace HBX:=hide (andthen HBX.out hb)
     replace s0:=cell_keep hb s0
     replace s1:=cell_keep hb s1
     replace s2:=cell_keep hb s2
     clear hb
     go_wp2_with fail
     have hb:=more (start u1) (.cells #[.int .i64 y,.int .i64 m,.int .i64 d] 110)
     replace HBX:=hide (andthen HBX.out hb)
     replace s0:=cell_keep hb s0
     replace s1:=cell_keep hb s1
     replace s2:=cell_keep hb s2
     clear hb
     have d0 : (u1.alloc (.cells #[.int .i64 y,.int .i64 m,.int .i64 d] 110)).cell? ⟨u1.heap.size,0,none⟩ = some (.int .i64 y):=by rw [World.cell?_alloc_at _ _ _ _ rfl]; rfl
     have d1 : (u1.alloc (.cells #[.int .i64 y,.int .i64 m,.int .i64 d] 110)).cell? ⟨u1.heap.size,1,none⟩ = some (.int .i64 m):=by rw [World.cell?_alloc_at _ _ _ _ rfl]; rfl
     have d2 : (u1.alloc (.cells #[.int .i64 y,.int .i64 m,.int .i64 d] 110)).cell? ⟨u1.heap.size,2,none⟩ = some (.int .i64 d):=by rw [World.cell?_alloc_at _ _ _ _ rfl]; rfl
     generalize (u1.alloc (.cells #[.int .i64 y,.int .i64 m,.int .i64 d] 110)) = VD at *
     generalize u1.heap.size = XD at *
     have fs0:=fun d os => cell_regrown s0 d os
     have fs1:=fun d os => cell_regrown s1 d os
     have fs2:=fun d os => cell_regrown s2 d os
     have fd0:=fun d os => cell_regrown d0 d os
     have fd1:=fun d os => cell_regrown d1 d os
     have fd2:=fun d os => cell_regrown d2 d os
     have hbq:=fun d os => below_regrown VD d os
     refine wp_region_quiet_below (by kernel_rfl) (by kernel_rfl) ?_
     repeat (first | go_big_quiet_step ((first | (go_at_call 165; exact Calls.regrown_of (weekday_at n v _ h1 h2 HV.out)))) | quiet_step ((first | (go_at_call 165; exact Calls.regrown_of (weekday_at n v _ h1 h2 HV.out)))))
     refine wpQuiet_nil ?_
     intro _ hw'
     obtain ⟨⟨nq,osq⟩,hw''⟩:=hw'
     subst hw''
     have hb:=hbq nq osq
     replace HBX:=hide (andthen HBX.out hb)
     replace s0:=cell_keep hb s0
     replace s1:=cell_keep hb s1
     replace s2:=cell_keep hb s2
     replace d0:=cell_keep hb d0
     replace d1:=cell_keep hb d1
     replace d2:=cell_keep hb d2
     clear hb hbq fs0 fs1 fs2 fd0 fd1 fd2
     go_wp2_with fail
     go_ret
     exact ⟨ret_bool (by rw [HE.out]),HBX.out⟩
  ·cases a_mo : (mo == -1)
   ·cases b_mo : (mo == m)
    ·have HE:=hide (show hs wk dy mo v d m = false by unfold hs; rw [a_wk,a_dy,a_mo,b_mo]; rfl)
     go_enter Tryz.func168,Tryz.ntmps168
     go_wp2_with fail
     generalize HW0 : (w.alloc (.cells #[.int .i64 wk,.int .i64 dy,.int .i64 mo] 159)) = W at *
     clear HW0
     refine (date_is n y m d _ h1 h2 HD.out.1 HD.out.2.1 HD.out.2.2).mono ?_
     rintro e u1 ⟨rfl,hb⟩
     replace HBX:=hide (andthen HBX.out hb)
     replace s0:=cell_keep hb s0
     replace s1:=cell_keep hb s1
     replace s2:=cell_keep hb s2
     clear hb
     go_wp2_with fail
     have hb:=more (start u1) (.cells #[.int .i64 y,.int .i64 m,.int .i64 d] 110)
     replace HBX:=hide (andthen HBX.out hb)
     replace s0:=cell_keep hb s0
     replace s1:=cell_keep hb s1
     replace s2:=cell_keep hb s2
     clear hb
     have d0 : (u1.alloc (.cells #[.int .i64 y,.int .i64 m,.int .i64 d] 110)).cell? ⟨u1.heap.size,0,none⟩ = some (.int .i64 y):=by rw [World.cell?_alloc_at _ _ _ _ rfl]; rfl
     have d1 : (u1.alloc (.cells #[.int .i64 y,.int .i64 m,.int .i64 d] 110)).cell? ⟨u1.heap.size,1,none⟩ = some (.int .i64 m):=by rw [World.cell?_alloc_at _ _ _ _ rfl]; rfl
     have d2 : (u1.alloc (.cells #[.int .i64 y,.int .i64 m,.int .i64 d] 110)).cell? ⟨u1.heap.size,2,none⟩ = some (.int .i64 d):=by rw [World.cell?_alloc_at _ _ _ _ rfl]; rfl
     generalize (u1.alloc (.cells #[.int .i64 y,.int .i64 m,.int .i64 d] 110)) = VD at *
     generalize u1.heap.size = XD at *
     have fs0:=fun d os => cell_regrown s0 d os
     have fs1:=fun d os => cell_regrown s1 d os
     have fs2:=fun d os => cell_regrown s2 d os
     have fd0:=fun d os => cell_regrown d0 d os
     have fd1:=fun d os => cell_regrown d1 d os
     have fd2:=fun d os => cell_regrown d2 d os
     have hbq:=fun d os => below_regrown VD d os
     refine wp_region_quiet_below (by kernel_rfl) (by kernel_rfl) ?_
     repeat (first | go_big_quiet_step ((first | (go_at_call 165; exact Calls.regrown_of (weekday_at n v _ h1 h2 HV.out)))) | quiet_step ((first | (go_at_call 165; exact Calls.regrown_of (weekday_at n v _ h1 h2 HV.out)))))
     refine wpQuiet_nil ?_
     intro _ hw'
     obtain ⟨⟨nq,osq⟩,hw''⟩:=hw'
     subst hw''
     have hb:=hbq nq osq
     replace HBX:=hide (andthen HBX.out hb)
     replace s0:=cell_keep hb s0
     replace s1:=cell_keep hb s1
     replace s2:=cell_keep hb s2
     replace d0:=cell_keep hb d0
     replace d1:=cell_keep hb d1
     replace d2:=cell_keep hb d2
     clear hb hbq fs0 fs1 fs2 fd0 fd1 fd2
     go_wp2_with fail
     go_ret
     exact ⟨ret_bool (by rw [HE.out]),HBX.out⟩
    ·have HE:=hide (show hs wk dy mo v d m = true by unfold hs; rw [a_wk,a_dy,a_mo,b_mo]; rfl)
     go_enter Tryz.func168,Tryz.ntmps168
     go_wp2_with fail
     generalize HW0 : (w.alloc (.cells #[.int .i64 wk,.int .i64 dy,.int .i64 mo] 159)) = W at *
     clear HW0
     refine (date_is n y m d _ h1 h2 HD.out.1 HD.out.2.1 HD.out.2.2).mono ?_
     rintro e u1 ⟨rfl,hb⟩
     replace HBX:=hide (andthen HBX.out hb)
     replace s0:=cell_keep hb s0
     replace s1:=cell_keep hb s1
     replace s2:=cell_keep hb s2
     clear hb
     go_wp2_with fail
     have hb:=more (start u1) (.cells #[.int .i64 y,.int .i64 m,.int .i64 d] 110)
     replace HBX:=hide (andthen HBX.out hb)
     replace s0:=cell_keep hb s0
     replace s1:=cell_keep hb s1
     replace s2:=cell_keep hb s2
     clear hb
     have d0 : (u1.alloc (.cells #[.int .i64 y,.int .i64 m,.int .i64 d] 110)).cell? ⟨u1.heap.size,0,none⟩ = some (.int .i64 y):=by rw [World.cell?_alloc_at _ _ _ _ rfl]; rfl
     have d1 : (u1.alloc (.cells #[.int .i64 y,.int .i64 m,.int .i64 d] 110)).cell? ⟨u1.heap.size,1,none⟩ = some (.int .i64 m):=by rw [World.cell?_alloc_at _ _ _ _ rfl]; rfl
     have d2 : (u1.alloc (.cells #[.int .i64 y,.int .i64 m,.int .i64 d] 110)).cell? ⟨u1.heap.size,2,none⟩ = some (.int .i64 d):=by rw [World.cell?_alloc_at _ _ _ _ rfl]; rfl
     generalize (u1.alloc (.cells #[.int .i64 y,.int .i64 m,.int .i64 d] 110)) = VD at *
     generalize u1.heap.size = XD at *
     have fs0:=fun d os => cell_regrown s0 d os
     have fs1:=fun d os => cell_regrown s1 d os
     have fs2:=fun d os => cell_regrown s2 d os
     have fd0:=fun d os => cell_regrown d0 d os
     have fd1:=fun d os => cell_regrown d1 d os
     have fd2:=fun d os => cell_regrown d2 d os
     have hbq:=fun d os => below_regrown VD d os
     refine wp_region_quiet_below (by kernel_rfl) (by kernel_rfl) ?_
     repeat (first | go_big_quiet_step ((first | (go_at_call 165; exact Calls.regrown_of (weekday_at n v _ h1 h2 HV.out)))) | quiet_step ((first | (go_at_call 165; exact Calls.regrown_of (weekday_at n v _ h1 h2 HV.out)))))
     refine wpQuiet_nil ?_
     intro _ hw'
     obtain ⟨⟨nq,osq⟩,hw''⟩:=hw'
     subst hw''
     have hb:=hbq nq osq
     replace HBX:=hide (andthen HBX.out hb)
     replace s0:=cell_keep hb s0
     replace s1:=cell_keep hb s1
     replace s2:=cell_keep hb s2
     replace d0:=cell_keep hb d0
     replace d1:=cell_keep hb d1
     replace d2:=cell_keep hb d2
     clear hb hbq fs0 fs1 fs2 fd0 fd1 fd2
     go_wp2_with fail
     go_ret
     exact ⟨ret_bool (by rw [HE.out]),HBX.out⟩
   ·have HE:=hide (show hs wk dy mo v d m = true by unfold hs; rw [a_wk,a_dy,a_mo]; rfl)
    go_enter Tryz.func168,Tryz.ntmps168
    go_wp2_with fail
    generalize HW0 : (w.alloc (.cells #[.int .i64 wk,.int .i64 dy,.int .i64 mo] 159)) = W at *
    clear HW0
    refine (date_is n y m d _ h1 h2 HD.out.1 HD.out.2.1 HD.out.2.2).mono ?_
    rintro e u1 ⟨rfl,hb⟩
    replace HBX:=hide (andthen HBX.out hb)
    replace s0:=cell_keep hb s0
    replace s1:=cell_keep hb s1
    replace s2:=cell_keep hb s2
    clear hb
    go_wp2_with fail
    have hb:=more (start u1) (.cells #[.int .i64 y,.int .i64 m,.int .i64 d] 110)
    replace HBX:=hide (andthen HBX.out hb)
    replace s0:=cell_keep hb s0
    replace s1:=cell_keep hb s1
    replace s2:=cell_keep hb s2
    clear hb
    have d0 : (u1.alloc (.cells #[.int .i64 y,.int .i64 m,.int .i64 d] 110)).cell? ⟨u1.heap.size,0,none⟩ = some (.int .i64 y):=by rw [World.cell?_alloc_at _ _ _ _ rfl]; rfl
    have d1 : (u1.alloc (.cells #[.int .i64 y,.int .i64 m,.int .i64 d] 110)).cell? ⟨u1.heap.size,1,none⟩ = some (.int .i64 m):=by rw [World.cell?_alloc_at _ _ _ _ rfl]; rfl
    have d2 : (u1.alloc (.cells #[.int .i64 y,.int .i64 m,.int .i64 d] 110)).cell? ⟨u1.heap.size,2,none⟩ = some (.int .i64 d):=by rw [World.cell?_alloc_at _ _ _ _ rfl]; rfl
    generalize (u1.alloc (.cells #[.int .i64 y,.int .i64 m,.int .i64 d] 110)) = VD at *
    generalize u1.heap.size = XD at *
    have fs0:=fun d os => cell_regrown s0 d os
    have fs1:=fun d os => cell_regrown s1 d os
    have fs2:=fun d os => cell_regrown s2 d os
    have fd0:=fun d os => cell_regrown d0 d os
    have fd1:=fun d os => cell_regrown d1 d os
    have fd2:=fun d os => cell_regrown d2 d os
    have hbq:=fun d os => below_regrown VD d os
    refine wp_region_quiet_below (by kernel_rfl) (by kernel_rfl) ?_
    repeat (first | go_big_quiet_step ((first | (go_at_call 165; exact Calls.regrown_of (weekday_at n v _ h1 h2 HV.out)))) | quiet_step ((first | (go_at_call 165; exact Calls.regrown_of (weekday_at n v _ h1 h2 HV.out)))))
    refine wpQuiet_nil ?_
    intro _ hw'
    obtain ⟨⟨nq,osq⟩,hw''⟩:=hw'
    subst hw''
    have hb:=hbq nq osq
    replace HBX:=hide (andthen HBX.out hb)
    replace s0:=cell_keep hb s0
    replace s1:=cell_keep hb s1
    replace s2:=cell_keep hb s2
    replace d0:=cell_keep hb d0
    replace d1:=cell_keep hb d1
    replace d2:=cell_keep hb d2
    clear hb hbq fs0 fs1 fs2 fd0 fd1 fd2
    go_wp2_with fail
    go_ret
    exact ⟨ret_bool (by rw [HE.out]),HBX.out⟩
theorem has_any (wk dy mo n : Int) (w : World) (h1 : 0 <= n) (h2 : n < 36525) :
  Calls Tryz.prog 168 #[.agg #[.int .i64 wk,.int .i64 dy,.int .i64 mo],.int .i64 n] w (Ans w (.bool (hasB wk dy mo n))) :=
 has_walk wk dy mo n _ _ _ _ w h1 h2 (hide ⟨rfl,rfl,rfl⟩) (hide rfl)
end Go.Proofs.YtgihekokbgggcaaGreat

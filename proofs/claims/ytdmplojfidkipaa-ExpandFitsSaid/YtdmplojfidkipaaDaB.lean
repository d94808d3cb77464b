/- Walk of package days: Period. Written by recipes/da1.py. -/
import Derived.Test.YtdmplojfidkipaaDaA
import Derived.Test.YtdmplojfidkipaaRuH
namespace Go.Proofs.Ytdmplojfidkipaa
open Go.RowKit Rul Go.Sort

/-- what Period answers. -/
abbrev perV (r : Rul.T) (s k : Int) : Value := .tuple #[.int .i64 (perA r s k), .int .i64 (perB r s k), .bool (perK r s k)]
theorem per_no (r : Rul.T) (s k : Int) (h : perK r s k = false) : Ending.returned (.tuple #[.int .i64 0, .int .i64 0, .bool false]) = .returned (perV r s k) := by
  unfold perV perA perB; rw [h]; rfl
theorem perK_day (r : Rul.T) (s k : Int) (h : dayB s = false) : perK r s k = false := by unfold perK; rw [h]; rfl
theorem perK_rec (r : Rul.T) (s k : Int) (h : recB r = false) : perK r s k = false := by unfold perK; rw [h]; simp
theorem perK_k (r : Rul.T) (s k : Int) (h : k < 0 ∨ 36525 ≤ k) : perK r s k = false := by
  rw [Bool.eq_false_iff]; intro hc; have := ((perK_iff r s k).1 hc).2.2.1; omega
theorem perK_late (r : Rul.T) (s k : Int) (h : 36525 ≤ pA r.fr s (r.ev * k)) : perK r s k = false := by
  rw [Bool.eq_false_iff]; intro hc; have := ((perK_iff r s k).1 hc).2.2.2; omega
theorem per_yes (r : Rul.T) (s k a b : Int) (h : perK r s k = true) (ha : pA r.fr s (r.ev * k) = a) (hb : b = pB r.fr s (r.ev * k)) : Ending.returned (.tuple #[.int .i64 (max a 0), .int .i64 (min b 36525), .bool true]) = .returned (perV r s k) := by
  unfold perV perA perB; rw [h, if_pos rfl, if_pos rfl, ha, hb]
theorem rec_isB0 (r : Rul.T) (h : isB r = false) : recB r = false := by unfold isB at h; rw [Bool.or_eq_false_iff] at h; exact h.2
theorem once_rec (r : Rul.T) (h : sameB r once = true) : recB r = false := by
  rw [sameB_iff] at h; subst h; decide +kernel
theorem rec_once (r : Rul.T) (h : recB r = true) : isB r = true ∧ sameB r once = false := by
  refine ⟨by unfold isB; rw [h, Bool.or_true], ?_⟩
  rw [Bool.eq_false_iff]; intro hc; rw [once_rec r hc] at h; cases h

set_option maxRecDepth 100000 in
set_option maxHeartbeats 4000000 in
theorem period_any (fr ev ct un : Int) (D M Y : Option Addr) (dn dc mn mc yn yc : Nat) (ds : List Wd) (ms ys : List Int) (s k : Int) (w : World) (h : Lies w D dn M mn Y yn ds ms ys) :
    Calls Try.prog 49 #[.agg #[.int .i64 fr, .int .i64 ev, .int .i64 ct, .int .i64 un, .slice D dn dc, .slice M mn mc, .slice Y yn yc], .int .i64 s, .int .i64 k] w (Ans w (perV ⟨fr, ev, ct, un, ds, ms, ys⟩ s k)) := by
  have HBX := hide (more (start w) (.cells #[.int .i64 fr, .int .i64 ev, .int .i64 ct, .int .i64 un, .slice D dn dc, .slice M mn mc, .slice Y yn yc] 25))
  have HL := hide (h.keep HBX.out)
  have s0 : (w.alloc (.cells #[.int .i64 fr, .int .i64 ev, .int .i64 ct, .int .i64 un, .slice D dn dc, .slice M mn mc, .slice Y yn yc] 25)).cell? ⟨w.heap.size, 0, none⟩ = some (.int .i64 fr) := by rw [World.cell?_alloc_at _ _ _ _ rfl]; rfl
  have s1 : (w.alloc (.cells #[.int .i64 fr, .int .i64 ev, .int .i64 ct, .int .i64 un, .slice D dn dc, .slice M mn mc, .slice Y yn yc] 25)).cell? ⟨w.heap.size, 1, none⟩ = some (.int .i64 ev) := by rw [World.cell?_alloc_at _ _ _ _ rfl]; rfl
  have s2 : (w.alloc (.cells #[.int .i64 fr, .int .i64 ev, .int .i64 ct, .int .i64 un, .slice D dn dc, .slice M mn mc, .slice Y yn yc] 25)).cell? ⟨w.heap.size, 2, none⟩ = some (.int .i64 ct) := by rw [World.cell?_alloc_at _ _ _ _ rfl]; rfl
  have s3 : (w.alloc (.cells #[.int .i64 fr, .int .i64 ev, .int .i64 ct, .int .i64 un, .slice D dn dc, .slice M mn mc, .slice Y yn yc] 25)).cell? ⟨w.heap.size, 3, none⟩ = some (.int .i64 un) := by rw [World.cell?_alloc_at _ _ _ _ rfl]; rfl
  have s4 : (w.alloc (.cells #[.int .i64 fr, .int .i64 ev, .int .i64 ct, .int .i64 un, .slice D dn dc, .slice M mn mc, .slice Y yn yc] 25)).cell? ⟨w.heap.size, 4, none⟩ = some (.slice D dn dc) := by rw [World.cell?_alloc_at _ _ _ _ rfl]; rfl
  have s5 : (w.alloc (.cells #[.int .i64 fr, .int .i64 ev, .int .i64 ct, .int .i64 un, .slice D dn dc, .slice M mn mc, .slice Y yn yc] 25)).cell? ⟨w.heap.size, 5, none⟩ = some (.slice M mn mc) := by rw [World.cell?_alloc_at _ _ _ _ rfl]; rfl
  have s6 : (w.alloc (.cells #[.int .i64 fr, .int .i64 ev, .int .i64 ct, .int .i64 un, .slice D dn dc, .slice M mn mc, .slice Y yn yc] 25)).cell? ⟨w.heap.size, 6, none⟩ = some (.slice Y yn yc) := by rw [World.cell?_alloc_at _ _ _ _ rfl]; rfl
  clear h
  cases h1 : dayB s
  · have HE := hide (per_no ⟨fr, ev, ct, un, ds, ms, ys⟩ s k (perK_day _ _ _ h1))
    have H1 := hide (dayB_no s h1)
    clear h1
    clear s0 s1 s2 s3 s4 s5 s6 HL
    go_enter Try.func49, Try.ntmps49
    go_wp2_with fail
    refine (Date_no s _ H1.out).mono ?_
    rintro e u1 ⟨rfl, hb⟩
    replace HBX := hide (more (andthen HBX.out hb) (.cells #[.int .i64 0, .int .i64 0, .int .i64 0] 49))
    clear hb
    go_wp2_with fail
    generalize u1.alloc (.cells #[.int .i64 0, .int .i64 0, .int .i64 0] 49) = VD at *
    have hbq := fun d os => below_regrown VD d os
    refine wp_region_quiet_below (by kernel_rfl) (by kernel_rfl) ?_
    repeat (first | go_big_quiet_step ((first | (fail))) | quiet_step ((first | (fail))))
    refine wpQuiet_nil ?_
    intro _ hw'
    obtain ⟨⟨nq, osq⟩, hw''⟩ := hw'
    subst hw''
    have hb := hbq nq osq
    replace HBX := hide (andthen HBX.out hb)
    clear hb hbq 
    go_wp2_with fail
    go_ret3
    exact ⟨HE.out, HBX.out⟩
  · obtain ⟨s1', s2'⟩ := dayB_yes s h1
    clear h1
    obtain ⟨y, hy⟩ : ∃ y, Cal.yOf s = y := ⟨_, rfl⟩
    obtain ⟨m, hmo⟩ : ∃ m, Cal.mOf s = m := ⟨_, rfl⟩
    obtain ⟨d, hd⟩ : ∃ d, Cal.dOf s = d := ⟨_, rfl⟩
    have HD := hide (And.intro hy (And.intro hmo hd))
    clear hy hmo hd
    cases hr : recB ⟨fr, ev, ct, un, ds, ms, ys⟩
    · cases hi : isB ⟨fr, ev, ct, un, ds, ms, ys⟩
      · have HE := hide (per_no ⟨fr, ev, ct, un, ds, ms, ys⟩ s k (perK_rec _ _ _ hr))
        have HI := hide hi
        have HS := hide (show sameB ⟨fr, ev, ct, un, ds, ms, ys⟩ once = sameB ⟨fr, ev, ct, un, ds, ms, ys⟩ once from rfl)
        clear hr hi
        go_enter Try.func49, Try.ntmps49
        go_wp2_with fail
        generalize (w.alloc (.cells #[.int .i64 fr, .int .i64 ev, .int .i64 ct, .int .i64 un, .slice D dn dc, .slice M mn mc, .slice Y yn yc] 25)) = W at *
        refine (date_is s y m d _ s1' s2' HD.out.1 HD.out.2.1 HD.out.2.2).mono ?_
        rintro e u1 ⟨rfl, hb⟩
        replace HBX := hide (andthen HBX.out hb)
        replace HL := hide (HL.out.keep hb)
        replace s0 := cell_keep hb s0
        replace s1 := cell_keep hb s1
        replace s2 := cell_keep hb s2
        replace s3 := cell_keep hb s3
        replace s4 := cell_keep hb s4
        replace s5 := cell_keep hb s5
        replace s6 := cell_keep hb s6
        clear hb
        go_wp2_with fail
        have hb := more (start u1) (.cells #[.int .i64 y, .int .i64 m, .int .i64 d] 49)
        replace HBX := hide (andthen HBX.out hb)
        replace HL := hide (HL.out.keep hb)
        replace s0 := cell_keep hb s0
        replace s1 := cell_keep hb s1
        replace s2 := cell_keep hb s2
        replace s3 := cell_keep hb s3
        replace s4 := cell_keep hb s4
        replace s5 := cell_keep hb s5
        replace s6 := cell_keep hb s6
        clear hb
        have d0 : (u1.alloc (.cells #[.int .i64 y, .int .i64 m, .int .i64 d] 49)).cell? ⟨u1.heap.size, 0, none⟩ = some (.int .i64 y) := by rw [World.cell?_alloc_at _ _ _ _ rfl]; rfl
        have d1 : (u1.alloc (.cells #[.int .i64 y, .int .i64 m, .int .i64 d] 49)).cell? ⟨u1.heap.size, 1, none⟩ = some (.int .i64 m) := by rw [World.cell?_alloc_at _ _ _ _ rfl]; rfl
        have d2 : (u1.alloc (.cells #[.int .i64 y, .int .i64 m, .int .i64 d] 49)).cell? ⟨u1.heap.size, 2, none⟩ = some (.int .i64 d) := by rw [World.cell?_alloc_at _ _ _ _ rfl]; rfl
        generalize (u1.alloc (.cells #[.int .i64 y, .int .i64 m, .int .i64 d] 49)) = VD at *
        generalize u1.heap.size = XD at *
        have fs0 := fun d os => cell_regrown s0 d os
        have fs1 := fun d os => cell_regrown s1 d os
        have fs2 := fun d os => cell_regrown s2 d os
        have fs3 := fun d os => cell_regrown s3 d os
        have fs4 := fun d os => cell_regrown s4 d os
        have fs5 := fun d os => cell_regrown s5 d os
        have fs6 := fun d os => cell_regrown s6 d os
        have fd0 := fun d os => cell_regrown d0 d os
        have fd1 := fun d os => cell_regrown d1 d os
        have fd2 := fun d os => cell_regrown d2 d os
        have L1 := hide (fun d os => Lies.keep HL.out (below_regrown VD d os))
        have hbq := fun d os => below_regrown VD d os
        refine wp_region_quiet_below (by kernel_rfl) (by kernel_rfl) ?_
        repeat (first | go_big_quiet_step ((first | (go_at_call 31; exact Calls.regrown_of (ans_is (ruleIs_any fr ev ct un D M Y dn dc mn mc yn yc ds ms ys _ (L1.out _ _)) HI.out)) | (go_at_call 41; exact Calls.regrown_of (once_any _)) | (go_at_call 40; exact Calls.regrown_of (ans_is (same_any fr ev ct un D M Y dn dc mn mc yn yc 0 0 0 (-1) none none none 0 0 0 0 0 0 ds ms ys [] [] [] _ (L1.out _ _) (lies_once _)) HS.out)))) | quiet_step ((first | (go_at_call 31; exact Calls.regrown_of (ans_is (ruleIs_any fr ev ct un D M Y dn dc mn mc yn yc ds ms ys _ (L1.out _ _)) HI.out)) | (go_at_call 41; exact Calls.regrown_of (once_any _)) | (go_at_call 40; exact Calls.regrown_of (ans_is (same_any fr ev ct un D M Y dn dc mn mc yn yc 0 0 0 (-1) none none none 0 0 0 0 0 0 ds ms ys [] [] [] _ (L1.out _ _) (lies_once _)) HS.out)))))
        refine wpQuiet_nil ?_
        intro _ hw'
        obtain ⟨⟨nq, osq⟩, hw''⟩ := hw'
        subst hw''
        have hb := hbq nq osq
        replace HBX := hide (andthen HBX.out hb)
        replace HL := hide (HL.out.keep hb)
        replace s0 := cell_keep hb s0
        replace s1 := cell_keep hb s1
        replace s2 := cell_keep hb s2
        replace s3 := cell_keep hb s3
        replace s4 := cell_keep hb s4
        replace s5 := cell_keep hb s5
        replace s6 := cell_keep hb s6
        replace d0 := cell_keep hb d0
        replace d1 := cell_keep hb d1
        replace d2 := cell_keep hb d2
        clear hb hbq fs0 fs1 fs2 fs3 fs4 fs5 fs6 fd0 fd1 fd2 L1
        go_wp2_with fail
        go_ret3
        exact ⟨HE.out, HBX.out⟩
      · have HE := hide (per_no ⟨fr, ev, ct, un, ds, ms, ys⟩ s k (perK_rec _ _ _ hr))
        have hs : sameB ⟨fr, ev, ct, un, ds, ms, ys⟩ once = true := by unfold isB at hi; rw [hr, Bool.or_false] at hi; exact hi
        have HI := hide hi
        have HS := hide hs
        clear hr hi hs
        go_enter Try.func49, Try.ntmps49
        go_wp2_with fail
        generalize (w.alloc (.cells #[.int .i64 fr, .int .i64 ev, .int .i64 ct, .int .i64 un, .slice D dn dc, .slice M mn mc, .slice Y yn yc] 25)) = W at *
        refine (date_is s y m d _ s1' s2' HD.out.1 HD.out.2.1 HD.out.2.2).mono ?_
        rintro e u1 ⟨rfl, hb⟩
        replace HBX := hide (andthen HBX.out hb)
        replace HL := hide (HL.out.keep hb)
        replace s0 := cell_keep hb s0
        replace s1 := cell_keep hb s1
        replace s2 := cell_keep hb s2
        replace s3 := cell_keep hb s3
        replace s4 := cell_keep hb s4
        replace s5 := cell_keep hb s5
        replace s6 := cell_keep hb s6
        clear hb
        go_wp2_with fail
        have hb := more (start u1) (.cells #[.int .i64 y, .int .i64 m, .int .i64 d] 49)
        replace HBX := hide (andthen HBX.out hb)
        replace HL := hide (HL.out.keep hb)
        replace s0 := cell_keep hb s0
        replace s1 := cell_keep hb s1
        replace s2 := cell_keep hb s2
        replace s3 := cell_keep hb s3
        replace s4 := cell_keep hb s4
        replace s5 := cell_keep hb s5
        replace s6 := cell_keep hb s6
        clear hb
        have d0 : (u1.alloc (.cells #[.int .i64 y, .int .i64 m, .int .i64 d] 49)).cell? ⟨u1.heap.size, 0, none⟩ = some (.int .i64 y) := by rw [World.cell?_alloc_at _ _ _ _ rfl]; rfl
        have d1 : (u1.alloc (.cells #[.int .i64 y, .int .i64 m, .int .i64 d] 49)).cell? ⟨u1.heap.size, 1, none⟩ = some (.int .i64 m) := by rw [World.cell?_alloc_at _ _ _ _ rfl]; rfl
        have d2 : (u1.alloc (.cells #[.int .i64 y, .int .i64 m, .int .i64 d] 49)).cell? ⟨u1.heap.size, 2, none⟩ = some (.int .i64 d) := by rw [World.cell?_alloc_at _ _ _ _ rfl]; rfl
        generalize (u1.alloc (.cells #[.int .i64 y, .int .i64 m, .int .i64 d] 49)) = VD at *
        generalize u1.heap.size = XD at *
        have fs0 := fun d os => cell_regrown s0 d os
        have fs1 := fun d os => cell_regrown s1 d os
        have fs2 := fun d os => cell_regrown s2 d os
        have fs3 := fun d os => cell_regrown s3 d os
        have fs4 := fun d os => cell_regrown s4 d os
        have fs5 := fun d os => cell_regrown s5 d os
        have fs6 := fun d os => cell_regrown s6 d os
        have fd0 := fun d os => cell_regrown d0 d os
        have fd1 := fun d os => cell_regrown d1 d os
        have fd2 := fun d os => cell_regrown d2 d os
        have L1 := hide (fun d os => Lies.keep HL.out (below_regrown VD d os))
        have hbq := fun d os => below_regrown VD d os
        refine wp_region_quiet_below (by kernel_rfl) (by kernel_rfl) ?_
        repeat (first | go_big_quiet_step ((first | (go_at_call 31; exact Calls.regrown_of (ans_is (ruleIs_any fr ev ct un D M Y dn dc mn mc yn yc ds ms ys _ (L1.out _ _)) HI.out)) | (go_at_call 41; exact Calls.regrown_of (once_any _)) | (go_at_call 40; exact Calls.regrown_of (ans_is (same_any fr ev ct un D M Y dn dc mn mc yn yc 0 0 0 (-1) none none none 0 0 0 0 0 0 ds ms ys [] [] [] _ (L1.out _ _) (lies_once _)) HS.out)))) | quiet_step ((first | (go_at_call 31; exact Calls.regrown_of (ans_is (ruleIs_any fr ev ct un D M Y dn dc mn mc yn yc ds ms ys _ (L1.out _ _)) HI.out)) | (go_at_call 41; exact Calls.regrown_of (once_any _)) | (go_at_call 40; exact Calls.regrown_of (ans_is (same_any fr ev ct un D M Y dn dc mn mc yn yc 0 0 0 (-1) none none none 0 0 0 0 0 0 ds ms ys [] [] [] _ (L1.out _ _) (lies_once _)) HS.out)))))
        refine wpQuiet_nil ?_
        intro _ hw'
        obtain ⟨⟨nq, osq⟩, hw''⟩ := hw'
        subst hw''
        have hb := hbq nq osq
        replace HBX := hide (andthen HBX.out hb)
        replace HL := hide (HL.out.keep hb)
        replace s0 := cell_keep hb s0
        replace s1 := cell_keep hb s1
        replace s2 := cell_keep hb s2
        replace s3 := cell_keep hb s3
        replace s4 := cell_keep hb s4
        replace s5 := cell_keep hb s5
        replace s6 := cell_keep hb s6
        replace d0 := cell_keep hb d0
        replace d1 := cell_keep hb d1
        replace d2 := cell_keep hb d2
        clear hb hbq fs0 fs1 fs2 fs3 fs4 fs5 fs6 fd0 fd1 fd2 L1
        go_wp2_with fail
        go_ret3
        exact ⟨HE.out, HBX.out⟩
    · have HI := hide (rec_once ⟨fr, ev, ct, un, ds, ms, ys⟩ hr).1
      have HS := hide (rec_once ⟨fr, ev, ct, un, ds, ms, ys⟩ hr).2
      have fb := recB_fr ⟨fr, ev, ct, un, ds, ms, ys⟩ hr
      have eb := recB_ev ⟨fr, ev, ct, un, ds, ms, ys⟩ hr
      simp only at fb eb
      by_cases hk : k < 0 ∨ 36525 ≤ k
      · have HE := hide (per_no ⟨fr, ev, ct, un, ds, ms, ys⟩ s k (perK_k _ _ _ hk))
        clear hr
        by_cases hk1 : k < 0
        · clear hk
          go_enter Try.func49, Try.ntmps49
          go_wp2_with fail
          generalize (w.alloc (.cells #[.int .i64 fr, .int .i64 ev, .int .i64 ct, .int .i64 un, .slice D dn dc, .slice M mn mc, .slice Y yn yc] 25)) = W at *
          refine (date_is s y m d _ s1' s2' HD.out.1 HD.out.2.1 HD.out.2.2).mono ?_
          rintro e u1 ⟨rfl, hb⟩
          replace HBX := hide (andthen HBX.out hb)
          replace HL := hide (HL.out.keep hb)
          replace s0 := cell_keep hb s0
          replace s1 := cell_keep hb s1
          replace s2 := cell_keep hb s2
          replace s3 := cell_keep hb s3
          replace s4 := cell_keep hb s4
          replace s5 := cell_keep hb s5
          replace s6 := cell_keep hb s6
          clear hb
          go_wp2_with fail
          have hb := more (start u1) (.cells #[.int .i64 y, .int .i64 m, .int .i64 d] 49)
          replace HBX := hide (andthen HBX.out hb)
          replace HL := hide (HL.out.keep hb)
          replace s0 := cell_keep hb s0
          replace s1 := cell_keep hb s1
          replace s2 := cell_keep hb s2
          replace s3 := cell_keep hb s3
          replace s4 := cell_keep hb s4
          replace s5 := cell_keep hb s5
          replace s6 := cell_keep hb s6
          clear hb
          have d0 : (u1.alloc (.cells #[.int .i64 y, .int .i64 m, .int .i64 d] 49)).cell? ⟨u1.heap.size, 0, none⟩ = some (.int .i64 y) := by rw [World.cell?_alloc_at _ _ _ _ rfl]; rfl
          have d1 : (u1.alloc (.cells #[.int .i64 y, .int .i64 m, .int .i64 d] 49)).cell? ⟨u1.heap.size, 1, none⟩ = some (.int .i64 m) := by rw [World.cell?_alloc_at _ _ _ _ rfl]; rfl
          have d2 : (u1.alloc (.cells #[.int .i64 y, .int .i64 m, .int .i64 d] 49)).cell? ⟨u1.heap.size, 2, none⟩ = some (.int .i64 d) := by rw [World.cell?_alloc_at _ _ _ _ rfl]; rfl
          generalize (u1.alloc (.cells #[.int .i64 y, .int .i64 m, .int .i64 d] 49)) = VD at *
          generalize u1.heap.size = XD at *
          have fs0 := fun d os => cell_regrown s0 d os
          have fs1 := fun d os => cell_regrown s1 d os
          have fs2 := fun d os => cell_regrown s2 d os
          have fs3 := fun d os => cell_regrown s3 d os
          have fs4 := fun d os => cell_regrown s4 d os
          have fs5 := fun d os => cell_regrown s5 d os
          have fs6 := fun d os => cell_regrown s6 d os
          have fd0 := fun d os => cell_regrown d0 d os
          have fd1 := fun d os => cell_regrown d1 d os
          have fd2 := fun d os => cell_regrown d2 d os
          have L1 := hide (fun d os => Lies.keep HL.out (below_regrown VD d os))
          have hbq := fun d os => below_regrown VD d os
          refine wp_region_quiet_below (by kernel_rfl) (by kernel_rfl) ?_
          repeat (first | go_big_quiet_step ((first | (go_at_call 31; exact Calls.regrown_of (ans_is (ruleIs_any fr ev ct un D M Y dn dc mn mc yn yc ds ms ys _ (L1.out _ _)) HI.out)) | (go_at_call 41; exact Calls.regrown_of (once_any _)) | (go_at_call 40; exact Calls.regrown_of (ans_is (same_any fr ev ct un D M Y dn dc mn mc yn yc 0 0 0 (-1) none none none 0 0 0 0 0 0 ds ms ys [] [] [] _ (L1.out _ _) (lies_once _)) HS.out)))) | quiet_step ((first | (go_at_call 31; exact Calls.regrown_of (ans_is (ruleIs_any fr ev ct un D M Y dn dc mn mc yn yc ds ms ys _ (L1.out _ _)) HI.out)) | (go_at_call 41; exact Calls.regrown_of (once_any _)) | (go_at_call 40; exact Calls.regrown_of (ans_is (same_any fr ev ct un D M Y dn dc mn mc yn yc 0 0 0 (-1) none none none 0 0 0 0 0 0 ds ms ys [] [] [] _ (L1.out _ _) (lies_once _)) HS.out)))))
          refine wpQuiet_nil ?_
          intro _ hw'
          obtain ⟨⟨nq, osq⟩, hw''⟩ := hw'
          subst hw''
          have hb := hbq nq osq
          replace HBX := hide (andthen HBX.out hb)
          replace HL := hide (HL.out.keep hb)
          replace s0 := cell_keep hb s0
          replace s1 := cell_keep hb s1
          replace s2 := cell_keep hb s2
          replace s3 := cell_keep hb s3
          replace s4 := cell_keep hb s4
          replace s5 := cell_keep hb s5
          replace s6 := cell_keep hb s6
          replace d0 := cell_keep hb d0
          replace d1 := cell_keep hb d1
          replace d2 := cell_keep hb d2
          clear hb hbq fs0 fs1 fs2 fs3 fs4 fs5 fs6 fd0 fd1 fd2 L1
          go_wp2_with fail
          go_ret3
          exact ⟨HE.out, HBX.out⟩
        · have hk2 : 36525 ≤ k := by omega
          clear hk
          go_enter Try.func49, Try.ntmps49
          go_wp2_with fail
          generalize (w.alloc (.cells #[.int .i64 fr, .int .i64 ev, .int .i64 ct, .int .i64 un, .slice D dn dc, .slice M mn mc, .slice Y yn yc] 25)) = W at *
          refine (date_is s y m d _ s1' s2' HD.out.1 HD.out.2.1 HD.out.2.2).mono ?_
          rintro e u1 ⟨rfl, hb⟩
          replace HBX := hide (andthen HBX.out hb)
          replace HL := hide (HL.out.keep hb)
          replace s0 := cell_keep hb s0
          replace s1 := cell_keep hb s1
          replace s2 := cell_keep hb s2
          replace s3 := cell_keep hb s3
          replace s4 := cell_keep hb s4
          replace s5 := cell_keep hb s5
          replace s6 := cell_keep hb s6
          clear hb
          go_wp2_with fail
          have hb := more (start u1) (.cells #[.int .i64 y, .int .i64 m, .int .i64 d] 49)
          replace HBX := hide (andthen HBX.out hb)
          replace HL := hide (HL.out.keep hb)
          replace s0 := cell_keep hb s0
          replace s1 := cell_keep hb s1
          replace s2 := cell_keep hb s2
          replace s3 := cell_keep hb s3
          replace s4 := cell_keep hb s4
          replace s5 := cell_keep hb s5
          replace s6 := cell_keep hb s6
          clear hb
          have d0 : (u1.alloc (.cells #[.int .i64 y, .int .i64 m, .int .i64 d] 49)).cell? ⟨u1.heap.size, 0, none⟩ = some (.int .i64 y) := by rw [World.cell?_alloc_at _ _ _ _ rfl]; rfl
          have d1 : (u1.alloc (.cells #[.int .i64 y, .int .i64 m, .int .i64 d] 49)).cell? ⟨u1.heap.size, 1, none⟩ = some (.int .i64 m) := by rw [World.cell?_alloc_at _ _ _ _ rfl]; rfl
          have d2 : (u1.alloc (.cells #[.int .i64 y, .int .i64 m, .int .i64 d] 49)).cell? ⟨u1.heap.size, 2, none⟩ = some (.int .i64 d) := by rw [World.cell?_alloc_at _ _ _ _ rfl]; rfl
          generalize (u1.alloc (.cells #[.int .i64 y, .int .i64 m, .int .i64 d] 49)) = VD at *
          generalize u1.heap.size = XD at *
          have fs0 := fun d os => cell_regrown s0 d os
          have fs1 := fun d os => cell_regrown s1 d os
          have fs2 := fun d os => cell_regrown s2 d os
          have fs3 := fun d os => cell_regrown s3 d os
          have fs4 := fun d os => cell_regrown s4 d os
          have fs5 := fun d os => cell_regrown s5 d os
          have fs6 := fun d os => cell_regrown s6 d os
          have fd0 := fun d os => cell_regrown d0 d os
          have fd1 := fun d os => cell_regrown d1 d os
          have fd2 := fun d os => cell_regrown d2 d os
          have L1 := hide (fun d os => Lies.keep HL.out (below_regrown VD d os))
          have hbq := fun d os => below_regrown VD d os
          refine wp_region_quiet_below (by kernel_rfl) (by kernel_rfl) ?_
          repeat (first | go_big_quiet_step ((first | (go_at_call 31; exact Calls.regrown_of (ans_is (ruleIs_any fr ev ct un D M Y dn dc mn mc yn yc ds ms ys _ (L1.out _ _)) HI.out)) | (go_at_call 41; exact Calls.regrown_of (once_any _)) | (go_at_call 40; exact Calls.regrown_of (ans_is (same_any fr ev ct un D M Y dn dc mn mc yn yc 0 0 0 (-1) none none none 0 0 0 0 0 0 ds ms ys [] [] [] _ (L1.out _ _) (lies_once _)) HS.out)))) | quiet_step ((first | (go_at_call 31; exact Calls.regrown_of (ans_is (ruleIs_any fr ev ct un D M Y dn dc mn mc yn yc ds ms ys _ (L1.out _ _)) HI.out)) | (go_at_call 41; exact Calls.regrown_of (once_any _)) | (go_at_call 40; exact Calls.regrown_of (ans_is (same_any fr ev ct un D M Y dn dc mn mc yn yc 0 0 0 (-1) none none none 0 0 0 0 0 0 ds ms ys [] [] [] _ (L1.out _ _) (lies_once _)) HS.out)))))
          refine wpQuiet_nil ?_
          intro _ hw'
          obtain ⟨⟨nq, osq⟩, hw''⟩ := hw'
          subst hw''
          have hb := hbq nq osq
          replace HBX := hide (andthen HBX.out hb)
          replace HL := hide (HL.out.keep hb)
          replace s0 := cell_keep hb s0
          replace s1 := cell_keep hb s1
          replace s2 := cell_keep hb s2
          replace s3 := cell_keep hb s3
          replace s4 := cell_keep hb s4
          replace s5 := cell_keep hb s5
          replace s6 := cell_keep hb s6
          replace d0 := cell_keep hb d0
          replace d1 := cell_keep hb d1
          replace d2 := cell_keep hb d2
          clear hb hbq fs0 fs1 fs2 fs3 fs4 fs5 fs6 fd0 fd1 fd2 L1
          go_wp2_with fail
          go_ret3
          exact ⟨HE.out, HBX.out⟩
      · have hm := ev_mul ev k eb.1 eb.2 (by omega) (by omega)
        obtain ⟨a, ha⟩ : ∃ a, pA fr s (ev * k) = a := ⟨_, rfl⟩
        have lo := pA_lo fr s (ev * k) fb.1 fb.2 s1' s2' hm.1
        have hi := pA_hi fr s (ev * k) fb.1 fb.2 s1' s2' hm.1 (by omega)
        rw [ha] at lo hi
        have hk1 : 0 ≤ k := by omega
        have hk2 : k < 36525 := by omega
        by_cases hl : 36525 ≤ a
        · have HE := hide (per_no ⟨fr, ev, ct, un, ds, ms, ys⟩ s k (perK_late _ _ _ (by show 36525 ≤ pA fr s (ev * k); rw [ha]; exact hl)))
          have HA := hide ha
          clear hr hk ha
          go_enter Try.func49, Try.ntmps49
          go_wp2_with fail
          generalize (w.alloc (.cells #[.int .i64 fr, .int .i64 ev, .int .i64 ct, .int .i64 un, .slice D dn dc, .slice M mn mc, .slice Y yn yc] 25)) = W at *
          refine (date_is s y m d _ s1' s2' HD.out.1 HD.out.2.1 HD.out.2.2).mono ?_
          rintro e u1 ⟨rfl, hb⟩
          replace HBX := hide (andthen HBX.out hb)
          replace HL := hide (HL.out.keep hb)
          replace s0 := cell_keep hb s0
          replace s1 := cell_keep hb s1
          replace s2 := cell_keep hb s2
          replace s3 := cell_keep hb s3
          replace s4 := cell_keep hb s4
          replace s5 := cell_keep hb s5
          replace s6 := cell_keep hb s6
          clear hb
          go_wp2_with fail
          have hb := more (start u1) (.cells #[.int .i64 y, .int .i64 m, .int .i64 d] 49)
          replace HBX := hide (andthen HBX.out hb)
          replace HL := hide (HL.out.keep hb)
          replace s0 := cell_keep hb s0
          replace s1 := cell_keep hb s1
          replace s2 := cell_keep hb s2
          replace s3 := cell_keep hb s3
          replace s4 := cell_keep hb s4
          replace s5 := cell_keep hb s5
          replace s6 := cell_keep hb s6
          clear hb
          have d0 : (u1.alloc (.cells #[.int .i64 y, .int .i64 m, .int .i64 d] 49)).cell? ⟨u1.heap.size, 0, none⟩ = some (.int .i64 y) := by rw [World.cell?_alloc_at _ _ _ _ rfl]; rfl
          have d1 : (u1.alloc (.cells #[.int .i64 y, .int .i64 m, .int .i64 d] 49)).cell? ⟨u1.heap.size, 1, none⟩ = some (.int .i64 m) := by rw [World.cell?_alloc_at _ _ _ _ rfl]; rfl
          have d2 : (u1.alloc (.cells #[.int .i64 y, .int .i64 m, .int .i64 d] 49)).cell? ⟨u1.heap.size, 2, none⟩ = some (.int .i64 d) := by rw [World.cell?_alloc_at _ _ _ _ rfl]; rfl
          generalize (u1.alloc (.cells #[.int .i64 y, .int .i64 m, .int .i64 d] 49)) = VD at *
          generalize u1.heap.size = XD at *
          have fs0 := fun d os => cell_regrown s0 d os
          have fs1 := fun d os => cell_regrown s1 d os
          have fs2 := fun d os => cell_regrown s2 d os
          have fs3 := fun d os => cell_regrown s3 d os
          have fs4 := fun d os => cell_regrown s4 d os
          have fs5 := fun d os => cell_regrown s5 d os
          have fs6 := fun d os => cell_regrown s6 d os
          have fd0 := fun d os => cell_regrown d0 d os
          have fd1 := fun d os => cell_regrown d1 d os
          have fd2 := fun d os => cell_regrown d2 d os
          have L1 := hide (fun d os => Lies.keep HL.out (below_regrown VD d os))
          have hbq := fun d os => below_regrown VD d os
          refine wp_region_quiet_below (by kernel_rfl) (by kernel_rfl) ?_
          repeat (first | go_big_quiet_step ((first | (go_at_call 31; exact Calls.regrown_of (ans_is (ruleIs_any fr ev ct un D M Y dn dc mn mc yn yc ds ms ys _ (L1.out _ _)) HI.out)) | (go_at_call 41; exact Calls.regrown_of (once_any _)) | (go_at_call 40; exact Calls.regrown_of (ans_is (same_any fr ev ct un D M Y dn dc mn mc yn yc 0 0 0 (-1) none none none 0 0 0 0 0 0 ds ms ys [] [] [] _ (L1.out _ _) (lies_once _)) HS.out)))) | quiet_step ((first | (go_at_call 31; exact Calls.regrown_of (ans_is (ruleIs_any fr ev ct un D M Y dn dc mn mc yn yc ds ms ys _ (L1.out _ _)) HI.out)) | (go_at_call 41; exact Calls.regrown_of (once_any _)) | (go_at_call 40; exact Calls.regrown_of (ans_is (same_any fr ev ct un D M Y dn dc mn mc yn yc 0 0 0 (-1) none none none 0 0 0 0 0 0 ds ms ys [] [] [] _ (L1.out _ _) (lies_once _)) HS.out)))))
          refine wpQuiet_nil ?_
          intro _ hw'
          obtain ⟨⟨nq, osq⟩, hw''⟩ := hw'
          subst hw''
          have hb := hbq nq osq
          replace HBX := hide (andthen HBX.out hb)
          replace HL := hide (HL.out.keep hb)
          replace s0 := cell_keep hb s0
          replace s1 := cell_keep hb s1
          replace s2 := cell_keep hb s2
          replace s3 := cell_keep hb s3
          replace s4 := cell_keep hb s4
          replace s5 := cell_keep hb s5
          replace s6 := cell_keep hb s6
          replace d0 := cell_keep hb d0
          replace d1 := cell_keep hb d1
          replace d2 := cell_keep hb d2
          clear hb hbq fs0 fs1 fs2 fs3 fs4 fs5 fs6 fd0 fd1 fd2 L1
          go_wp2_with fail
          refine (bounds_any fr s y m d (ev * k) a _ fb.1 fb.2 s1' s2' HD.out.1 HD.out.2.1 hm.1 (by omega) HA.out).mono ?_
          rintro e u9 ⟨b, rfl, hb1, hb⟩
          have HB1 := hide hb1
          clear hb1
          replace HBX := hide (andthen HBX.out hb)
          replace HL := hide (HL.out.keep hb)
          replace s0 := cell_keep hb s0
          replace s1 := cell_keep hb s1
          replace s2 := cell_keep hb s2
          replace s3 := cell_keep hb s3
          replace s4 := cell_keep hb s4
          replace s5 := cell_keep hb s5
          replace s6 := cell_keep hb s6
          replace d0 := cell_keep hb d0
          replace d1 := cell_keep hb d1
          replace d2 := cell_keep hb d2
          clear hb
          go_wp2_with fail
          go_ret3
          exact ⟨HE.out, HBX.out⟩
        · have hK : perK ⟨fr, ev, ct, un, ds, ms, ys⟩ s k = true := (perK_iff _ _ _).2 ⟨⟨s1', s2'⟩, hr, ⟨hk1, hk2⟩, by show pA fr s (ev * k) < 36525; rw [ha]; omega⟩
          have HE : Hid (∀ b, (a < 36525 → b = pB fr s (ev * k)) → ∀ u v, u = max a 0 → v = min b 36525 → Ending.returned (.tuple #[.int .i64 u, .int .i64 v, .bool true]) = .returned (perV ⟨fr, ev, ct, un, ds, ms, ys⟩ s k)) := hide fun b hb u v hu hv => by subst hu hv; exact per_yes ⟨fr, ev, ct, un, ds, ms, ys⟩ s k a b hK ha (hb (by omega))
          have HA := hide ha
          clear hr hk ha hK
          go_enter Try.func49, Try.ntmps49
          go_wp2_with fail
          generalize (w.alloc (.cells #[.int .i64 fr, .int .i64 ev, .int .i64 ct, .int .i64 un, .slice D dn dc, .slice M mn mc, .slice Y yn yc] 25)) = W at *
          refine (date_is s y m d _ s1' s2' HD.out.1 HD.out.2.1 HD.out.2.2).mono ?_
          rintro e u1 ⟨rfl, hb⟩
          replace HBX := hide (andthen HBX.out hb)
          replace HL := hide (HL.out.keep hb)
          replace s0 := cell_keep hb s0
          replace s1 := cell_keep hb s1
          replace s2 := cell_keep hb s2
          replace s3 := cell_keep hb s3
          replace s4 := cell_keep hb s4
          replace s5 := cell_keep hb s5
          replace s6 := cell_keep hb s6
          clear hb
          go_wp2_with fail
          have hb := more (start u1) (.cells #[.int .i64 y, .int .i64 m, .int .i64 d] 49)
          replace HBX := hide (andthen HBX.out hb)
          replace HL := hide (HL.out.keep hb)
          replace s0 := cell_keep hb s0
          replace s1 := cell_keep hb s1
          replace s2 := cell_keep hb s2
          replace s3 := cell_keep hb s3
          replace s4 := cell_keep hb s4
          replace s5 := cell_keep hb s5
          replace s6 := cell_keep hb s6
          clear hb
          have d0 : (u1.alloc (.cells #[.int .i64 y, .int .i64 m, .int .i64 d] 49)).cell? ⟨u1.heap.size, 0, none⟩ = some (.int .i64 y) := by rw [World.cell?_alloc_at _ _ _ _ rfl]; rfl
          have d1 : (u1.alloc (.cells #[.int .i64 y, .int .i64 m, .int .i64 d] 49)).cell? ⟨u1.heap.size, 1, none⟩ = some (.int .i64 m) := by rw [World.cell?_alloc_at _ _ _ _ rfl]; rfl
          have d2 : (u1.alloc (.cells #[.int .i64 y, .int .i64 m, .int .i64 d] 49)).cell? ⟨u1.heap.size, 2, none⟩ = some (.int .i64 d) := by rw [World.cell?_alloc_at _ _ _ _ rfl]; rfl
          generalize (u1.alloc (.cells #[.int .i64 y, .int .i64 m, .int .i64 d] 49)) = VD at *
          generalize u1.heap.size = XD at *
          have fs0 := fun d os => cell_regrown s0 d os
          have fs1 := fun d os => cell_regrown s1 d os
          have fs2 := fun d os => cell_regrown s2 d os
          have fs3 := fun d os => cell_regrown s3 d os
          have fs4 := fun d os => cell_regrown s4 d os
          have fs5 := fun d os => cell_regrown s5 d os
          have fs6 := fun d os => cell_regrown s6 d os
          have fd0 := fun d os => cell_regrown d0 d os
          have fd1 := fun d os => cell_regrown d1 d os
          have fd2 := fun d os => cell_regrown d2 d os
          have L1 := hide (fun d os => Lies.keep HL.out (below_regrown VD d os))
          have hbq := fun d os => below_regrown VD d os
          refine wp_region_quiet_below (by kernel_rfl) (by kernel_rfl) ?_
          repeat (first | go_big_quiet_step ((first | (go_at_call 31; exact Calls.regrown_of (ans_is (ruleIs_any fr ev ct un D M Y dn dc mn mc yn yc ds ms ys _ (L1.out _ _)) HI.out)) | (go_at_call 41; exact Calls.regrown_of (once_any _)) | (go_at_call 40; exact Calls.regrown_of (ans_is (same_any fr ev ct un D M Y dn dc mn mc yn yc 0 0 0 (-1) none none none 0 0 0 0 0 0 ds ms ys [] [] [] _ (L1.out _ _) (lies_once _)) HS.out)))) | quiet_step ((first | (go_at_call 31; exact Calls.regrown_of (ans_is (ruleIs_any fr ev ct un D M Y dn dc mn mc yn yc ds ms ys _ (L1.out _ _)) HI.out)) | (go_at_call 41; exact Calls.regrown_of (once_any _)) | (go_at_call 40; exact Calls.regrown_of (ans_is (same_any fr ev ct un D M Y dn dc mn mc yn yc 0 0 0 (-1) none none none 0 0 0 0 0 0 ds ms ys [] [] [] _ (L1.out _ _) (lies_once _)) HS.out)))))
          refine wpQuiet_nil ?_
          intro _ hw'
          obtain ⟨⟨nq, osq⟩, hw''⟩ := hw'
          subst hw''
          have hb := hbq nq osq
          replace HBX := hide (andthen HBX.out hb)
          replace HL := hide (HL.out.keep hb)
          replace s0 := cell_keep hb s0
          replace s1 := cell_keep hb s1
          replace s2 := cell_keep hb s2
          replace s3 := cell_keep hb s3
          replace s4 := cell_keep hb s4
          replace s5 := cell_keep hb s5
          replace s6 := cell_keep hb s6
          replace d0 := cell_keep hb d0
          replace d1 := cell_keep hb d1
          replace d2 := cell_keep hb d2
          clear hb hbq fs0 fs1 fs2 fs3 fs4 fs5 fs6 fd0 fd1 fd2 L1
          go_wp2_with fail
          refine (bounds_any fr s y m d (ev * k) a _ fb.1 fb.2 s1' s2' HD.out.1 HD.out.2.1 hm.1 (by omega) HA.out).mono ?_
          rintro e u9 ⟨b, rfl, hb1, hb⟩
          have HB1 := hide hb1
          clear hb1
          replace HBX := hide (andthen HBX.out hb)
          replace HL := hide (HL.out.keep hb)
          replace s0 := cell_keep hb s0
          replace s1 := cell_keep hb s1
          replace s2 := cell_keep hb s2
          replace s3 := cell_keep hb s3
          replace s4 := cell_keep hb s4
          replace s5 := cell_keep hb s5
          replace s6 := cell_keep hb s6
          replace d0 := cell_keep hb d0
          replace d1 := cell_keep hb d1
          replace d2 := cell_keep hb d2
          clear hb
          go_wp2_with fail
          all_goals
            go_ret3
            exact ⟨HE.out b HB1.out _ _ (by omega) (by omega), HBX.out⟩

end Go.Proofs.Ytdmplojfidkipaa

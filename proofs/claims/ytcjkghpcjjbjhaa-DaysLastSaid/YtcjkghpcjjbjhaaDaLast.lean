/- DaysLast walked. Written by recipes/da12.py. -/
import Derived.Test.YtcjkghpcjjbjhaaDaLastM
import Derived.Test.YtcjkghpcjjbjhaaDaH
namespace Go.Proofs.Ytcjkghpcjjbjhaa
open Go.RowKit Rul Go.Sort

set_option maxRecDepth 100000 in
set_option maxHeartbeats 2000000 in
theorem last_walk (yr q y z s : Int) (w : World) (_y0 : 0 ≤ yr) (_y1 : yr ≤ 255) (_q0 : 0 ≤ q) (_q1 : q ≤ 255) (_hy : yr % 100 + 2000 = y) (_hz : q % 7 = z) (HN : Hid (numE y 1 1 = (s, 0)))
    (HX : Hid (∀ kk : Int, 0 ≤ kk → kk ≤ 11 → ∃ x, daysL (lastR z) s kk = [x] ∧ 0 ≤ x ∧ x < 36525 ∧ Cal.yOf x = y ∧ Cal.mOf x = kk + 1 ∧ Cal.wday x = z ∧ Cal.dim y (kk + 1) < Cal.dOf x + 7)) :
    Calls Try.prog 7 #[.int .u8 yr, .int .u8 q] w (Ans w (.bool true)) := by
  have t1 : yr.tmod 100 = yr % 100 := Int.tmod_eq_emod_of_nonneg (by omega)
  have t2 : q.tmod 7 = q % 7 := Int.tmod_eq_emod_of_nonneg (by omega)
  have t3 : 2000 + yr % 100 = y := by omega
  go_enter Try.func7, Try.ntmps7
  go_wp2_with fail
  refine (known_any _).mono ?_
  rintro e u1 ⟨rfl, hb⟩
  have HBX := hide hb
  clear hb
  go_wp2_with fail
  refine (rnumber_is y 1 1 s 0 _ HN.out).mono ?_
  rintro e u2 ⟨rfl, hb⟩
  replace HBX := hide (andthen HBX.out hb)
  clear hb
  replace HBX := hide (more (more HBX.out (.cells #[.int .i64 (-1), .int .i64 z] 47)) (.cells #[.int .i64 3, .int .i64 1, .int .i64 0, .int .i64 (-1), .slice (some ⟨u2.heap.size, 0, none⟩) 1 1, .slice none 0 0, .slice none 0 0] 25))
  have HL : Hid (Lies ((u2.alloc (.cells #[.int .i64 (-1), .int .i64 z] 47)).alloc (.cells #[.int .i64 3, .int .i64 1, .int .i64 0, .int .i64 (-1), .slice (some ⟨u2.heap.size, 0, none⟩) 1 1, .slice none 0 0, .slice none 0 0] 25)) (some ⟨u2.heap.size, 0, none⟩) 1 none 0 none 0 [(-1, z)] [] []) := hide (Lies.keep (lies_day (rowD_one u2 (-1) z 47)) (more (start _) _))
  have s0 : ((u2.alloc (.cells #[.int .i64 (-1), .int .i64 z] 47)).alloc (.cells #[.int .i64 3, .int .i64 1, .int .i64 0, .int .i64 (-1), .slice (some ⟨u2.heap.size, 0, none⟩) 1 1, .slice none 0 0, .slice none 0 0] 25)).cell? ⟨u2.heap.size + 1, 0, none⟩ = some (.int .i64 3) := by rw [World.cell?_alloc_at _ _ _ _ (by simp)]; rfl
  have s1 : ((u2.alloc (.cells #[.int .i64 (-1), .int .i64 z] 47)).alloc (.cells #[.int .i64 3, .int .i64 1, .int .i64 0, .int .i64 (-1), .slice (some ⟨u2.heap.size, 0, none⟩) 1 1, .slice none 0 0, .slice none 0 0] 25)).cell? ⟨u2.heap.size + 1, 1, none⟩ = some (.int .i64 1) := by rw [World.cell?_alloc_at _ _ _ _ (by simp)]; rfl
  have s2 : ((u2.alloc (.cells #[.int .i64 (-1), .int .i64 z] 47)).alloc (.cells #[.int .i64 3, .int .i64 1, .int .i64 0, .int .i64 (-1), .slice (some ⟨u2.heap.size, 0, none⟩) 1 1, .slice none 0 0, .slice none 0 0] 25)).cell? ⟨u2.heap.size + 1, 2, none⟩ = some (.int .i64 0) := by rw [World.cell?_alloc_at _ _ _ _ (by simp)]; rfl
  have s3 : ((u2.alloc (.cells #[.int .i64 (-1), .int .i64 z] 47)).alloc (.cells #[.int .i64 3, .int .i64 1, .int .i64 0, .int .i64 (-1), .slice (some ⟨u2.heap.size, 0, none⟩) 1 1, .slice none 0 0, .slice none 0 0] 25)).cell? ⟨u2.heap.size + 1, 3, none⟩ = some (.int .i64 (-1)) := by rw [World.cell?_alloc_at _ _ _ _ (by simp)]; rfl
  have s4 : ((u2.alloc (.cells #[.int .i64 (-1), .int .i64 z] 47)).alloc (.cells #[.int .i64 3, .int .i64 1, .int .i64 0, .int .i64 (-1), .slice (some ⟨u2.heap.size, 0, none⟩) 1 1, .slice none 0 0, .slice none 0 0] 25)).cell? ⟨u2.heap.size + 1, 4, none⟩ = some (.slice (some ⟨u2.heap.size, 0, none⟩) 1 1) := by rw [World.cell?_alloc_at _ _ _ _ (by simp)]; rfl
  have s5 : ((u2.alloc (.cells #[.int .i64 (-1), .int .i64 z] 47)).alloc (.cells #[.int .i64 3, .int .i64 1, .int .i64 0, .int .i64 (-1), .slice (some ⟨u2.heap.size, 0, none⟩) 1 1, .slice none 0 0, .slice none 0 0] 25)).cell? ⟨u2.heap.size + 1, 5, none⟩ = some (.slice none 0 0) := by rw [World.cell?_alloc_at _ _ _ _ (by simp)]; rfl
  have s6 : ((u2.alloc (.cells #[.int .i64 (-1), .int .i64 z] 47)).alloc (.cells #[.int .i64 3, .int .i64 1, .int .i64 0, .int .i64 (-1), .slice (some ⟨u2.heap.size, 0, none⟩) 1 1, .slice none 0 0, .slice none 0 0] 25)).cell? ⟨u2.heap.size + 1, 6, none⟩ = some (.slice none 0 0) := by rw [World.cell?_alloc_at _ _ _ _ (by simp)]; rfl
  go_wp2_with fail
  generalize ((u2.alloc (.cells #[.int .i64 (-1), .int .i64 z] 47)).alloc (.cells #[.int .i64 3, .int .i64 1, .int .i64 0, .int .i64 (-1), .slice (some ⟨u2.heap.size, 0, none⟩) 1 1, .slice none 0 0, .slice none 0 0] 25)) = U at *
  generalize u2.heap.size + 1 = X at *
  generalize u2.heap.size = Bd at *
  go_loopw [9, 10, 11, 12] (fun i _ _ _ wr => ∃ kk : Int, 0 ≤ kk ∧ kk ≤ 12 ∧ i = .int .i64 kk ∧ Below U.heap.size U wr) (fun i _ _ _ _ => (12 - intOf i).toNat)
  case atStart => exact ⟨0, by omega, by omega, rfl, start _⟩
  case round =>
    obtain ⟨kk, k0, k1, rfl, hbw⟩ := hrel
    have HBR := hide hbw
    clear hbw
    by_cases hlt : kk < 12
    · obtain ⟨x, hx, x0, x1, hxy, hxm, hxw, hxd⟩ := HX.out kk k0 (by omega)
      obtain ⟨d, hd⟩ : ∃ d, Cal.dOf x = d := ⟨_, rfl⟩
      obtain ⟨dv, hdv⟩ : ∃ dv, Cal.dim y (kk + 1) = dv := ⟨_, rfl⟩
      have db := Cal.dOf_bd x x0 x1
      have dvb := Cal.dim_bd y (kk + 1)
      rw [hd] at hxd db
      rw [hdv] at hxd dvb
      have HD := hide (And.intro hxy (And.intro hxm hd))
      have HW := hide hxw
      have HV := hide hdv
      have HDS := hide hx
      clear hx hxy hxm hxw hd hdv
      have g1 : (kk + 1 != kk + 1) = false := by simp
      have g2 : (y != y) = false := by simp
      have g3 : (z != z) = false := by simp
      have g4 : decide (d + 7 ≤ dv) = false := decide_eq_false (by omega)
      replace HL := hide (HL.out.keep HBR.out)
      replace s0 := cell_keep HBR.out s0
      replace s1 := cell_keep HBR.out s1
      replace s2 := cell_keep HBR.out s2
      replace s3 := cell_keep HBR.out s3
      replace s4 := cell_keep HBR.out s4
      replace s5 := cell_keep HBR.out s5
      replace s6 := cell_keep HBR.out s6
      go_wp2_with fail
      refine (of_any 3 1 0 (-1) (some ⟨Bd, 0, none⟩) none none 1 1 0 0 0 0 [(-1, z)] [] [] s kk _ HL.out).mono ?_
      rintro e v1 ⟨vv, rfl, hown, hb⟩
      rw [HDS.out] at hown
      obtain ⟨A, cap, rfl, hrow⟩ := hown.row
      obtain ⟨b1, o1, rfl, hb1, hcl⟩ := hrow (by simp)
      have p0 : v1.cell? ⟨b1, o1, none⟩ = some (.int .i64 x) := hcl 0 (by simp)
      replace HBR := hide (andthen HBR.out hb)
      replace HL := hide (HL.out.keep hb)
      replace s0 := cell_keep hb s0
      replace s1 := cell_keep hb s1
      replace s2 := cell_keep hb s2
      replace s3 := cell_keep hb s3
      replace s4 := cell_keep hb s4
      replace s5 := cell_keep hb s5
      replace s6 := cell_keep hb s6
      clear hb hown hrow hcl hb1
      go_wp2_with fail
      refine (R.rdate_is x y (kk + 1) d _ x0 x1 HD.out.1 HD.out.2.1 HD.out.2.2).mono ?_
      rintro e v2 ⟨rfl, hb⟩
      replace HBR := hide (andthen HBR.out hb)
      replace HL := hide (HL.out.keep hb)
      replace s0 := cell_keep hb s0
      replace s1 := cell_keep hb s1
      replace s2 := cell_keep hb s2
      replace s3 := cell_keep hb s3
      replace s4 := cell_keep hb s4
      replace s5 := cell_keep hb s5
      replace s6 := cell_keep hb s6
      replace p0 := cell_keep hb p0
      clear hb
      have hb := more (start v2) (.cells #[.int .i64 y, .int .i64 (kk + 1), .int .i64 d] 37)
      replace HBR := hide (andthen HBR.out hb)
      replace HL := hide (HL.out.keep hb)
      replace s0 := cell_keep hb s0
      replace s1 := cell_keep hb s1
      replace s2 := cell_keep hb s2
      replace s3 := cell_keep hb s3
      replace s4 := cell_keep hb s4
      replace s5 := cell_keep hb s5
      replace s6 := cell_keep hb s6
      replace p0 := cell_keep hb p0
      clear hb
      have t0 : (v2.alloc (.cells #[.int .i64 y, .int .i64 (kk + 1), .int .i64 d] 37)).cell? ⟨v2.heap.size, 0, none⟩ = some (.int .i64 y) := by rw [World.cell?_alloc_at _ _ _ _ rfl]; rfl
      have t1 : (v2.alloc (.cells #[.int .i64 y, .int .i64 (kk + 1), .int .i64 d] 37)).cell? ⟨v2.heap.size, 1, none⟩ = some (.int .i64 (kk + 1)) := by rw [World.cell?_alloc_at _ _ _ _ rfl]; rfl
      have t2 : (v2.alloc (.cells #[.int .i64 y, .int .i64 (kk + 1), .int .i64 d] 37)).cell? ⟨v2.heap.size, 2, none⟩ = some (.int .i64 d) := by rw [World.cell?_alloc_at _ _ _ _ rfl]; rfl
      go_wp2_with fail
      generalize (v2.alloc (.cells #[.int .i64 y, .int .i64 (kk + 1), .int .i64 d] 37)) = V at *
      generalize v2.heap.size = XD at *
      have fs0 := fun d os => cell_regrown s0 d os
      have fs1 := fun d os => cell_regrown s1 d os
      have fs2 := fun d os => cell_regrown s2 d os
      have fs3 := fun d os => cell_regrown s3 d os
      have fs4 := fun d os => cell_regrown s4 d os
      have fs5 := fun d os => cell_regrown s5 d os
      have fs6 := fun d os => cell_regrown s6 d os
      have fp0 := fun d os => cell_regrown p0 d os
      have ft0 := fun d os => cell_regrown t0 d os
      have ft1 := fun d os => cell_regrown t1 d os
      have ft2 := fun d os => cell_regrown t2 d os
      have L1 := hide (fun d os => Lies.keep HL.out (below_regrown V d os))
      have hbq := fun d os => below_regrown V d os
      refine wp_region_quiet_below (by kernel_rfl) (by kernel_rfl) ?_
      repeat (first | go_big_quiet_step ((first | (go_at_call 18; exact Calls.regrown_of (ans_same (R.rweekday_is x z _ HW.out))) | (go_at_call 20; exact Calls.regrown_of (ans_same (rlength_at y (kk + 1) dv _ HV.out))))) | quiet_step ((first | (go_at_call 18; exact Calls.regrown_of (ans_same (R.rweekday_is x z _ HW.out))) | (go_at_call 20; exact Calls.regrown_of (ans_same (rlength_at y (kk + 1) dv _ HV.out))))))
      refine wpQuiet_nil ?_
      intro _ hw'
      obtain ⟨⟨nq, osq⟩, hw''⟩ := hw'
      subst hw''
      have hb := hbq nq osq
      replace HBR := hide (andthen HBR.out hb)
      replace HL := hide (HL.out.keep hb)
      replace s0 := cell_keep hb s0
      replace s1 := cell_keep hb s1
      replace s2 := cell_keep hb s2
      replace s3 := cell_keep hb s3
      replace s4 := cell_keep hb s4
      replace s5 := cell_keep hb s5
      replace s6 := cell_keep hb s6
      replace p0 := cell_keep hb p0
      replace t0 := cell_keep hb t0
      replace t1 := cell_keep hb t1
      replace t2 := cell_keep hb t2
      clear hb hbq fs0 fs1 fs2 fs3 fs4 fs5 fs6 fp0 ft0 ft1 ft2 L1
      go_wp2_with fail
      go_roundw
      case rel => exact ⟨kk + 1, by omega, by omega, by go_num, HBR.out⟩
      case measure => simp [intOf]; omega
    · obtain rfl : kk = 12 := by omega
      go_wp2_with fail
      go_ret
      exact ⟨rfl, andthen HBX.out HBR.out⟩
theorem last5_any (yr q : Int) (w : World) (y0 : 0 ≤ yr) (y1 : yr ≤ 255) (q0 : 0 ≤ q) (q1 : q ≤ 255) :
    Calls Try.prog 7 #[.int .u8 yr, .int .u8 q] w (Ans w (.bool true)) := by
  obtain ⟨y, hy⟩ : ∃ y, yr % 100 + 2000 = y := ⟨_, rfl⟩
  obtain ⟨z, hz⟩ : ∃ z, q % 7 = z := ⟨_, rfl⟩
  have hn := fE_0 y 1 (by omega) (by omega) (by omega) (by omega)
  rw [fE_in y 1 (by omega)] at hn
  exact last_walk yr q y z _ w y0 y1 q0 q1 hy hz (hide hn) (hide fun kk a b => last_days y z _ kk (by omega) (by omega) (by omega) (by omega) a b rfl)

end Go.Proofs.Ytcjkghpcjjbjhaa

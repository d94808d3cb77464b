/- ExpandMany walked. Written by recipes/ex7.py. -/
import Derived.Test.YtdmplojfidkipaaExK
import Derived.Test.YtdmplojfidkipaaExMathC
namespace Go.Proofs.Ytdmplojfidkipaa
open Go.RowKit Rul Go.Sort Spn

set_option maxRecDepth 100000 in
set_option maxHeartbeats 2000000 in
theorem many_over (n q ev z : Int) (kN : Nat) (w : World) (_n0 : 0 ≤ n) (_n1 : n ≤ 255) (_q0 : 0 ≤ q) (_q1 : q ≤ 255) (hk : 39 + n % 3 = (kN : Int)) (he : q % 20 + 1 = ev) (hz : ((kN : Int) - 1) * (ev * 1440) = z) (_z0 : 0 ≤ z) (_z1 : z ≤ 1152000) (_hk : 40 < (kN : Int)) (HS : Hid (startsE (dayR ev 0 (z + 5)) 5 [] = ([], 13))) :
    Calls Try.prog 9 #[.int .u8 n, .int .u8 q] w (Ans w (.bool true)) := by
  have t1 : n.tmod 3 = n % 3 := Int.tmod_eq_emod_of_nonneg (by omega)
  have t2 : q.tmod 20 = q % 20 := Int.tmod_eq_emod_of_nonneg (by omega)
  go_enter Try.func9, Try.ntmps9
  go_wp2_with fail
  refine (known_any _).mono ?_
  rintro e u1 ⟨rfl, hb⟩
  have HBX := hide hb
  clear hb
  replace HBX := hide (more HBX.out (.cells #[.int .i64 1, .int .i64 ev, .int .i64 0, .int .i64 (z + 5), .slice none 0 0, .slice none 0 0, .slice none 0 0] 25))
  have s0 : (u1.alloc (.cells #[.int .i64 1, .int .i64 ev, .int .i64 0, .int .i64 (z + 5), .slice none 0 0, .slice none 0 0, .slice none 0 0] 25)).cell? ⟨u1.heap.size, 0, none⟩ = some (.int .i64 1) := by rw [World.cell?_alloc_at _ _ _ _ rfl]; rfl
  have s1 : (u1.alloc (.cells #[.int .i64 1, .int .i64 ev, .int .i64 0, .int .i64 (z + 5), .slice none 0 0, .slice none 0 0, .slice none 0 0] 25)).cell? ⟨u1.heap.size, 1, none⟩ = some (.int .i64 ev) := by rw [World.cell?_alloc_at _ _ _ _ rfl]; rfl
  have s2 : (u1.alloc (.cells #[.int .i64 1, .int .i64 ev, .int .i64 0, .int .i64 (z + 5), .slice none 0 0, .slice none 0 0, .slice none 0 0] 25)).cell? ⟨u1.heap.size, 2, none⟩ = some (.int .i64 0) := by rw [World.cell?_alloc_at _ _ _ _ rfl]; rfl
  have s3 : (u1.alloc (.cells #[.int .i64 1, .int .i64 ev, .int .i64 0, .int .i64 (z + 5), .slice none 0 0, .slice none 0 0, .slice none 0 0] 25)).cell? ⟨u1.heap.size, 3, none⟩ = some (.int .i64 (z + 5)) := by rw [World.cell?_alloc_at _ _ _ _ rfl]; rfl
  have s4 : (u1.alloc (.cells #[.int .i64 1, .int .i64 ev, .int .i64 0, .int .i64 (z + 5), .slice none 0 0, .slice none 0 0, .slice none 0 0] 25)).cell? ⟨u1.heap.size, 4, none⟩ = some (.slice none 0 0) := by rw [World.cell?_alloc_at _ _ _ _ rfl]; rfl
  have s5 : (u1.alloc (.cells #[.int .i64 1, .int .i64 ev, .int .i64 0, .int .i64 (z + 5), .slice none 0 0, .slice none 0 0, .slice none 0 0] 25)).cell? ⟨u1.heap.size, 5, none⟩ = some (.slice none 0 0) := by rw [World.cell?_alloc_at _ _ _ _ rfl]; rfl
  have s6 : (u1.alloc (.cells #[.int .i64 1, .int .i64 ev, .int .i64 0, .int .i64 (z + 5), .slice none 0 0, .slice none 0 0, .slice none 0 0] 25)).cell? ⟨u1.heap.size, 6, none⟩ = some (.slice none 0 0) := by rw [World.cell?_alloc_at _ _ _ _ rfl]; rfl
  go_wp2_with fail
  generalize (u1.alloc (.cells #[.int .i64 1, .int .i64 ev, .int .i64 0, .int .i64 (z + 5), .slice none 0 0, .slice none 0 0, .slice none 0 0] 25)) = W at *
  generalize u1.heap.size = X at *
  refine (starts_code 1 ev 0 (z + 5) none none none 0 0 0 0 0 0 [] [] [] 5 none 0 0 [] _ (lies_once _) (RowI.nil _ _) rfl (by simp)).mono ?_
  rintro e u2 ⟨v1, rfl, hown, hb⟩
  rw [HS.out] at hown ⊢
  obtain ⟨A, cap, hv, hrow⟩ := hown.row
  subst hv
  replace HBX := hide (andthen HBX.out hb)
  replace s0 := cell_keep hb s0
  replace s1 := cell_keep hb s1
  replace s2 := cell_keep hb s2
  replace s3 := cell_keep hb s3
  replace s4 := cell_keep hb s4
  replace s5 := cell_keep hb s5
  replace s6 := cell_keep hb s6
  clear hb hown hrow
  go_wp2_with fail
  refine (daily_any 1 _).mono ?_
  rintro e u1 ⟨rfl, hb⟩
  replace HBX := hide (andthen HBX.out hb)
  replace s0 := cell_keep hb s0
  replace s1 := cell_keep hb s1
  replace s2 := cell_keep hb s2
  replace s3 := cell_keep hb s3
  replace s4 := cell_keep hb s4
  replace s5 := cell_keep hb s5
  replace s6 := cell_keep hb s6
  clear hb
  go_wp2_with fail
  refine (spans_code 1 1 1 (-1) none none none 0 0 0 0 0 0 [] [] [] 52595990 11 none 0 0 [] _ (lies_once _) (RowI.nil _ _) rfl (by simp)).mono ?_
  rintro e u3 ⟨v2, rfl, hown, hb⟩
  rw [late_1] at hown ⊢
  replace HBX := hide (andthen HBX.out hb)
  replace s0 := cell_keep hb s0
  replace s1 := cell_keep hb s1
  replace s2 := cell_keep hb s2
  replace s3 := cell_keep hb s3
  replace s4 := cell_keep hb s4
  replace s5 := cell_keep hb s5
  replace s6 := cell_keep hb s6
  clear hb hown
  go_wp2_with fail
  refine (daily_any 5 _).mono ?_
  rintro e u2 ⟨rfl, hb⟩
  replace HBX := hide (andthen HBX.out hb)
  replace s0 := cell_keep hb s0
  replace s1 := cell_keep hb s1
  replace s2 := cell_keep hb s2
  replace s3 := cell_keep hb s3
  replace s4 := cell_keep hb s4
  replace s5 := cell_keep hb s5
  replace s6 := cell_keep hb s6
  clear hb
  go_wp2_with fail
  refine (spans_code 1 1 5 (-1) none none none 0 0 0 0 0 0 [] [] [] 52595990 10 none 0 0 [] _ (lies_once _) (RowI.nil _ _) rfl (by simp)).mono ?_
  rintro e u4 ⟨v3, rfl, hown, hb⟩
  rw [late_5] at hown ⊢
  obtain ⟨A3, c3, rfl, _⟩ := hown.row
  replace HBX := hide (andthen HBX.out hb)
  replace s0 := cell_keep hb s0
  replace s1 := cell_keep hb s1
  replace s2 := cell_keep hb s2
  replace s3 := cell_keep hb s3
  replace s4 := cell_keep hb s4
  replace s5 := cell_keep hb s5
  replace s6 := cell_keep hb s6
  clear hb hown
  go_wp2_with fail
  go_ret
  exact ⟨rfl, HBX.out⟩
set_option maxRecDepth 100000 in
set_option maxHeartbeats 2000000 in
theorem many_just (n q ev z : Int) (kN : Nat) (w : World) (_n0 : 0 ≤ n) (_n1 : n ≤ 255) (_q0 : 0 ≤ q) (_q1 : q ≤ 255) (hk : 39 + n % 3 = (kN : Int)) (he : q % 20 + 1 = ev) (hz : ((kN : Int) - 1) * (ev * 1440) = z) (_z0 : 0 ≤ z) (_z1 : z ≤ 1152000) (l : List Int) (_hk : (kN : Int) ≤ 40) (HS : Hid (startsE (dayR ev 0 (z + 5)) 5 [] = (l, 0))) (HLN : Hid (l.length = kN)) (mN : Nat) (Q3 : Hid ((kN : Int) - 1 = (mN : Int))) (HLL : Hid (∀ h : mN < l.length, l[mN] = z + 5)) :
    Calls Try.prog 9 #[.int .u8 n, .int .u8 q] w (Ans w (.bool true)) := by
  have t1 : n.tmod 3 = n % 3 := Int.tmod_eq_emod_of_nonneg (by omega)
  have t2 : q.tmod 20 = q % 20 := Int.tmod_eq_emod_of_nonneg (by omega)
  have q1 : ((kN : Int) == (kN : Int)) = true := by simp
  have q2 : (z + 5 == z + 5) = true := by simp
  go_enter Try.func9, Try.ntmps9
  go_wp2_with fail
  refine (known_any _).mono ?_
  rintro e u1 ⟨rfl, hb⟩
  have HBX := hide hb
  clear hb
  replace HBX := hide (more HBX.out (.cells #[.int .i64 1, .int .i64 ev, .int .i64 0, .int .i64 (z + 5), .slice none 0 0, .slice none 0 0, .slice none 0 0] 25))
  have s0 : (u1.alloc (.cells #[.int .i64 1, .int .i64 ev, .int .i64 0, .int .i64 (z + 5), .slice none 0 0, .slice none 0 0, .slice none 0 0] 25)).cell? ⟨u1.heap.size, 0, none⟩ = some (.int .i64 1) := by rw [World.cell?_alloc_at _ _ _ _ rfl]; rfl
  have s1 : (u1.alloc (.cells #[.int .i64 1, .int .i64 ev, .int .i64 0, .int .i64 (z + 5), .slice none 0 0, .slice none 0 0, .slice none 0 0] 25)).cell? ⟨u1.heap.size, 1, none⟩ = some (.int .i64 ev) := by rw [World.cell?_alloc_at _ _ _ _ rfl]; rfl
  have s2 : (u1.alloc (.cells #[.int .i64 1, .int .i64 ev, .int .i64 0, .int .i64 (z + 5), .slice none 0 0, .slice none 0 0, .slice none 0 0] 25)).cell? ⟨u1.heap.size, 2, none⟩ = some (.int .i64 0) := by rw [World.cell?_alloc_at _ _ _ _ rfl]; rfl
  have s3 : (u1.alloc (.cells #[.int .i64 1, .int .i64 ev, .int .i64 0, .int .i64 (z + 5), .slice none 0 0, .slice none 0 0, .slice none 0 0] 25)).cell? ⟨u1.heap.size, 3, none⟩ = some (.int .i64 (z + 5)) := by rw [World.cell?_alloc_at _ _ _ _ rfl]; rfl
  have s4 : (u1.alloc (.cells #[.int .i64 1, .int .i64 ev, .int .i64 0, .int .i64 (z + 5), .slice none 0 0, .slice none 0 0, .slice none 0 0] 25)).cell? ⟨u1.heap.size, 4, none⟩ = some (.slice none 0 0) := by rw [World.cell?_alloc_at _ _ _ _ rfl]; rfl
  have s5 : (u1.alloc (.cells #[.int .i64 1, .int .i64 ev, .int .i64 0, .int .i64 (z + 5), .slice none 0 0, .slice none 0 0, .slice none 0 0] 25)).cell? ⟨u1.heap.size, 5, none⟩ = some (.slice none 0 0) := by rw [World.cell?_alloc_at _ _ _ _ rfl]; rfl
  have s6 : (u1.alloc (.cells #[.int .i64 1, .int .i64 ev, .int .i64 0, .int .i64 (z + 5), .slice none 0 0, .slice none 0 0, .slice none 0 0] 25)).cell? ⟨u1.heap.size, 6, none⟩ = some (.slice none 0 0) := by rw [World.cell?_alloc_at _ _ _ _ rfl]; rfl
  go_wp2_with fail
  generalize (u1.alloc (.cells #[.int .i64 1, .int .i64 ev, .int .i64 0, .int .i64 (z + 5), .slice none 0 0, .slice none 0 0, .slice none 0 0] 25)) = W at *
  generalize u1.heap.size = X at *
  refine (starts_code 1 ev 0 (z + 5) none none none 0 0 0 0 0 0 [] [] [] 5 none 0 0 [] _ (lies_once _) (RowI.nil _ _) rfl (by simp)).mono ?_
  rintro e u2 ⟨v1, rfl, hown, hb⟩
  rw [HS.out] at hown ⊢
  obtain ⟨A, cap, hv, hrow⟩ := hown.row
  rw [HLN.out] at hv
  subst hv
  obtain ⟨b1, o1, rfl, hb1, hc1⟩ := hrow (by intro (h0 : l = []); have h3 := HLN.out; rw [h0] at h3; simp only [List.length_nil] at h3; omega)
  have hml : mN < l.length := by have := HLN.out; have := Q3.out; omega
  have p1 : u2.cell? ⟨b1, o1 + mN, none⟩ = some (.int .i64 (z + 5)) := by rw [← HLL.out hml]; exact hc1 mN hml
  clear hml
  replace HBX := hide (andthen HBX.out hb)
  replace s0 := cell_keep hb s0
  replace s1 := cell_keep hb s1
  replace s2 := cell_keep hb s2
  replace s3 := cell_keep hb s3
  replace s4 := cell_keep hb s4
  replace s5 := cell_keep hb s5
  replace s6 := cell_keep hb s6
  clear hb hown hrow hc1 hb1
  go_wp2_with fail
  refine (daily_any 1 _).mono ?_
  rintro e u1 ⟨rfl, hb⟩
  replace HBX := hide (andthen HBX.out hb)
  replace s0 := cell_keep hb s0
  replace s1 := cell_keep hb s1
  replace s2 := cell_keep hb s2
  replace s3 := cell_keep hb s3
  replace s4 := cell_keep hb s4
  replace s5 := cell_keep hb s5
  replace s6 := cell_keep hb s6
  replace p1 := cell_keep hb p1
  clear hb
  go_wp2_with fail
  refine (spans_code 1 1 1 (-1) none none none 0 0 0 0 0 0 [] [] [] 52595990 11 none 0 0 [] _ (lies_once _) (RowI.nil _ _) rfl (by simp)).mono ?_
  rintro e u3 ⟨v2, rfl, hown, hb⟩
  rw [late_1] at hown ⊢
  replace HBX := hide (andthen HBX.out hb)
  replace s0 := cell_keep hb s0
  replace s1 := cell_keep hb s1
  replace s2 := cell_keep hb s2
  replace s3 := cell_keep hb s3
  replace s4 := cell_keep hb s4
  replace s5 := cell_keep hb s5
  replace s6 := cell_keep hb s6
  replace p1 := cell_keep hb p1
  clear hb hown
  go_wp2_with fail
  refine (daily_any 5 _).mono ?_
  rintro e u2 ⟨rfl, hb⟩
  replace HBX := hide (andthen HBX.out hb)
  replace s0 := cell_keep hb s0
  replace s1 := cell_keep hb s1
  replace s2 := cell_keep hb s2
  replace s3 := cell_keep hb s3
  replace s4 := cell_keep hb s4
  replace s5 := cell_keep hb s5
  replace s6 := cell_keep hb s6
  replace p1 := cell_keep hb p1
  clear hb
  go_wp2_with fail
  refine (spans_code 1 1 5 (-1) none none none 0 0 0 0 0 0 [] [] [] 52595990 10 none 0 0 [] _ (lies_once _) (RowI.nil _ _) rfl (by simp)).mono ?_
  rintro e u4 ⟨v3, rfl, hown, hb⟩
  rw [late_5] at hown ⊢
  obtain ⟨A3, c3, rfl, _⟩ := hown.row
  replace HBX := hide (andthen HBX.out hb)
  replace s0 := cell_keep hb s0
  replace s1 := cell_keep hb s1
  replace s2 := cell_keep hb s2
  replace s3 := cell_keep hb s3
  replace s4 := cell_keep hb s4
  replace s5 := cell_keep hb s5
  replace s6 := cell_keep hb s6
  replace p1 := cell_keep hb p1
  clear hb hown
  have q3 := Q3.out
  have q4 : (0 : Int) ≤ (mN : Int) := by omega
  have q5 : (mN : Int) < (kN : Int) := by omega
  have q7 : wrap64 (mN : Int) = (mN : Int) := wrap64_id _ (by unfold I64; omega)
  clear hz he hk t1 t2 _n0 _n1 _q0 _q1 HLL HLN HS
  go_wp2_with fail
  have fs0 := fun d os => cell_regrown s0 d os
  have fs1 := fun d os => cell_regrown s1 d os
  have fs2 := fun d os => cell_regrown s2 d os
  have fs3 := fun d os => cell_regrown s3 d os
  have fs4 := fun d os => cell_regrown s4 d os
  have fs5 := fun d os => cell_regrown s5 d os
  have fs6 := fun d os => cell_regrown s6 d os
  have fp1 := fun d os => cell_regrown p1 d os
  have hbq := fun d os => below_regrown u4 d os
  refine wp_region_quiet_below (by kernel_rfl) (by kernel_rfl) ?_
  repeat (first | go_big_quiet_step ((first | (fail))) | quiet_step ((first | (fail))))
  refine wpQuiet_nil ?_
  intro _ hw'
  obtain ⟨⟨nq, osq⟩, hw''⟩ := hw'
  subst hw''
  have hb := hbq nq osq
  replace HBX := hide (andthen HBX.out hb)
  replace s0 := cell_keep hb s0
  replace s1 := cell_keep hb s1
  replace s2 := cell_keep hb s2
  replace s3 := cell_keep hb s3
  replace s4 := cell_keep hb s4
  replace s5 := cell_keep hb s5
  replace s6 := cell_keep hb s6
  replace p1 := cell_keep hb p1
  clear hb hbq fs0 fs1 fs2 fs3 fs4 fs5 fs6 fp1
  go_wp2_with fail
  go_ret
  exact ⟨rfl, HBX.out⟩
theorem many6_any (n q : Int) (w : World) (n0 : 0 ≤ n) (n1 : n ≤ 255) (q0 : 0 ≤ q) (q1 : q ≤ 255) :
    Calls Try.prog 9 #[.int .u8 n, .int .u8 q] w (Ans w (.bool true)) := by
  obtain ⟨kN, hk⟩ : ∃ kN : Nat, 39 + n % 3 = (kN : Int) := ⟨(39 + n % 3).toNat, by omega⟩
  obtain ⟨ev, he⟩ : ∃ ev, q % 20 + 1 = ev := ⟨_, rfl⟩
  obtain ⟨z, hz⟩ : ∃ z, ((kN : Int) - 1) * (ev * 1440) = z := ⟨_, rfl⟩
  have z0 : 0 ≤ z := by rw [← hz]; exact Int.mul_nonneg (by omega) (by omega)
  have z1 : z ≤ 1152000 := by
    have a : ((kN : Int) - 1) * (ev * 1440) ≤ ((kN : Int) - 1) * 28800 := Int.mul_le_mul_of_nonneg_left (by omega) (by omega)
    omega
  have hm := many_starts ev (z + 5) kN (by omega) (by omega) (by omega) (by omega) (by rw [hz])
  by_cases h : 40 < kN
  · exact many_over n q ev z kN w n0 n1 q0 q1 hk he hz z0 z1 (by omega) (hide (hm.1 h))
  · refine many_just n q ev z kN w n0 n1 q0 q1 hk he hz z0 z1 _ (by omega) (hide (hm.2 (by omega))) (hide (by simp)) (kN - 1) (hide (by omega)) (hide fun hh => ?_)
    simp only [List.getElem_map, List.getElem_range]
    rw [show ((kN - 1 : Nat) : Int) = (kN : Int) - 1 by omega, ← hz, Int.mul_comm ev, Int.mul_assoc]; omega

end Go.Proofs.Ytdmplojfidkipaa

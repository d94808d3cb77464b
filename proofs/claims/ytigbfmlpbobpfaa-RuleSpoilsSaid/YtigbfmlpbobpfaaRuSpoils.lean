/- RuleSpoils walked: something that may not be makes a rule none. -/
import Derived.Test.YtigbfmlpbobpfaaRuY
import Derived.Test.YtigbfmlpbobpfaaRuTells
namespace Go.Proofs.Ytigbfmlpbobpfaa
open Go.RowKit Rul Go.Sort

theorem rng_iff' (fr ev ct un : Int) : rngB fr ev ct un = true ↔ 1 ≤ fr ∧ fr ≤ 4 ∧ 1 ≤ ev ∧ ev ≤ 100 ∧ 0 ≤ ct ∧ ct ≤ 40 ∧ -1 ≤ un ∧ un ≤ 52595999 ∧ (ct = 0 ∨ un = -1) := by
  unfold rngB; simp only [Bool.and_eq_true, Bool.or_eq_true, btw_iff, beq_iff_eq, and_assoc]
theorem bad_nums (fr ev ct un : Int) (ds : List Wd) (ms ys : List Int) (h : ¬ (1 ≤ fr ∧ fr ≤ 4 ∧ 1 ≤ ev ∧ ev ≤ 100 ∧ 0 ≤ ct ∧ ct ≤ 40 ∧ -1 ≤ un ∧ un ≤ 52595999 ∧ (ct = 0 ∨ un = -1))) : recB ⟨fr, ev, ct, un, ds, ms, ys⟩ = false := by
  have : rngB fr ev ct un = false := by rw [← Bool.not_eq_true, rng_iff']; exact h
  rw [recB_is, this]; rfl
theorem bad_ys (fr ev ct un : Int) (ds : List Wd) (ms ys : List Int) : recB ⟨fr, ev, ct, un, ds, ms, [] ++ ys ++ [13]⟩ = false := by
  have h : listB moOk inLt 0 ([] ++ ys ++ [13]) = false := listB_no _ _ _ _ ys.length (by simp) (stepB_p _ _ _ _ _ (by simp) (by
    rw [show ([] ++ ys ++ [13])[ys.length]'(by simp) = 13 by simp]; rfl))
  rw [recB_is]; unfold welB; rw [h]; simp
theorem bad_ms (fr ev ct un : Int) (ds : List Wd) (ms ys : List Int) : recB ⟨fr, ev, ct, un, ds, [-32] ++ ms, ys⟩ = false := by
  have h : listB mdOk inLt 0 ([-32] ++ ms) = false := listB_no _ _ _ _ 0 (by simp) (stepB_p _ _ _ _ _ (by simp) (by rfl))
  rw [recB_is]; unfold welB; rw [h]; simp
theorem bad_ds (fr ev ct un : Int) (ds : List Wd) (ms ys : List Int) : recB ⟨fr, ev, ct, un, [] ++ ds ++ [(6, 0)], ms, ys⟩ = false := by
  have h : listB wdOk wdLt (0, 0) ([] ++ ds ++ [(6, 0)]) = false := listB_no _ _ _ _ ds.length (by simp) (stepB_p _ _ _ _ _ (by simp) (by
    rw [show ([] ++ ds ++ [((6 : Int), (0 : Int))])[ds.length]'(by simp) = (6, 0) by simp]; rfl))
  rw [recB_is]; unfold welB; rw [h]; simp
theorem spoilt_is (q : Rul.T) (h0 : q.fr ≠ 0) (h : recB q = false) : isB q = false := by rw [isB_1 q h0]; exact h
theorem spoilt_fits (q : Rul.T) (d : Int) (h : recB q = false) : fitsB q d = false := by unfold fitsB; rw [h]; simp
theorem spoilt_same (r q : Rul.T) (hr : recB r = true) (h : recB q = false) : sameB r q = false := by
  rw [Bool.eq_false_iff]; intro hc; rw [sameB_iff] at hc; rw [hc, h] at hr; cases hr
abbrev Zer (D M Y : Option Addr) (dc mc yc : Nat) : Prop := (D = none → dc = 0) ∧ (M = none → mc = 0) ∧ (Y = none → yc = 0)

set_option maxRecDepth 100000 in
set_option maxHeartbeats 2000000 in
theorem spoils_0 (fr ev ct un : Int) (D M Y : Option Addr) (dn dc mn mc yn yc : Nat) (ds : List Wd) (ms ys : List Int) (x : Int) (w : World) (x1 : 0 ≤ x) (x2 : x ≤ 255) (h : Lies w D dn M mn Y yn ds ms ys) (_hz : Zer D M Y dc mc yc) (_h20 : ds.length ≤ 20 ∧ ms.length ≤ 20 ∧ ys.length ≤ 20) (hfew : fewB dn mn yn = true) (his : isB ⟨fr, ev, ct, un, ds, ms, ys⟩ = true) (h0 : fr ≠ 0) (hq : x % 7 = 0) :
    Calls Try.prog 4 #[.agg #[.int .i64 fr, .int .i64 ev, .int .i64 ct, .int .i64 un, .slice D dn dc, .slice M mn mc, .slice Y yn yc], .int .u8 x] w (Ans w (.bool true)) := by
  have hrec : recB ⟨fr, ev, ct, un, ds, ms, ys⟩ = true := by rw [← isB_1 ⟨fr, ev, ct, un, ds, ms, ys⟩ h0]; exact his
  have hsp : recB ⟨5, ev, ct, un, ds, ms, ys⟩ = false := bad_nums 5 ev ct un ds ms ys (by omega)
  have HN1 := hide (spoilt_is ⟨5, ev, ct, un, ds, ms, ys⟩ (by show (5 : Int) ≠ 0; decide) hsp)
  have HN2 := hide (spoilt_fits ⟨5, ev, ct, un, ds, ms, ys⟩ 100 hsp)
  have HN3 := hide (spoilt_same ⟨fr, ev, ct, un, ds, ms, ys⟩ ⟨5, ev, ct, un, ds, ms, ys⟩ hrec hsp)
  have HIS := hide his
  have HX7 := hide hq
  have HFEW := hide hfew
  have g0 : (fr == 0) = false := by rw [beq_eq_false_iff_ne]; exact h0
  have HBX := hide (more (start w) (.cells #[.int .i64 fr, .int .i64 ev, .int .i64 ct, .int .i64 un, .slice D dn dc, .slice M mn mc, .slice Y yn yc] 25))
  have s0 : (w.alloc (.cells #[.int .i64 fr, .int .i64 ev, .int .i64 ct, .int .i64 un, .slice D dn dc, .slice M mn mc, .slice Y yn yc] 25)).cell? ⟨w.heap.size, 0, none⟩ = some (.int .i64 fr) := by rw [World.cell?_alloc_at _ _ _ _ rfl]; rfl
  have s1 : (w.alloc (.cells #[.int .i64 fr, .int .i64 ev, .int .i64 ct, .int .i64 un, .slice D dn dc, .slice M mn mc, .slice Y yn yc] 25)).cell? ⟨w.heap.size, 1, none⟩ = some (.int .i64 ev) := by rw [World.cell?_alloc_at _ _ _ _ rfl]; rfl
  have s2 : (w.alloc (.cells #[.int .i64 fr, .int .i64 ev, .int .i64 ct, .int .i64 un, .slice D dn dc, .slice M mn mc, .slice Y yn yc] 25)).cell? ⟨w.heap.size, 2, none⟩ = some (.int .i64 ct) := by rw [World.cell?_alloc_at _ _ _ _ rfl]; rfl
  have s3 : (w.alloc (.cells #[.int .i64 fr, .int .i64 ev, .int .i64 ct, .int .i64 un, .slice D dn dc, .slice M mn mc, .slice Y yn yc] 25)).cell? ⟨w.heap.size, 3, none⟩ = some (.int .i64 un) := by rw [World.cell?_alloc_at _ _ _ _ rfl]; rfl
  have s4 : (w.alloc (.cells #[.int .i64 fr, .int .i64 ev, .int .i64 ct, .int .i64 un, .slice D dn dc, .slice M mn mc, .slice Y yn yc] 25)).cell? ⟨w.heap.size, 4, none⟩ = some (.slice D dn dc) := by rw [World.cell?_alloc_at _ _ _ _ rfl]; rfl
  have s5 : (w.alloc (.cells #[.int .i64 fr, .int .i64 ev, .int .i64 ct, .int .i64 un, .slice D dn dc, .slice M mn mc, .slice Y yn yc] 25)).cell? ⟨w.heap.size, 5, none⟩ = some (.slice M mn mc) := by rw [World.cell?_alloc_at _ _ _ _ rfl]; rfl
  have s6 : (w.alloc (.cells #[.int .i64 fr, .int .i64 ev, .int .i64 ct, .int .i64 un, .slice D dn dc, .slice M mn mc, .slice Y yn yc] 25)).cell? ⟨w.heap.size, 6, none⟩ = some (.slice Y yn yc) := by rw [World.cell?_alloc_at _ _ _ _ rfl]; rfl
  have HL := hide (h.keep HBX.out)
  clear h his hq hfew h0 hrec hsp
  go_enter Try.func4, Try.ntmps4
  go_wp2_with fail
  refine (known_any _).mono ?_
  rintro e w1 ⟨rfl, hb1⟩
  replace HBX := hide (andthen HBX.out hb1)
  replace HL := hide (HL.out.keep hb1)
  replace s0 := cell_keep hb1 s0
  replace s1 := cell_keep hb1 s1
  replace s2 := cell_keep hb1 s2
  replace s3 := cell_keep hb1 s3
  replace s4 := cell_keep hb1 s4
  replace s5 := cell_keep hb1 s5
  replace s6 := cell_keep hb1 s6
  clear hb1
  go_wp2_with fail
  refine (ans_is (few_any fr ev ct un D M Y dn dc mn mc yn yc _) HFEW.out).mono ?_
  rintro e w2 ⟨rfl, hb1⟩
  replace HBX := hide (andthen HBX.out hb1)
  replace HL := hide (HL.out.keep hb1)
  replace s0 := cell_keep hb1 s0
  replace s1 := cell_keep hb1 s1
  replace s2 := cell_keep hb1 s2
  replace s3 := cell_keep hb1 s3
  replace s4 := cell_keep hb1 s4
  replace s5 := cell_keep hb1 s5
  replace s6 := cell_keep hb1 s6
  clear hb1
  go_wp2_with fail
  refine (ans_is (is_any fr ev ct un D M Y dn dc mn mc yn yc ds ms ys _ HL.out) HIS.out).mono ?_
  rintro e w3 ⟨rfl, hb1⟩
  have HBW := hide (andthen HBX.out hb1)
  replace HL := hide (HL.out.keep hb1)
  replace s0 := cell_keep hb1 s0
  replace s1 := cell_keep hb1 s1
  replace s2 := cell_keep hb1 s2
  replace s3 := cell_keep hb1 s3
  replace s4 := cell_keep hb1 s4
  replace s5 := cell_keep hb1 s5
  replace s6 := cell_keep hb1 s6
  clear hb1 HBX
  have x0 : (x % 7 == 0) = true := by rw [HX7.out]; rfl
  have x1 : (x % 7 == 1) = false := by rw [HX7.out]; rfl
  have x2 : (x % 7 == 2) = false := by rw [HX7.out]; rfl
  have x3 : (x % 7 == 3) = false := by rw [HX7.out]; rfl
  have x4 : (x % 7 == 4) = false := by rw [HX7.out]; rfl
  have x5 : (x % 7 == 5) = false := by rw [HX7.out]; rfl
  have HQ := hide (bq_new w3 (.int .i64 fr) (.int .i64 ev) (.int .i64 ct) (.int .i64 un) (.slice D dn dc) (.slice M mn mc) (.slice Y yn yc) 25)
  have HB0 := hide (more (start w3) (.cells #[.int .i64 fr, .int .i64 ev, .int .i64 ct, .int .i64 un, .slice D dn dc, .slice M mn mc, .slice Y yn yc] 25))
  have hXge : w.heap.size ≤ w3.heap.size := HBW.out.size
  have hXlt : w.heap.size < w3.heap.size := block_lt_of_cell s0
  have HL2 := hide (HL.out.keep HB0.out)
  have t0 := cell_keep HB0.out s0
  have t1 := cell_keep HB0.out s1
  have t2 := cell_keep HB0.out s2
  have t3 := cell_keep HB0.out s3
  have t4 := cell_keep HB0.out s4
  have t5 := cell_keep HB0.out s5
  have t6 := cell_keep HB0.out s6
  have q0 := HQ.out.c0
  have q1 := HQ.out.c1
  have q2 := HQ.out.c2
  have q3 := HQ.out.c3
  have q4 := HQ.out.c4
  have q5 := HQ.out.c5
  have q6 := HQ.out.c6
  have qf := HQ.out.f
  go_upto_region 6 with (fail)
  generalize w3.alloc (.cells #[.int .i64 fr, .int .i64 ev, .int .i64 ct, .int .i64 un, .slice D dn dc, .slice M mn mc, .slice Y yn yc] 25) = W1 at *
  go_wp2_with fail
  have HQ2 := hide ((HQ.out).set0 (.int .i64 5))
  have HB1 := hide (Below.setCell HB0.out (p := ⟨w3.heap.size, 0, none⟩) (Nat.le_refl _) (.int .i64 5))
  clear HQ HB0 HL2 q0 q1 q2 q3 q4 q5 q6 qf
  generalize (W1.setCell ⟨w3.heap.size, 0, none⟩ (.int .i64 5)) = V at *
  have q0 := HQ2.out.c0
  have q1 := HQ2.out.c1
  have q2 := HQ2.out.c2
  have q3 := HQ2.out.c3
  have q4 := HQ2.out.c4
  have q5 := HQ2.out.c5
  have q6 := HQ2.out.c6
  replace HL := hide (HL.out.keep HB1.out)
  have HLQ := HL
  replace s0 := cell_keep HB1.out s0
  replace s1 := cell_keep HB1.out s1
  replace s2 := cell_keep HB1.out s2
  replace s3 := cell_keep HB1.out s3
  replace s4 := cell_keep HB1.out s4
  replace s5 := cell_keep HB1.out s5
  replace s6 := cell_keep HB1.out s6
  have HBX := hide (andthen HBW.out HB1.out)
  clear HB1 HQ2
  refine (ans_is (is_any 5 ev ct un D M Y dn dc mn mc yn yc ds ms ys _ HLQ.out) HN1.out).mono ?_
  rintro e u0 ⟨rfl, hb0⟩
  replace HBX := hide (andthen HBX.out hb0)
  replace HL := hide (HL.out.keep hb0)
  replace HLQ := hide (HLQ.out.keep hb0)
  replace s0 := cell_keep hb0 s0
  replace s1 := cell_keep hb0 s1
  replace s2 := cell_keep hb0 s2
  replace s3 := cell_keep hb0 s3
  replace s4 := cell_keep hb0 s4
  replace s5 := cell_keep hb0 s5
  replace s6 := cell_keep hb0 s6
  replace q0 := cell_keep hb0 q0
  replace q1 := cell_keep hb0 q1
  replace q2 := cell_keep hb0 q2
  replace q3 := cell_keep hb0 q3
  replace q4 := cell_keep hb0 q4
  replace q5 := cell_keep hb0 q5
  replace q6 := cell_keep hb0 q6
  clear hb0
  go_wp2_with fail
  refine (ans_is (fits_any 5 ev ct un D M Y dn dc mn mc yn yc ds ms ys 100 _ HLQ.out) HN2.out).mono ?_
  rintro e u1 ⟨rfl, hb1⟩
  replace HBX := hide (andthen HBX.out hb1)
  replace HL := hide (HL.out.keep hb1)
  replace HLQ := hide (HLQ.out.keep hb1)
  replace s0 := cell_keep hb1 s0
  replace s1 := cell_keep hb1 s1
  replace s2 := cell_keep hb1 s2
  replace s3 := cell_keep hb1 s3
  replace s4 := cell_keep hb1 s4
  replace s5 := cell_keep hb1 s5
  replace s6 := cell_keep hb1 s6
  replace q0 := cell_keep hb1 q0
  replace q1 := cell_keep hb1 q1
  replace q2 := cell_keep hb1 q2
  replace q3 := cell_keep hb1 q3
  replace q4 := cell_keep hb1 q4
  replace q5 := cell_keep hb1 q5
  replace q6 := cell_keep hb1 q6
  clear hb1
  go_wp2_with fail
  refine (ans_is (same_any fr ev ct un D M Y dn dc mn mc yn yc 5 ev ct un D M Y dn dc mn mc yn yc ds ms ys ds ms ys _ HL.out HLQ.out) HN3.out).mono ?_
  rintro e u2 ⟨rfl, hb2⟩
  replace HBX := hide (andthen HBX.out hb2)
  replace HL := hide (HL.out.keep hb2)
  replace HLQ := hide (HLQ.out.keep hb2)
  replace s0 := cell_keep hb2 s0
  replace s1 := cell_keep hb2 s1
  replace s2 := cell_keep hb2 s2
  replace s3 := cell_keep hb2 s3
  replace s4 := cell_keep hb2 s4
  replace s5 := cell_keep hb2 s5
  replace s6 := cell_keep hb2 s6
  replace q0 := cell_keep hb2 q0
  replace q1 := cell_keep hb2 q1
  replace q2 := cell_keep hb2 q2
  replace q3 := cell_keep hb2 q3
  replace q4 := cell_keep hb2 q4
  replace q5 := cell_keep hb2 q5
  replace q6 := cell_keep hb2 q6
  clear hb2
  go_wp2_with fail
  go_ret
  exact ⟨rfl, HBX.out⟩

set_option maxRecDepth 100000 in
set_option maxHeartbeats 2000000 in
theorem spoils_1 (fr ev ct un : Int) (D M Y : Option Addr) (dn dc mn mc yn yc : Nat) (ds : List Wd) (ms ys : List Int) (x : Int) (w : World) (x1 : 0 ≤ x) (x2 : x ≤ 255) (h : Lies w D dn M mn Y yn ds ms ys) (_hz : Zer D M Y dc mc yc) (_h20 : ds.length ≤ 20 ∧ ms.length ≤ 20 ∧ ys.length ≤ 20) (hfew : fewB dn mn yn = true) (his : isB ⟨fr, ev, ct, un, ds, ms, ys⟩ = true) (h0 : fr ≠ 0) (hq : x % 7 = 1) :
    Calls Try.prog 4 #[.agg #[.int .i64 fr, .int .i64 ev, .int .i64 ct, .int .i64 un, .slice D dn dc, .slice M mn mc, .slice Y yn yc], .int .u8 x] w (Ans w (.bool true)) := by
  have hrec : recB ⟨fr, ev, ct, un, ds, ms, ys⟩ = true := by rw [← isB_1 ⟨fr, ev, ct, un, ds, ms, ys⟩ h0]; exact his
  have hsp : recB ⟨fr, 0, ct, un, ds, ms, ys⟩ = false := bad_nums fr 0 ct un ds ms ys (by omega)
  have HN1 := hide (spoilt_is ⟨fr, 0, ct, un, ds, ms, ys⟩ (by exact h0) hsp)
  have HN2 := hide (spoilt_fits ⟨fr, 0, ct, un, ds, ms, ys⟩ 100 hsp)
  have HN3 := hide (spoilt_same ⟨fr, ev, ct, un, ds, ms, ys⟩ ⟨fr, 0, ct, un, ds, ms, ys⟩ hrec hsp)
  have HIS := hide his
  have HX7 := hide hq
  have HFEW := hide hfew
  have g0 : (fr == 0) = false := by rw [beq_eq_false_iff_ne]; exact h0
  have HBX := hide (more (start w) (.cells #[.int .i64 fr, .int .i64 ev, .int .i64 ct, .int .i64 un, .slice D dn dc, .slice M mn mc, .slice Y yn yc] 25))
  have s0 : (w.alloc (.cells #[.int .i64 fr, .int .i64 ev, .int .i64 ct, .int .i64 un, .slice D dn dc, .slice M mn mc, .slice Y yn yc] 25)).cell? ⟨w.heap.size, 0, none⟩ = some (.int .i64 fr) := by rw [World.cell?_alloc_at _ _ _ _ rfl]; rfl
  have s1 : (w.alloc (.cells #[.int .i64 fr, .int .i64 ev, .int .i64 ct, .int .i64 un, .slice D dn dc, .slice M mn mc, .slice Y yn yc] 25)).cell? ⟨w.heap.size, 1, none⟩ = some (.int .i64 ev) := by rw [World.cell?_alloc_at _ _ _ _ rfl]; rfl
  have s2 : (w.alloc (.cells #[.int .i64 fr, .int .i64 ev, .int .i64 ct, .int .i64 un, .slice D dn dc, .slice M mn mc, .slice Y yn yc] 25)).cell? ⟨w.heap.size, 2, none⟩ = some (.int .i64 ct) := by rw [World.cell?_alloc_at _ _ _ _ rfl]; rfl
  have s3 : (w.alloc (.cells #[.int .i64 fr, .int .i64 ev, .int .i64 ct, .int .i64 un, .slice D dn dc, .slice M mn mc, .slice Y yn yc] 25)).cell? ⟨w.heap.size, 3, none⟩ = some (.int .i64 un) := by rw [World.cell?_alloc_at _ _ _ _ rfl]; rfl
  have s4 : (w.alloc (.cells #[.int .i64 fr, .int .i64 ev, .int .i64 ct, .int .i64 un, .slice D dn dc, .slice M mn mc, .slice Y yn yc] 25)).cell? ⟨w.heap.size, 4, none⟩ = some (.slice D dn dc) := by rw [World.cell?_alloc_at _ _ _ _ rfl]; rfl
  have s5 : (w.alloc (.cells #[.int .i64 fr, .int .i64 ev, .int .i64 ct, .int .i64 un, .slice D dn dc, .slice M mn mc, .slice Y yn yc] 25)).cell? ⟨w.heap.size, 5, none⟩ = some (.slice M mn mc) := by rw [World.cell?_alloc_at _ _ _ _ rfl]; rfl
  have s6 : (w.alloc (.cells #[.int .i64 fr, .int .i64 ev, .int .i64 ct, .int .i64 un, .slice D dn dc, .slice M mn mc, .slice Y yn yc] 25)).cell? ⟨w.heap.size, 6, none⟩ = some (.slice Y yn yc) := by rw [World.cell?_alloc_at _ _ _ _ rfl]; rfl
  have HL := hide (h.keep HBX.out)
  clear h his hq hfew h0 hrec hsp
  go_enter Try.func4, Try.ntmps4
  go_wp2_with fail
  refine (known_any _).mono ?_
  rintro e w1 ⟨rfl, hb1⟩
  replace HBX := hide (andthen HBX.out hb1)
  replace HL := hide (HL.out.keep hb1)
  replace s0 := cell_keep hb1 s0
  replace s1 := cell_keep hb1 s1
  replace s2 := cell_keep hb1 s2
  replace s3 := cell_keep hb1 s3
  replace s4 := cell_keep hb1 s4
  replace s5 := cell_keep hb1 s5
  replace s6 := cell_keep hb1 s6
  clear hb1
  go_wp2_with fail
  refine (ans_is (few_any fr ev ct un D M Y dn dc mn mc yn yc _) HFEW.out).mono ?_
  rintro e w2 ⟨rfl, hb1⟩
  replace HBX := hide (andthen HBX.out hb1)
  replace HL := hide (HL.out.keep hb1)
  replace s0 := cell_keep hb1 s0
  replace s1 := cell_keep hb1 s1
  replace s2 := cell_keep hb1 s2
  replace s3 := cell_keep hb1 s3
  replace s4 := cell_keep hb1 s4
  replace s5 := cell_keep hb1 s5
  replace s6 := cell_keep hb1 s6
  clear hb1
  go_wp2_with fail
  refine (ans_is (is_any fr ev ct un D M Y dn dc mn mc yn yc ds ms ys _ HL.out) HIS.out).mono ?_
  rintro e w3 ⟨rfl, hb1⟩
  have HBW := hide (andthen HBX.out hb1)
  replace HL := hide (HL.out.keep hb1)
  replace s0 := cell_keep hb1 s0
  replace s1 := cell_keep hb1 s1
  replace s2 := cell_keep hb1 s2
  replace s3 := cell_keep hb1 s3
  replace s4 := cell_keep hb1 s4
  replace s5 := cell_keep hb1 s5
  replace s6 := cell_keep hb1 s6
  clear hb1 HBX
  have x0 : (x % 7 == 0) = false := by rw [HX7.out]; rfl
  have x1 : (x % 7 == 1) = true := by rw [HX7.out]; rfl
  have x2 : (x % 7 == 2) = false := by rw [HX7.out]; rfl
  have x3 : (x % 7 == 3) = false := by rw [HX7.out]; rfl
  have x4 : (x % 7 == 4) = false := by rw [HX7.out]; rfl
  have x5 : (x % 7 == 5) = false := by rw [HX7.out]; rfl
  have HQ := hide (bq_new w3 (.int .i64 fr) (.int .i64 ev) (.int .i64 ct) (.int .i64 un) (.slice D dn dc) (.slice M mn mc) (.slice Y yn yc) 25)
  have HB0 := hide (more (start w3) (.cells #[.int .i64 fr, .int .i64 ev, .int .i64 ct, .int .i64 un, .slice D dn dc, .slice M mn mc, .slice Y yn yc] 25))
  have hXge : w.heap.size ≤ w3.heap.size := HBW.out.size
  have hXlt : w.heap.size < w3.heap.size := block_lt_of_cell s0
  have HL2 := hide (HL.out.keep HB0.out)
  have t0 := cell_keep HB0.out s0
  have t1 := cell_keep HB0.out s1
  have t2 := cell_keep HB0.out s2
  have t3 := cell_keep HB0.out s3
  have t4 := cell_keep HB0.out s4
  have t5 := cell_keep HB0.out s5
  have t6 := cell_keep HB0.out s6
  have q0 := HQ.out.c0
  have q1 := HQ.out.c1
  have q2 := HQ.out.c2
  have q3 := HQ.out.c3
  have q4 := HQ.out.c4
  have q5 := HQ.out.c5
  have q6 := HQ.out.c6
  have qf := HQ.out.f
  go_upto_region 6 with (fail)
  generalize w3.alloc (.cells #[.int .i64 fr, .int .i64 ev, .int .i64 ct, .int .i64 un, .slice D dn dc, .slice M mn mc, .slice Y yn yc] 25) = W1 at *
  go_wp2_with fail
  have HQ2 := hide ((HQ.out).set1 (.int .i64 0))
  have HB1 := hide (Below.setCell HB0.out (p := ⟨w3.heap.size, 1, none⟩) (Nat.le_refl _) (.int .i64 0))
  clear HQ HB0 HL2 q0 q1 q2 q3 q4 q5 q6 qf
  generalize (W1.setCell ⟨w3.heap.size, 1, none⟩ (.int .i64 0)) = V at *
  have q0 := HQ2.out.c0
  have q1 := HQ2.out.c1
  have q2 := HQ2.out.c2
  have q3 := HQ2.out.c3
  have q4 := HQ2.out.c4
  have q5 := HQ2.out.c5
  have q6 := HQ2.out.c6
  replace HL := hide (HL.out.keep HB1.out)
  have HLQ := HL
  replace s0 := cell_keep HB1.out s0
  replace s1 := cell_keep HB1.out s1
  replace s2 := cell_keep HB1.out s2
  replace s3 := cell_keep HB1.out s3
  replace s4 := cell_keep HB1.out s4
  replace s5 := cell_keep HB1.out s5
  replace s6 := cell_keep HB1.out s6
  have HBX := hide (andthen HBW.out HB1.out)
  clear HB1 HQ2
  refine (ans_is (is_any fr 0 ct un D M Y dn dc mn mc yn yc ds ms ys _ HLQ.out) HN1.out).mono ?_
  rintro e u0 ⟨rfl, hb0⟩
  replace HBX := hide (andthen HBX.out hb0)
  replace HL := hide (HL.out.keep hb0)
  replace HLQ := hide (HLQ.out.keep hb0)
  replace s0 := cell_keep hb0 s0
  replace s1 := cell_keep hb0 s1
  replace s2 := cell_keep hb0 s2
  replace s3 := cell_keep hb0 s3
  replace s4 := cell_keep hb0 s4
  replace s5 := cell_keep hb0 s5
  replace s6 := cell_keep hb0 s6
  replace q0 := cell_keep hb0 q0
  replace q1 := cell_keep hb0 q1
  replace q2 := cell_keep hb0 q2
  replace q3 := cell_keep hb0 q3
  replace q4 := cell_keep hb0 q4
  replace q5 := cell_keep hb0 q5
  replace q6 := cell_keep hb0 q6
  clear hb0
  go_wp2_with fail
  refine (ans_is (fits_any fr 0 ct un D M Y dn dc mn mc yn yc ds ms ys 100 _ HLQ.out) HN2.out).mono ?_
  rintro e u1 ⟨rfl, hb1⟩
  replace HBX := hide (andthen HBX.out hb1)
  replace HL := hide (HL.out.keep hb1)
  replace HLQ := hide (HLQ.out.keep hb1)
  replace s0 := cell_keep hb1 s0
  replace s1 := cell_keep hb1 s1
  replace s2 := cell_keep hb1 s2
  replace s3 := cell_keep hb1 s3
  replace s4 := cell_keep hb1 s4
  replace s5 := cell_keep hb1 s5
  replace s6 := cell_keep hb1 s6
  replace q0 := cell_keep hb1 q0
  replace q1 := cell_keep hb1 q1
  replace q2 := cell_keep hb1 q2
  replace q3 := cell_keep hb1 q3
  replace q4 := cell_keep hb1 q4
  replace q5 := cell_keep hb1 q5
  replace q6 := cell_keep hb1 q6
  clear hb1
  go_wp2_with fail
  refine (ans_is (same_any fr ev ct un D M Y dn dc mn mc yn yc fr 0 ct un D M Y dn dc mn mc yn yc ds ms ys ds ms ys _ HL.out HLQ.out) HN3.out).mono ?_
  rintro e u2 ⟨rfl, hb2⟩
  replace HBX := hide (andthen HBX.out hb2)
  replace HL := hide (HL.out.keep hb2)
  replace HLQ := hide (HLQ.out.keep hb2)
  replace s0 := cell_keep hb2 s0
  replace s1 := cell_keep hb2 s1
  replace s2 := cell_keep hb2 s2
  replace s3 := cell_keep hb2 s3
  replace s4 := cell_keep hb2 s4
  replace s5 := cell_keep hb2 s5
  replace s6 := cell_keep hb2 s6
  replace q0 := cell_keep hb2 q0
  replace q1 := cell_keep hb2 q1
  replace q2 := cell_keep hb2 q2
  replace q3 := cell_keep hb2 q3
  replace q4 := cell_keep hb2 q4
  replace q5 := cell_keep hb2 q5
  replace q6 := cell_keep hb2 q6
  clear hb2
  go_wp2_with fail
  go_ret
  exact ⟨rfl, HBX.out⟩

set_option maxRecDepth 100000 in
set_option maxHeartbeats 2000000 in
theorem spoils_2 (fr ev ct un : Int) (D M Y : Option Addr) (dn dc mn mc yn yc : Nat) (ds : List Wd) (ms ys : List Int) (x : Int) (w : World) (x1 : 0 ≤ x) (x2 : x ≤ 255) (h : Lies w D dn M mn Y yn ds ms ys) (_hz : Zer D M Y dc mc yc) (_h20 : ds.length ≤ 20 ∧ ms.length ≤ 20 ∧ ys.length ≤ 20) (hfew : fewB dn mn yn = true) (his : isB ⟨fr, ev, ct, un, ds, ms, ys⟩ = true) (h0 : fr ≠ 0) (hq : x % 7 = 2) :
    Calls Try.prog 4 #[.agg #[.int .i64 fr, .int .i64 ev, .int .i64 ct, .int .i64 un, .slice D dn dc, .slice M mn mc, .slice Y yn yc], .int .u8 x] w (Ans w (.bool true)) := by
  have hrec : recB ⟨fr, ev, ct, un, ds, ms, ys⟩ = true := by rw [← isB_1 ⟨fr, ev, ct, un, ds, ms, ys⟩ h0]; exact his
  have hsp : recB ⟨fr, ev, 3, 9, ds, ms, ys⟩ = false := bad_nums fr ev 3 9 ds ms ys (by omega)
  have HN1 := hide (spoilt_is ⟨fr, ev, 3, 9, ds, ms, ys⟩ (by exact h0) hsp)
  have HN2 := hide (spoilt_fits ⟨fr, ev, 3, 9, ds, ms, ys⟩ 100 hsp)
  have HN3 := hide (spoilt_same ⟨fr, ev, ct, un, ds, ms, ys⟩ ⟨fr, ev, 3, 9, ds, ms, ys⟩ hrec hsp)
  have HIS := hide his
  have HX7 := hide hq
  have HFEW := hide hfew
  have g0 : (fr == 0) = false := by rw [beq_eq_false_iff_ne]; exact h0
  have HBX := hide (more (start w) (.cells #[.int .i64 fr, .int .i64 ev, .int .i64 ct, .int .i64 un, .slice D dn dc, .slice M mn mc, .slice Y yn yc] 25))
  have s0 : (w.alloc (.cells #[.int .i64 fr, .int .i64 ev, .int .i64 ct, .int .i64 un, .slice D dn dc, .slice M mn mc, .slice Y yn yc] 25)).cell? ⟨w.heap.size, 0, none⟩ = some (.int .i64 fr) := by rw [World.cell?_alloc_at _ _ _ _ rfl]; rfl
  have s1 : (w.alloc (.cells #[.int .i64 fr, .int .i64 ev, .int .i64 ct, .int .i64 un, .slice D dn dc, .slice M mn mc, .slice Y yn yc] 25)).cell? ⟨w.heap.size, 1, none⟩ = some (.int .i64 ev) := by rw [World.cell?_alloc_at _ _ _ _ rfl]; rfl
  have s2 : (w.alloc (.cells #[.int .i64 fr, .int .i64 ev, .int .i64 ct, .int .i64 un, .slice D dn dc, .slice M mn mc, .slice Y yn yc] 25)).cell? ⟨w.heap.size, 2, none⟩ = some (.int .i64 ct) := by rw [World.cell?_alloc_at _ _ _ _ rfl]; rfl
  have s3 : (w.alloc (.cells #[.int .i64 fr, .int .i64 ev, .int .i64 ct, .int .i64 un, .slice D dn dc, .slice M mn mc, .slice Y yn yc] 25)).cell? ⟨w.heap.size, 3, none⟩ = some (.int .i64 un) := by rw [World.cell?_alloc_at _ _ _ _ rfl]; rfl
  have s4 : (w.alloc (.cells #[.int .i64 fr, .int .i64 ev, .int .i64 ct, .int .i64 un, .slice D dn dc, .slice M mn mc, .slice Y yn yc] 25)).cell? ⟨w.heap.size, 4, none⟩ = some (.slice D dn dc) := by rw [World.cell?_alloc_at _ _ _ _ rfl]; rfl
  have s5 : (w.alloc (.cells #[.int .i64 fr, .int .i64 ev, .int .i64 ct, .int .i64 un, .slice D dn dc, .slice M mn mc, .slice Y yn yc] 25)).cell? ⟨w.heap.size, 5, none⟩ = some (.slice M mn mc) := by rw [World.cell?_alloc_at _ _ _ _ rfl]; rfl
  have s6 : (w.alloc (.cells #[.int .i64 fr, .int .i64 ev, .int .i64 ct, .int .i64 un, .slice D dn dc, .slice M mn mc, .slice Y yn yc] 25)).cell? ⟨w.heap.size, 6, none⟩ = some (.slice Y yn yc) := by rw [World.cell?_alloc_at _ _ _ _ rfl]; rfl
  have HL := hide (h.keep HBX.out)
  clear h his hq hfew h0 hrec hsp
  go_enter Try.func4, Try.ntmps4
  go_wp2_with fail
  refine (known_any _).mono ?_
  rintro e w1 ⟨rfl, hb1⟩
  replace HBX := hide (andthen HBX.out hb1)
  replace HL := hide (HL.out.keep hb1)
  replace s0 := cell_keep hb1 s0
  replace s1 := cell_keep hb1 s1
  replace s2 := cell_keep hb1 s2
  replace s3 := cell_keep hb1 s3
  replace s4 := cell_keep hb1 s4
  replace s5 := cell_keep hb1 s5
  replace s6 := cell_keep hb1 s6
  clear hb1
  go_wp2_with fail
  refine (ans_is (few_any fr ev ct un D M Y dn dc mn mc yn yc _) HFEW.out).mono ?_
  rintro e w2 ⟨rfl, hb1⟩
  replace HBX := hide (andthen HBX.out hb1)
  replace HL := hide (HL.out.keep hb1)
  replace s0 := cell_keep hb1 s0
  replace s1 := cell_keep hb1 s1
  replace s2 := cell_keep hb1 s2
  replace s3 := cell_keep hb1 s3
  replace s4 := cell_keep hb1 s4
  replace s5 := cell_keep hb1 s5
  replace s6 := cell_keep hb1 s6
  clear hb1
  go_wp2_with fail
  refine (ans_is (is_any fr ev ct un D M Y dn dc mn mc yn yc ds ms ys _ HL.out) HIS.out).mono ?_
  rintro e w3 ⟨rfl, hb1⟩
  have HBW := hide (andthen HBX.out hb1)
  replace HL := hide (HL.out.keep hb1)
  replace s0 := cell_keep hb1 s0
  replace s1 := cell_keep hb1 s1
  replace s2 := cell_keep hb1 s2
  replace s3 := cell_keep hb1 s3
  replace s4 := cell_keep hb1 s4
  replace s5 := cell_keep hb1 s5
  replace s6 := cell_keep hb1 s6
  clear hb1 HBX
  have x0 : (x % 7 == 0) = false := by rw [HX7.out]; rfl
  have x1 : (x % 7 == 1) = false := by rw [HX7.out]; rfl
  have x2 : (x % 7 == 2) = true := by rw [HX7.out]; rfl
  have x3 : (x % 7 == 3) = false := by rw [HX7.out]; rfl
  have x4 : (x % 7 == 4) = false := by rw [HX7.out]; rfl
  have x5 : (x % 7 == 5) = false := by rw [HX7.out]; rfl
  have HQ := hide (bq_new w3 (.int .i64 fr) (.int .i64 ev) (.int .i64 ct) (.int .i64 un) (.slice D dn dc) (.slice M mn mc) (.slice Y yn yc) 25)
  have HB0 := hide (more (start w3) (.cells #[.int .i64 fr, .int .i64 ev, .int .i64 ct, .int .i64 un, .slice D dn dc, .slice M mn mc, .slice Y yn yc] 25))
  have hXge : w.heap.size ≤ w3.heap.size := HBW.out.size
  have hXlt : w.heap.size < w3.heap.size := block_lt_of_cell s0
  have HL2 := hide (HL.out.keep HB0.out)
  have t0 := cell_keep HB0.out s0
  have t1 := cell_keep HB0.out s1
  have t2 := cell_keep HB0.out s2
  have t3 := cell_keep HB0.out s3
  have t4 := cell_keep HB0.out s4
  have t5 := cell_keep HB0.out s5
  have t6 := cell_keep HB0.out s6
  have q0 := HQ.out.c0
  have q1 := HQ.out.c1
  have q2 := HQ.out.c2
  have q3 := HQ.out.c3
  have q4 := HQ.out.c4
  have q5 := HQ.out.c5
  have q6 := HQ.out.c6
  have qf := HQ.out.f
  go_upto_region 6 with (fail)
  generalize w3.alloc (.cells #[.int .i64 fr, .int .i64 ev, .int .i64 ct, .int .i64 un, .slice D dn dc, .slice M mn mc, .slice Y yn yc] 25) = W1 at *
  go_wp2_with fail
  have HQ2 := hide (((HQ.out).set2 (.int .i64 3)).set3 (.int .i64 9))
  have HB1 := hide (Below.setCell (Below.setCell HB0.out (p := ⟨w3.heap.size, 2, none⟩) (Nat.le_refl _) (.int .i64 3)) (p := ⟨w3.heap.size, 3, none⟩) (Nat.le_refl _) (.int .i64 9))
  clear HQ HB0 HL2 q0 q1 q2 q3 q4 q5 q6 qf
  generalize ((W1.setCell ⟨w3.heap.size, 2, none⟩ (.int .i64 3)).setCell ⟨w3.heap.size, 3, none⟩ (.int .i64 9)) = V at *
  have q0 := HQ2.out.c0
  have q1 := HQ2.out.c1
  have q2 := HQ2.out.c2
  have q3 := HQ2.out.c3
  have q4 := HQ2.out.c4
  have q5 := HQ2.out.c5
  have q6 := HQ2.out.c6
  replace HL := hide (HL.out.keep HB1.out)
  have HLQ := HL
  replace s0 := cell_keep HB1.out s0
  replace s1 := cell_keep HB1.out s1
  replace s2 := cell_keep HB1.out s2
  replace s3 := cell_keep HB1.out s3
  replace s4 := cell_keep HB1.out s4
  replace s5 := cell_keep HB1.out s5
  replace s6 := cell_keep HB1.out s6
  have HBX := hide (andthen HBW.out HB1.out)
  clear HB1 HQ2
  refine (ans_is (is_any fr ev 3 9 D M Y dn dc mn mc yn yc ds ms ys _ HLQ.out) HN1.out).mono ?_
  rintro e u0 ⟨rfl, hb0⟩
  replace HBX := hide (andthen HBX.out hb0)
  replace HL := hide (HL.out.keep hb0)
  replace HLQ := hide (HLQ.out.keep hb0)
  replace s0 := cell_keep hb0 s0
  replace s1 := cell_keep hb0 s1
  replace s2 := cell_keep hb0 s2
  replace s3 := cell_keep hb0 s3
  replace s4 := cell_keep hb0 s4
  replace s5 := cell_keep hb0 s5
  replace s6 := cell_keep hb0 s6
  replace q0 := cell_keep hb0 q0
  replace q1 := cell_keep hb0 q1
  replace q2 := cell_keep hb0 q2
  replace q3 := cell_keep hb0 q3
  replace q4 := cell_keep hb0 q4
  replace q5 := cell_keep hb0 q5
  replace q6 := cell_keep hb0 q6
  clear hb0
  go_wp2_with fail
  refine (ans_is (fits_any fr ev 3 9 D M Y dn dc mn mc yn yc ds ms ys 100 _ HLQ.out) HN2.out).mono ?_
  rintro e u1 ⟨rfl, hb1⟩
  replace HBX := hide (andthen HBX.out hb1)
  replace HL := hide (HL.out.keep hb1)
  replace HLQ := hide (HLQ.out.keep hb1)
  replace s0 := cell_keep hb1 s0
  replace s1 := cell_keep hb1 s1
  replace s2 := cell_keep hb1 s2
  replace s3 := cell_keep hb1 s3
  replace s4 := cell_keep hb1 s4
  replace s5 := cell_keep hb1 s5
  replace s6 := cell_keep hb1 s6
  replace q0 := cell_keep hb1 q0
  replace q1 := cell_keep hb1 q1
  replace q2 := cell_keep hb1 q2
  replace q3 := cell_keep hb1 q3
  replace q4 := cell_keep hb1 q4
  replace q5 := cell_keep hb1 q5
  replace q6 := cell_keep hb1 q6
  clear hb1
  go_wp2_with fail
  refine (ans_is (same_any fr ev ct un D M Y dn dc mn mc yn yc fr ev 3 9 D M Y dn dc mn mc yn yc ds ms ys ds ms ys _ HL.out HLQ.out) HN3.out).mono ?_
  rintro e u2 ⟨rfl, hb2⟩
  replace HBX := hide (andthen HBX.out hb2)
  replace HL := hide (HL.out.keep hb2)
  replace HLQ := hide (HLQ.out.keep hb2)
  replace s0 := cell_keep hb2 s0
  replace s1 := cell_keep hb2 s1
  replace s2 := cell_keep hb2 s2
  replace s3 := cell_keep hb2 s3
  replace s4 := cell_keep hb2 s4
  replace s5 := cell_keep hb2 s5
  replace s6 := cell_keep hb2 s6
  replace q0 := cell_keep hb2 q0
  replace q1 := cell_keep hb2 q1
  replace q2 := cell_keep hb2 q2
  replace q3 := cell_keep hb2 q3
  replace q4 := cell_keep hb2 q4
  replace q5 := cell_keep hb2 q5
  replace q6 := cell_keep hb2 q6
  clear hb2
  go_wp2_with fail
  go_ret
  exact ⟨rfl, HBX.out⟩

set_option maxRecDepth 100000 in
set_option maxHeartbeats 2000000 in
theorem spoils_3 (fr ev ct un : Int) (D M Y : Option Addr) (dn dc mn mc yn yc : Nat) (ds : List Wd) (ms ys : List Int) (x : Int) (w : World) (x1 : 0 ≤ x) (x2 : x ≤ 255) (h : Lies w D dn M mn Y yn ds ms ys) (hz : Zer D M Y dc mc yc) (h20 : ds.length ≤ 20 ∧ ms.length ≤ 20 ∧ ys.length ≤ 20) (hfew : fewB dn mn yn = true) (his : isB ⟨fr, ev, ct, un, ds, ms, ys⟩ = true) (h0 : fr ≠ 0) (hq : x % 7 = 3) :
    Calls Try.prog 4 #[.agg #[.int .i64 fr, .int .i64 ev, .int .i64 ct, .int .i64 un, .slice D dn dc, .slice M mn mc, .slice Y yn yc], .int .u8 x] w (Ans w (.bool true)) := by
  have hrec : recB ⟨fr, ev, ct, un, ds, ms, ys⟩ = true := by rw [← isB_1 ⟨fr, ev, ct, un, ds, ms, ys⟩ h0]; exact his
  have hsp : recB ⟨fr, ev, ct, un, ds, ms, [] ++ ys ++ [13]⟩ = false := bad_ys fr ev ct un ds ms ys
  have HN1 := hide (spoilt_is ⟨fr, ev, ct, un, ds, ms, [] ++ ys ++ [13]⟩ (by exact h0) hsp)
  have HN2 := hide (spoilt_fits ⟨fr, ev, ct, un, ds, ms, [] ++ ys ++ [13]⟩ 100 hsp)
  have HN3 := hide (spoilt_same ⟨fr, ev, ct, un, ds, ms, ys⟩ ⟨fr, ev, ct, un, ds, ms, [] ++ ys ++ [13]⟩ hrec hsp)
  have HIS := hide his
  have HX7 := hide hq
  have HFEW := hide hfew
  have g0 : (fr == 0) = false := by rw [beq_eq_false_iff_ne]; exact h0
  have HBX := hide (more (start w) (.cells #[.int .i64 fr, .int .i64 ev, .int .i64 ct, .int .i64 un, .slice D dn dc, .slice M mn mc, .slice Y yn yc] 25))
  have s0 : (w.alloc (.cells #[.int .i64 fr, .int .i64 ev, .int .i64 ct, .int .i64 un, .slice D dn dc, .slice M mn mc, .slice Y yn yc] 25)).cell? ⟨w.heap.size, 0, none⟩ = some (.int .i64 fr) := by rw [World.cell?_alloc_at _ _ _ _ rfl]; rfl
  have s1 : (w.alloc (.cells #[.int .i64 fr, .int .i64 ev, .int .i64 ct, .int .i64 un, .slice D dn dc, .slice M mn mc, .slice Y yn yc] 25)).cell? ⟨w.heap.size, 1, none⟩ = some (.int .i64 ev) := by rw [World.cell?_alloc_at _ _ _ _ rfl]; rfl
  have s2 : (w.alloc (.cells #[.int .i64 fr, .int .i64 ev, .int .i64 ct, .int .i64 un, .slice D dn dc, .slice M mn mc, .slice Y yn yc] 25)).cell? ⟨w.heap.size, 2, none⟩ = some (.int .i64 ct) := by rw [World.cell?_alloc_at _ _ _ _ rfl]; rfl
  have s3 : (w.alloc (.cells #[.int .i64 fr, .int .i64 ev, .int .i64 ct, .int .i64 un, .slice D dn dc, .slice M mn mc, .slice Y yn yc] 25)).cell? ⟨w.heap.size, 3, none⟩ = some (.int .i64 un) := by rw [World.cell?_alloc_at _ _ _ _ rfl]; rfl
  have s4 : (w.alloc (.cells #[.int .i64 fr, .int .i64 ev, .int .i64 ct, .int .i64 un, .slice D dn dc, .slice M mn mc, .slice Y yn yc] 25)).cell? ⟨w.heap.size, 4, none⟩ = some (.slice D dn dc) := by rw [World.cell?_alloc_at _ _ _ _ rfl]; rfl
  have s5 : (w.alloc (.cells #[.int .i64 fr, .int .i64 ev, .int .i64 ct, .int .i64 un, .slice D dn dc, .slice M mn mc, .slice Y yn yc] 25)).cell? ⟨w.heap.size, 5, none⟩ = some (.slice M mn mc) := by rw [World.cell?_alloc_at _ _ _ _ rfl]; rfl
  have s6 : (w.alloc (.cells #[.int .i64 fr, .int .i64 ev, .int .i64 ct, .int .i64 un, .slice D dn dc, .slice M mn mc, .slice Y yn yc] 25)).cell? ⟨w.heap.size, 6, none⟩ = some (.slice Y yn yc) := by rw [World.cell?_alloc_at _ _ _ _ rfl]; rfl
  have HL := hide (h.keep HBX.out)
  clear h his hq hfew h0 hrec hsp
  go_enter Try.func4, Try.ntmps4
  go_wp2_with fail
  refine (known_any _).mono ?_
  rintro e w1 ⟨rfl, hb1⟩
  replace HBX := hide (andthen HBX.out hb1)
  replace HL := hide (HL.out.keep hb1)
  replace s0 := cell_keep hb1 s0
  replace s1 := cell_keep hb1 s1
  replace s2 := cell_keep hb1 s2
  replace s3 := cell_keep hb1 s3
  replace s4 := cell_keep hb1 s4
  replace s5 := cell_keep hb1 s5
  replace s6 := cell_keep hb1 s6
  clear hb1
  go_wp2_with fail
  refine (ans_is (few_any fr ev ct un D M Y dn dc mn mc yn yc _) HFEW.out).mono ?_
  rintro e w2 ⟨rfl, hb1⟩
  replace HBX := hide (andthen HBX.out hb1)
  replace HL := hide (HL.out.keep hb1)
  replace s0 := cell_keep hb1 s0
  replace s1 := cell_keep hb1 s1
  replace s2 := cell_keep hb1 s2
  replace s3 := cell_keep hb1 s3
  replace s4 := cell_keep hb1 s4
  replace s5 := cell_keep hb1 s5
  replace s6 := cell_keep hb1 s6
  clear hb1
  go_wp2_with fail
  refine (ans_is (is_any fr ev ct un D M Y dn dc mn mc yn yc ds ms ys _ HL.out) HIS.out).mono ?_
  rintro e w3 ⟨rfl, hb1⟩
  have HBW := hide (andthen HBX.out hb1)
  replace HL := hide (HL.out.keep hb1)
  replace s0 := cell_keep hb1 s0
  replace s1 := cell_keep hb1 s1
  replace s2 := cell_keep hb1 s2
  replace s3 := cell_keep hb1 s3
  replace s4 := cell_keep hb1 s4
  replace s5 := cell_keep hb1 s5
  replace s6 := cell_keep hb1 s6
  clear hb1 HBX
  have x0 : (x % 7 == 0) = false := by rw [HX7.out]; rfl
  have x1 : (x % 7 == 1) = false := by rw [HX7.out]; rfl
  have x2 : (x % 7 == 2) = false := by rw [HX7.out]; rfl
  have x3 : (x % 7 == 3) = true := by rw [HX7.out]; rfl
  have x4 : (x % 7 == 4) = false := by rw [HX7.out]; rfl
  have x5 : (x % 7 == 5) = false := by rw [HX7.out]; rfl
  have HQ := hide (bq_new w3 (.int .i64 fr) (.int .i64 ev) (.int .i64 ct) (.int .i64 un) (.slice D dn dc) (.slice M mn mc) (.slice Y yn yc) 25)
  have HB0 := hide (more (start w3) (.cells #[.int .i64 fr, .int .i64 ev, .int .i64 ct, .int .i64 un, .slice D dn dc, .slice M mn mc, .slice Y yn yc] 25))
  have hXge : w.heap.size ≤ w3.heap.size := HBW.out.size
  have hXlt : w.heap.size < w3.heap.size := block_lt_of_cell s0
  have HL2 := hide (HL.out.keep HB0.out)
  have t0 := cell_keep HB0.out s0
  have t1 := cell_keep HB0.out s1
  have t2 := cell_keep HB0.out s2
  have t3 := cell_keep HB0.out s3
  have t4 := cell_keep HB0.out s4
  have t5 := cell_keep HB0.out s5
  have t6 := cell_keep HB0.out s6
  have q0 := HQ.out.c0
  have q1 := HQ.out.c1
  have q2 := HQ.out.c2
  have q3 := HQ.out.c3
  have q4 := HQ.out.c4
  have q5 := HQ.out.c5
  have q6 := HQ.out.c6
  have qf := HQ.out.f
  go_upto_region 6 with (fail)
  generalize w3.alloc (.cells #[.int .i64 fr, .int .i64 ev, .int .i64 ct, .int .i64 un, .slice D dn dc, .slice M mn mc, .slice Y yn yc] 25) = W1 at *
  have hBX : w3.heap.size + 1 ≤ W1.heap.size := HQ.out.lt
  have hlen : ([] ++ ys ++ [13]).length = (ys.length + 1) := by simp
  have hlen1 : (([] : List Int) ++ ys).length = ys.length := by simp
  have HY1 := hide (HL2.out.y)
  go_wp2_with (first | (at_builtin; refine wp_oneI (l := [] ++ ys) (p := 13) rfl _ _ rfl rfl rfl rfl hown1 hB1 (by simp; omega) ?_; intro v2 U2 hown2 hbU2; obtain ⟨A2, cc2, hv2, _⟩ := OwnI.row hown2; rw [hlen] at hv2; subst hv2; have HU := hide (hbU1.trans hbU2); have HQ3 := hide (HQ.out.keep HU.out (Nat.lt_succ_self _)); have k0 := HQ3.out.c0; have k1 := HQ3.out.c1; have k2 := HQ3.out.c2; have k3 := HQ3.out.c3; have k4 := HQ3.out.c4; have k5 := HQ3.out.c5; have k6 := HQ3.out.c6; have kf := HQ3.out.f 6; have HOW := hide hown2; clear hown2 hbU2 hown1 hbU1) | (at_builtin; refine wp_rowI (l := []) (k := ys) rfl _ _ rfl rfl rfl HL.out.yn hz.2.2 HY1.out (ownI_nil W1 (w3.heap.size + 1)) hBX (Nat.zero_le _) (by omega) ?_; intro v1 U1 hown1 hbU1; obtain ⟨A1, cc1, hv1, _⟩ := OwnI.row hown1; rw [hlen1] at hv1; subst hv1; have hB1 : w3.heap.size + 1 ≤ U1.heap.size := Nat.le_trans hBX hbU1.size))
  have HQ2 := hide (HQ3.out.set6 (.slice A2 (ys.length + 1) cc2))
  have HB1 := hide (Below.setCell (HB0.out.trans (HU.out.mono (Nat.le_succ w3.heap.size))) (p := ⟨w3.heap.size, 6, none⟩) (Nat.le_refl _) (.slice A2 (ys.length + 1) cc2))
  obtain ⟨A3, c3, hv3, hrow3⟩ := OwnI.row (ownsRow_setCell_below HOW.out (a := ⟨w3.heap.size, 6, none⟩) (Nat.lt_succ_self _) (.slice A2 (ys.length + 1) cc2))
  rw [hlen] at hv3
  injection hv3 with e1 _ e3
  subst e1 e3
  generalize U2.setCell ⟨w3.heap.size, 6, none⟩ (.slice A2 (ys.length + 1) cc2) = V at *
  clear HOW HQ3 HU k0 k1 k2 k3 k4 k5 k6 kf HB0 HQ HL2 q0 q1 q2 q3 q4 q5 q6 qf
  have q0 := HQ2.out.c0
  have q1 := HQ2.out.c1
  have q2 := HQ2.out.c2
  have q3 := HQ2.out.c3
  have q4 := HQ2.out.c4
  have q5 := HQ2.out.c5
  have q6 := HQ2.out.c6
  replace HL := hide (HL.out.keep HB1.out)
  have HLQ := hide (Lies.mk HL.out.d HL.out.dn HL.out.dl HL.out.m HL.out.mn HL.out.ml hrow3 hlen.symm (by rw [hlen]; omega))
  replace s0 := cell_keep HB1.out s0
  replace s1 := cell_keep HB1.out s1
  replace s2 := cell_keep HB1.out s2
  replace s3 := cell_keep HB1.out s3
  replace s4 := cell_keep HB1.out s4
  replace s5 := cell_keep HB1.out s5
  replace s6 := cell_keep HB1.out s6
  have HBX := hide (andthen HBW.out HB1.out)
  clear HB1 HQ2
  refine (ans_is (is_any fr ev ct un D M A2 dn dc mn mc (ys.length + 1) cc2 ds ms ([] ++ ys ++ [13]) _ HLQ.out) HN1.out).mono ?_
  rintro e u0 ⟨rfl, hb0⟩
  replace HBX := hide (andthen HBX.out hb0)
  replace HL := hide (HL.out.keep hb0)
  replace HLQ := hide (HLQ.out.keep hb0)
  replace s0 := cell_keep hb0 s0
  replace s1 := cell_keep hb0 s1
  replace s2 := cell_keep hb0 s2
  replace s3 := cell_keep hb0 s3
  replace s4 := cell_keep hb0 s4
  replace s5 := cell_keep hb0 s5
  replace s6 := cell_keep hb0 s6
  replace q0 := cell_keep hb0 q0
  replace q1 := cell_keep hb0 q1
  replace q2 := cell_keep hb0 q2
  replace q3 := cell_keep hb0 q3
  replace q4 := cell_keep hb0 q4
  replace q5 := cell_keep hb0 q5
  replace q6 := cell_keep hb0 q6
  clear hb0
  go_wp2_with fail
  refine (ans_is (fits_any fr ev ct un D M A2 dn dc mn mc (ys.length + 1) cc2 ds ms ([] ++ ys ++ [13]) 100 _ HLQ.out) HN2.out).mono ?_
  rintro e u1 ⟨rfl, hb1⟩
  replace HBX := hide (andthen HBX.out hb1)
  replace HL := hide (HL.out.keep hb1)
  replace HLQ := hide (HLQ.out.keep hb1)
  replace s0 := cell_keep hb1 s0
  replace s1 := cell_keep hb1 s1
  replace s2 := cell_keep hb1 s2
  replace s3 := cell_keep hb1 s3
  replace s4 := cell_keep hb1 s4
  replace s5 := cell_keep hb1 s5
  replace s6 := cell_keep hb1 s6
  replace q0 := cell_keep hb1 q0
  replace q1 := cell_keep hb1 q1
  replace q2 := cell_keep hb1 q2
  replace q3 := cell_keep hb1 q3
  replace q4 := cell_keep hb1 q4
  replace q5 := cell_keep hb1 q5
  replace q6 := cell_keep hb1 q6
  clear hb1
  go_wp2_with fail
  refine (ans_is (same_any fr ev ct un D M Y dn dc mn mc yn yc fr ev ct un D M A2 dn dc mn mc (ys.length + 1) cc2 ds ms ys ds ms ([] ++ ys ++ [13]) _ HL.out HLQ.out) HN3.out).mono ?_
  rintro e u2 ⟨rfl, hb2⟩
  replace HBX := hide (andthen HBX.out hb2)
  replace HL := hide (HL.out.keep hb2)
  replace HLQ := hide (HLQ.out.keep hb2)
  replace s0 := cell_keep hb2 s0
  replace s1 := cell_keep hb2 s1
  replace s2 := cell_keep hb2 s2
  replace s3 := cell_keep hb2 s3
  replace s4 := cell_keep hb2 s4
  replace s5 := cell_keep hb2 s5
  replace s6 := cell_keep hb2 s6
  replace q0 := cell_keep hb2 q0
  replace q1 := cell_keep hb2 q1
  replace q2 := cell_keep hb2 q2
  replace q3 := cell_keep hb2 q3
  replace q4 := cell_keep hb2 q4
  replace q5 := cell_keep hb2 q5
  replace q6 := cell_keep hb2 q6
  clear hb2
  go_wp2_with fail
  go_ret
  exact ⟨rfl, HBX.out⟩

set_option maxRecDepth 100000 in
set_option maxHeartbeats 2000000 in
theorem spoils_4 (fr ev ct un : Int) (D M Y : Option Addr) (dn dc mn mc yn yc : Nat) (ds : List Wd) (ms ys : List Int) (x : Int) (w : World) (x1 : 0 ≤ x) (x2 : x ≤ 255) (h : Lies w D dn M mn Y yn ds ms ys) (hz : Zer D M Y dc mc yc) (h20 : ds.length ≤ 20 ∧ ms.length ≤ 20 ∧ ys.length ≤ 20) (hfew : fewB dn mn yn = true) (his : isB ⟨fr, ev, ct, un, ds, ms, ys⟩ = true) (h0 : fr ≠ 0) (hq : x % 7 = 4) :
    Calls Try.prog 4 #[.agg #[.int .i64 fr, .int .i64 ev, .int .i64 ct, .int .i64 un, .slice D dn dc, .slice M mn mc, .slice Y yn yc], .int .u8 x] w (Ans w (.bool true)) := by
  have hrec : recB ⟨fr, ev, ct, un, ds, ms, ys⟩ = true := by rw [← isB_1 ⟨fr, ev, ct, un, ds, ms, ys⟩ h0]; exact his
  have hsp : recB ⟨fr, ev, ct, un, ds, [-32] ++ ms, ys⟩ = false := bad_ms fr ev ct un ds ms ys
  have HN1 := hide (spoilt_is ⟨fr, ev, ct, un, ds, [-32] ++ ms, ys⟩ (by exact h0) hsp)
  have HN2 := hide (spoilt_fits ⟨fr, ev, ct, un, ds, [-32] ++ ms, ys⟩ 100 hsp)
  have HN3 := hide (spoilt_same ⟨fr, ev, ct, un, ds, ms, ys⟩ ⟨fr, ev, ct, un, ds, [-32] ++ ms, ys⟩ hrec hsp)
  have HIS := hide his
  have HX7 := hide hq
  have HFEW := hide hfew
  have g0 : (fr == 0) = false := by rw [beq_eq_false_iff_ne]; exact h0
  have HBX := hide (more (start w) (.cells #[.int .i64 fr, .int .i64 ev, .int .i64 ct, .int .i64 un, .slice D dn dc, .slice M mn mc, .slice Y yn yc] 25))
  have s0 : (w.alloc (.cells #[.int .i64 fr, .int .i64 ev, .int .i64 ct, .int .i64 un, .slice D dn dc, .slice M mn mc, .slice Y yn yc] 25)).cell? ⟨w.heap.size, 0, none⟩ = some (.int .i64 fr) := by rw [World.cell?_alloc_at _ _ _ _ rfl]; rfl
  have s1 : (w.alloc (.cells #[.int .i64 fr, .int .i64 ev, .int .i64 ct, .int .i64 un, .slice D dn dc, .slice M mn mc, .slice Y yn yc] 25)).cell? ⟨w.heap.size, 1, none⟩ = some (.int .i64 ev) := by rw [World.cell?_alloc_at _ _ _ _ rfl]; rfl
  have s2 : (w.alloc (.cells #[.int .i64 fr, .int .i64 ev, .int .i64 ct, .int .i64 un, .slice D dn dc, .slice M mn mc, .slice Y yn yc] 25)).cell? ⟨w.heap.size, 2, none⟩ = some (.int .i64 ct) := by rw [World.cell?_alloc_at _ _ _ _ rfl]; rfl
  have s3 : (w.alloc (.cells #[.int .i64 fr, .int .i64 ev, .int .i64 ct, .int .i64 un, .slice D dn dc, .slice M mn mc, .slice Y yn yc] 25)).cell? ⟨w.heap.size, 3, none⟩ = some (.int .i64 un) := by rw [World.cell?_alloc_at _ _ _ _ rfl]; rfl
  have s4 : (w.alloc (.cells #[.int .i64 fr, .int .i64 ev, .int .i64 ct, .int .i64 un, .slice D dn dc, .slice M mn mc, .slice Y yn yc] 25)).cell? ⟨w.heap.size, 4, none⟩ = some (.slice D dn dc) := by rw [World.cell?_alloc_at _ _ _ _ rfl]; rfl
  have s5 : (w.alloc (.cells #[.int .i64 fr, .int .i64 ev, .int .i64 ct, .int .i64 un, .slice D dn dc, .slice M mn mc, .slice Y yn yc] 25)).cell? ⟨w.heap.size, 5, none⟩ = some (.slice M mn mc) := by rw [World.cell?_alloc_at _ _ _ _ rfl]; rfl
  have s6 : (w.alloc (.cells #[.int .i64 fr, .int .i64 ev, .int .i64 ct, .int .i64 un, .slice D dn dc, .slice M mn mc, .slice Y yn yc] 25)).cell? ⟨w.heap.size, 6, none⟩ = some (.slice Y yn yc) := by rw [World.cell?_alloc_at _ _ _ _ rfl]; rfl
  have HL := hide (h.keep HBX.out)
  clear h his hq hfew h0 hrec hsp
  go_enter Try.func4, Try.ntmps4
  go_wp2_with fail
  refine (known_any _).mono ?_
  rintro e w1 ⟨rfl, hb1⟩
  replace HBX := hide (andthen HBX.out hb1)
  replace HL := hide (HL.out.keep hb1)
  replace s0 := cell_keep hb1 s0
  replace s1 := cell_keep hb1 s1
  replace s2 := cell_keep hb1 s2
  replace s3 := cell_keep hb1 s3
  replace s4 := cell_keep hb1 s4
  replace s5 := cell_keep hb1 s5
  replace s6 := cell_keep hb1 s6
  clear hb1
  go_wp2_with fail
  refine (ans_is (few_any fr ev ct un D M Y dn dc mn mc yn yc _) HFEW.out).mono ?_
  rintro e w2 ⟨rfl, hb1⟩
  replace HBX := hide (andthen HBX.out hb1)
  replace HL := hide (HL.out.keep hb1)
  replace s0 := cell_keep hb1 s0
  replace s1 := cell_keep hb1 s1
  replace s2 := cell_keep hb1 s2
  replace s3 := cell_keep hb1 s3
  replace s4 := cell_keep hb1 s4
  replace s5 := cell_keep hb1 s5
  replace s6 := cell_keep hb1 s6
  clear hb1
  go_wp2_with fail
  refine (ans_is (is_any fr ev ct un D M Y dn dc mn mc yn yc ds ms ys _ HL.out) HIS.out).mono ?_
  rintro e w3 ⟨rfl, hb1⟩
  have HBW := hide (andthen HBX.out hb1)
  replace HL := hide (HL.out.keep hb1)
  replace s0 := cell_keep hb1 s0
  replace s1 := cell_keep hb1 s1
  replace s2 := cell_keep hb1 s2
  replace s3 := cell_keep hb1 s3
  replace s4 := cell_keep hb1 s4
  replace s5 := cell_keep hb1 s5
  replace s6 := cell_keep hb1 s6
  clear hb1 HBX
  have x0 : (x % 7 == 0) = false := by rw [HX7.out]; rfl
  have x1 : (x % 7 == 1) = false := by rw [HX7.out]; rfl
  have x2 : (x % 7 == 2) = false := by rw [HX7.out]; rfl
  have x3 : (x % 7 == 3) = false := by rw [HX7.out]; rfl
  have x4 : (x % 7 == 4) = true := by rw [HX7.out]; rfl
  have x5 : (x % 7 == 5) = false := by rw [HX7.out]; rfl
  have HQ := hide (bq_new w3 (.int .i64 fr) (.int .i64 ev) (.int .i64 ct) (.int .i64 un) (.slice D dn dc) (.slice M mn mc) (.slice Y yn yc) 25)
  have HB0 := hide (more (start w3) (.cells #[.int .i64 fr, .int .i64 ev, .int .i64 ct, .int .i64 un, .slice D dn dc, .slice M mn mc, .slice Y yn yc] 25))
  have hXge : w.heap.size ≤ w3.heap.size := HBW.out.size
  have hXlt : w.heap.size < w3.heap.size := block_lt_of_cell s0
  have HL2 := hide (HL.out.keep HB0.out)
  have t0 := cell_keep HB0.out s0
  have t1 := cell_keep HB0.out s1
  have t2 := cell_keep HB0.out s2
  have t3 := cell_keep HB0.out s3
  have t4 := cell_keep HB0.out s4
  have t5 := cell_keep HB0.out s5
  have t6 := cell_keep HB0.out s6
  have q0 := HQ.out.c0
  have q1 := HQ.out.c1
  have q2 := HQ.out.c2
  have q3 := HQ.out.c3
  have q4 := HQ.out.c4
  have q5 := HQ.out.c5
  have q6 := HQ.out.c6
  have qf := HQ.out.f
  go_upto_region 6 with (fail)
  generalize w3.alloc (.cells #[.int .i64 fr, .int .i64 ev, .int .i64 ct, .int .i64 un, .slice D dn dc, .slice M mn mc, .slice Y yn yc] 25) = W1 at *
  have hBX : w3.heap.size + 1 ≤ W1.heap.size := HQ.out.lt
  have hlen : ([-32] ++ ms).length = (ms.length + 1) := by simp
  have hWlt : w.heap.size < W1.heap.size := block_lt_of_cell t5
  have HM1 := hide (RowI.keep HL2.out.m (more (start W1) (.cells #[.int .i64 (-32)] 3)))
  have hlit : OwnI (W1.alloc (.cells #[.int .i64 (-32)] 3)) (w3.heap.size + 1) (.slice (some ⟨W1.heap.size, 0, none⟩) 1 1) [-32] := World.ownsRow_lit W1 #[.int .i64 (-32)] 1 hBX (by unfold maxLen; omega) rfl
  have hBA : w3.heap.size + 1 ≤ (W1.alloc (.cells #[.int .i64 (-32)] 3)).heap.size := by simp only [World.size_alloc]; omega
  go_wp2_with (first | (at_builtin; refine wp_rowI (l := [-32]) (k := ms) rfl _ _ rfl rfl rfl HL.out.mn hz.2.1 HM1.out hlit hBA (by simp) (by omega) ?_; intro v2 U2 hown2 hbU2; obtain ⟨A2, cc2, hv2, _⟩ := OwnI.row hown2; rw [hlen] at hv2; subst hv2; have HU := hide (((Below.refl (w3.heap.size + 1) W1).alloc hBX _).trans hbU2); have HQ3 := hide (HQ.out.keep HU.out (Nat.lt_succ_self _)); have k0 := HQ3.out.c0; have k1 := HQ3.out.c1; have k2 := HQ3.out.c2; have k3 := HQ3.out.c3; have k4 := HQ3.out.c4; have k5 := HQ3.out.c5; have k6 := HQ3.out.c6; have kf := HQ3.out.f 5; have HOW := hide hown2; clear hown2 hbU2))
  have HQ2 := hide (HQ3.out.set5 (.slice A2 (ms.length + 1) cc2))
  have HB1 := hide (Below.setCell (HB0.out.trans (HU.out.mono (Nat.le_succ w3.heap.size))) (p := ⟨w3.heap.size, 5, none⟩) (Nat.le_refl _) (.slice A2 (ms.length + 1) cc2))
  obtain ⟨A3, c3, hv3, hrow3⟩ := OwnI.row (ownsRow_setCell_below HOW.out (a := ⟨w3.heap.size, 5, none⟩) (Nat.lt_succ_self _) (.slice A2 (ms.length + 1) cc2))
  rw [hlen] at hv3
  injection hv3 with e1 _ e3
  subst e1 e3
  generalize U2.setCell ⟨w3.heap.size, 5, none⟩ (.slice A2 (ms.length + 1) cc2) = V at *
  clear HOW HQ3 HU k0 k1 k2 k3 k4 k5 k6 kf HB0 HQ HL2 q0 q1 q2 q3 q4 q5 q6 qf
  have q0 := HQ2.out.c0
  have q1 := HQ2.out.c1
  have q2 := HQ2.out.c2
  have q3 := HQ2.out.c3
  have q4 := HQ2.out.c4
  have q5 := HQ2.out.c5
  have q6 := HQ2.out.c6
  replace HL := hide (HL.out.keep HB1.out)
  have HLQ := hide (Lies.mk HL.out.d HL.out.dn HL.out.dl hrow3 hlen.symm (by rw [hlen]; omega) HL.out.y HL.out.yn HL.out.yl)
  replace s0 := cell_keep HB1.out s0
  replace s1 := cell_keep HB1.out s1
  replace s2 := cell_keep HB1.out s2
  replace s3 := cell_keep HB1.out s3
  replace s4 := cell_keep HB1.out s4
  replace s5 := cell_keep HB1.out s5
  replace s6 := cell_keep HB1.out s6
  have HBX := hide (andthen HBW.out HB1.out)
  clear HB1 HQ2
  refine (ans_is (is_any fr ev ct un D A2 Y dn dc (ms.length + 1) cc2 yn yc ds ([-32] ++ ms) ys _ HLQ.out) HN1.out).mono ?_
  rintro e u0 ⟨rfl, hb0⟩
  replace HBX := hide (andthen HBX.out hb0)
  replace HL := hide (HL.out.keep hb0)
  replace HLQ := hide (HLQ.out.keep hb0)
  replace s0 := cell_keep hb0 s0
  replace s1 := cell_keep hb0 s1
  replace s2 := cell_keep hb0 s2
  replace s3 := cell_keep hb0 s3
  replace s4 := cell_keep hb0 s4
  replace s5 := cell_keep hb0 s5
  replace s6 := cell_keep hb0 s6
  replace q0 := cell_keep hb0 q0
  replace q1 := cell_keep hb0 q1
  replace q2 := cell_keep hb0 q2
  replace q3 := cell_keep hb0 q3
  replace q4 := cell_keep hb0 q4
  replace q5 := cell_keep hb0 q5
  replace q6 := cell_keep hb0 q6
  clear hb0
  go_wp2_with fail
  refine (ans_is (fits_any fr ev ct un D A2 Y dn dc (ms.length + 1) cc2 yn yc ds ([-32] ++ ms) ys 100 _ HLQ.out) HN2.out).mono ?_
  rintro e u1 ⟨rfl, hb1⟩
  replace HBX := hide (andthen HBX.out hb1)
  replace HL := hide (HL.out.keep hb1)
  replace HLQ := hide (HLQ.out.keep hb1)
  replace s0 := cell_keep hb1 s0
  replace s1 := cell_keep hb1 s1
  replace s2 := cell_keep hb1 s2
  replace s3 := cell_keep hb1 s3
  replace s4 := cell_keep hb1 s4
  replace s5 := cell_keep hb1 s5
  replace s6 := cell_keep hb1 s6
  replace q0 := cell_keep hb1 q0
  replace q1 := cell_keep hb1 q1
  replace q2 := cell_keep hb1 q2
  replace q3 := cell_keep hb1 q3
  replace q4 := cell_keep hb1 q4
  replace q5 := cell_keep hb1 q5
  replace q6 := cell_keep hb1 q6
  clear hb1
  go_wp2_with fail
  refine (ans_is (same_any fr ev ct un D M Y dn dc mn mc yn yc fr ev ct un D A2 Y dn dc (ms.length + 1) cc2 yn yc ds ms ys ds ([-32] ++ ms) ys _ HL.out HLQ.out) HN3.out).mono ?_
  rintro e u2 ⟨rfl, hb2⟩
  replace HBX := hide (andthen HBX.out hb2)
  replace HL := hide (HL.out.keep hb2)
  replace HLQ := hide (HLQ.out.keep hb2)
  replace s0 := cell_keep hb2 s0
  replace s1 := cell_keep hb2 s1
  replace s2 := cell_keep hb2 s2
  replace s3 := cell_keep hb2 s3
  replace s4 := cell_keep hb2 s4
  replace s5 := cell_keep hb2 s5
  replace s6 := cell_keep hb2 s6
  replace q0 := cell_keep hb2 q0
  replace q1 := cell_keep hb2 q1
  replace q2 := cell_keep hb2 q2
  replace q3 := cell_keep hb2 q3
  replace q4 := cell_keep hb2 q4
  replace q5 := cell_keep hb2 q5
  replace q6 := cell_keep hb2 q6
  clear hb2
  go_wp2_with fail
  go_ret
  exact ⟨rfl, HBX.out⟩

set_option maxRecDepth 100000 in
set_option maxHeartbeats 2000000 in
theorem spoils_5 (fr ev ct un : Int) (D M Y : Option Addr) (dn dc mn mc yn yc : Nat) (ds : List Wd) (ms ys : List Int) (x : Int) (w : World) (x1 : 0 ≤ x) (x2 : x ≤ 255) (h : Lies w D dn M mn Y yn ds ms ys) (hz : Zer D M Y dc mc yc) (h20 : ds.length ≤ 20 ∧ ms.length ≤ 20 ∧ ys.length ≤ 20) (hfew : fewB dn mn yn = true) (his : isB ⟨fr, ev, ct, un, ds, ms, ys⟩ = true) (h0 : fr ≠ 0) (hq : x % 7 = 5) :
    Calls Try.prog 4 #[.agg #[.int .i64 fr, .int .i64 ev, .int .i64 ct, .int .i64 un, .slice D dn dc, .slice M mn mc, .slice Y yn yc], .int .u8 x] w (Ans w (.bool true)) := by
  have hrec : recB ⟨fr, ev, ct, un, ds, ms, ys⟩ = true := by rw [← isB_1 ⟨fr, ev, ct, un, ds, ms, ys⟩ h0]; exact his
  have hsp : recB ⟨fr, ev, ct, un, [] ++ ds ++ [(6, 0)], ms, ys⟩ = false := bad_ds fr ev ct un ds ms ys
  have HN1 := hide (spoilt_is ⟨fr, ev, ct, un, [] ++ ds ++ [(6, 0)], ms, ys⟩ (by exact h0) hsp)
  have HN2 := hide (spoilt_fits ⟨fr, ev, ct, un, [] ++ ds ++ [(6, 0)], ms, ys⟩ 100 hsp)
  have HN3 := hide (spoilt_same ⟨fr, ev, ct, un, ds, ms, ys⟩ ⟨fr, ev, ct, un, [] ++ ds ++ [(6, 0)], ms, ys⟩ hrec hsp)
  have HIS := hide his
  have HX7 := hide hq
  have HFEW := hide hfew
  have g0 : (fr == 0) = false := by rw [beq_eq_false_iff_ne]; exact h0
  have HBX := hide (more (start w) (.cells #[.int .i64 fr, .int .i64 ev, .int .i64 ct, .int .i64 un, .slice D dn dc, .slice M mn mc, .slice Y yn yc] 25))
  have s0 : (w.alloc (.cells #[.int .i64 fr, .int .i64 ev, .int .i64 ct, .int .i64 un, .slice D dn dc, .slice M mn mc, .slice Y yn yc] 25)).cell? ⟨w.heap.size, 0, none⟩ = some (.int .i64 fr) := by rw [World.cell?_alloc_at _ _ _ _ rfl]; rfl
  have s1 : (w.alloc (.cells #[.int .i64 fr, .int .i64 ev, .int .i64 ct, .int .i64 un, .slice D dn dc, .slice M mn mc, .slice Y yn yc] 25)).cell? ⟨w.heap.size, 1, none⟩ = some (.int .i64 ev) := by rw [World.cell?_alloc_at _ _ _ _ rfl]; rfl
  have s2 : (w.alloc (.cells #[.int .i64 fr, .int .i64 ev, .int .i64 ct, .int .i64 un, .slice D dn dc, .slice M mn mc, .slice Y yn yc] 25)).cell? ⟨w.heap.size, 2, none⟩ = some (.int .i64 ct) := by rw [World.cell?_alloc_at _ _ _ _ rfl]; rfl
  have s3 : (w.alloc (.cells #[.int .i64 fr, .int .i64 ev, .int .i64 ct, .int .i64 un, .slice D dn dc, .slice M mn mc, .slice Y yn yc] 25)).cell? ⟨w.heap.size, 3, none⟩ = some (.int .i64 un) := by rw [World.cell?_alloc_at _ _ _ _ rfl]; rfl
  have s4 : (w.alloc (.cells #[.int .i64 fr, .int .i64 ev, .int .i64 ct, .int .i64 un, .slice D dn dc, .slice M mn mc, .slice Y yn yc] 25)).cell? ⟨w.heap.size, 4, none⟩ = some (.slice D dn dc) := by rw [World.cell?_alloc_at _ _ _ _ rfl]; rfl
  have s5 : (w.alloc (.cells #[.int .i64 fr, .int .i64 ev, .int .i64 ct, .int .i64 un, .slice D dn dc, .slice M mn mc, .slice Y yn yc] 25)).cell? ⟨w.heap.size, 5, none⟩ = some (.slice M mn mc) := by rw [World.cell?_alloc_at _ _ _ _ rfl]; rfl
  have s6 : (w.alloc (.cells #[.int .i64 fr, .int .i64 ev, .int .i64 ct, .int .i64 un, .slice D dn dc, .slice M mn mc, .slice Y yn yc] 25)).cell? ⟨w.heap.size, 6, none⟩ = some (.slice Y yn yc) := by rw [World.cell?_alloc_at _ _ _ _ rfl]; rfl
  have HL := hide (h.keep HBX.out)
  clear h his hq hfew h0 hrec hsp
  go_enter Try.func4, Try.ntmps4
  go_wp2_with fail
  refine (known_any _).mono ?_
  rintro e w1 ⟨rfl, hb1⟩
  replace HBX := hide (andthen HBX.out hb1)
  replace HL := hide (HL.out.keep hb1)
  replace s0 := cell_keep hb1 s0
  replace s1 := cell_keep hb1 s1
  replace s2 := cell_keep hb1 s2
  replace s3 := cell_keep hb1 s3
  replace s4 := cell_keep hb1 s4
  replace s5 := cell_keep hb1 s5
  replace s6 := cell_keep hb1 s6
  clear hb1
  go_wp2_with fail
  refine (ans_is (few_any fr ev ct un D M Y dn dc mn mc yn yc _) HFEW.out).mono ?_
  rintro e w2 ⟨rfl, hb1⟩
  replace HBX := hide (andthen HBX.out hb1)
  replace HL := hide (HL.out.keep hb1)
  replace s0 := cell_keep hb1 s0
  replace s1 := cell_keep hb1 s1
  replace s2 := cell_keep hb1 s2
  replace s3 := cell_keep hb1 s3
  replace s4 := cell_keep hb1 s4
  replace s5 := cell_keep hb1 s5
  replace s6 := cell_keep hb1 s6
  clear hb1
  go_wp2_with fail
  refine (ans_is (is_any fr ev ct un D M Y dn dc mn mc yn yc ds ms ys _ HL.out) HIS.out).mono ?_
  rintro e w3 ⟨rfl, hb1⟩
  have HBW := hide (andthen HBX.out hb1)
  replace HL := hide (HL.out.keep hb1)
  replace s0 := cell_keep hb1 s0
  replace s1 := cell_keep hb1 s1
  replace s2 := cell_keep hb1 s2
  replace s3 := cell_keep hb1 s3
  replace s4 := cell_keep hb1 s4
  replace s5 := cell_keep hb1 s5
  replace s6 := cell_keep hb1 s6
  clear hb1 HBX
  have x0 : (x % 7 == 0) = false := by rw [HX7.out]; rfl
  have x1 : (x % 7 == 1) = false := by rw [HX7.out]; rfl
  have x2 : (x % 7 == 2) = false := by rw [HX7.out]; rfl
  have x3 : (x % 7 == 3) = false := by rw [HX7.out]; rfl
  have x4 : (x % 7 == 4) = false := by rw [HX7.out]; rfl
  have x5 : (x % 7 == 5) = true := by rw [HX7.out]; rfl
  have HQ := hide (bq_new w3 (.int .i64 fr) (.int .i64 ev) (.int .i64 ct) (.int .i64 un) (.slice D dn dc) (.slice M mn mc) (.slice Y yn yc) 25)
  have HB0 := hide (more (start w3) (.cells #[.int .i64 fr, .int .i64 ev, .int .i64 ct, .int .i64 un, .slice D dn dc, .slice M mn mc, .slice Y yn yc] 25))
  have hXge : w.heap.size ≤ w3.heap.size := HBW.out.size
  have hXlt : w.heap.size < w3.heap.size := block_lt_of_cell s0
  have HL2 := hide (HL.out.keep HB0.out)
  have t0 := cell_keep HB0.out s0
  have t1 := cell_keep HB0.out s1
  have t2 := cell_keep HB0.out s2
  have t3 := cell_keep HB0.out s3
  have t4 := cell_keep HB0.out s4
  have t5 := cell_keep HB0.out s5
  have t6 := cell_keep HB0.out s6
  have q0 := HQ.out.c0
  have q1 := HQ.out.c1
  have q2 := HQ.out.c2
  have q3 := HQ.out.c3
  have q4 := HQ.out.c4
  have q5 := HQ.out.c5
  have q6 := HQ.out.c6
  have qf := HQ.out.f
  go_upto_region 6 with (fail)
  generalize w3.alloc (.cells #[.int .i64 fr, .int .i64 ev, .int .i64 ct, .int .i64 un, .slice D dn dc, .slice M mn mc, .slice Y yn yc] 25) = W1 at *
  have hBX : w3.heap.size + 1 ≤ W1.heap.size := HQ.out.lt
  have hlen : ([] ++ ds ++ [((6 : Int), (0 : Int))]).length = (ds.length + 1) := by simp
  have hlen1 : (([] : List Wd) ++ ds).length = ds.length := by simp
  have HD1 := hide (HL2.out.d)
  go_wp2_with (first | (at_builtin; refine wp_oneD (l := [] ++ ds) (p := (6, 0)) rfl _ _ rfl rfl rfl rfl hown1 hB1 (by simp; omega) ?_; intro v2 U2 hown2 hbU2; obtain ⟨A2, cc2, hv2, _⟩ := OwnD.row hown2; rw [hlen] at hv2; subst hv2; have HU := hide (hbU1.trans hbU2); have HQ3 := hide (HQ.out.keep HU.out (Nat.lt_succ_self _)); have k0 := HQ3.out.c0; have k1 := HQ3.out.c1; have k2 := HQ3.out.c2; have k3 := HQ3.out.c3; have k4 := HQ3.out.c4; have k5 := HQ3.out.c5; have k6 := HQ3.out.c6; have kf := HQ3.out.f 4; have HOW := hide hown2; clear hown2 hbU2 hown1 hbU1) | (at_builtin; refine wp_rowD (l := []) (k := ds) rfl _ _ rfl rfl rfl HL.out.dn hz.1 HD1.out (ownD_nil W1 (w3.heap.size + 1)) hBX (Nat.zero_le _) (by omega) ?_; intro v1 U1 hown1 hbU1; obtain ⟨A1, cc1, hv1, _⟩ := OwnD.row hown1; rw [hlen1] at hv1; subst hv1; have hB1 : w3.heap.size + 1 ≤ U1.heap.size := Nat.le_trans hBX hbU1.size))
  have HQ2 := hide (HQ3.out.set4 (.slice A2 (ds.length + 1) cc2))
  have HB1 := hide (Below.setCell (HB0.out.trans (HU.out.mono (Nat.le_succ w3.heap.size))) (p := ⟨w3.heap.size, 4, none⟩) (Nat.le_refl _) (.slice A2 (ds.length + 1) cc2))
  obtain ⟨A3, c3, hv3, hrow3⟩ := OwnD.row (ownsRow_setCell_below HOW.out (a := ⟨w3.heap.size, 4, none⟩) (Nat.lt_succ_self _) (.slice A2 (ds.length + 1) cc2))
  rw [hlen] at hv3
  injection hv3 with e1 _ e3
  subst e1 e3
  generalize U2.setCell ⟨w3.heap.size, 4, none⟩ (.slice A2 (ds.length + 1) cc2) = V at *
  clear HOW HQ3 HU k0 k1 k2 k3 k4 k5 k6 kf HB0 HQ HL2 q0 q1 q2 q3 q4 q5 q6 qf
  have q0 := HQ2.out.c0
  have q1 := HQ2.out.c1
  have q2 := HQ2.out.c2
  have q3 := HQ2.out.c3
  have q4 := HQ2.out.c4
  have q5 := HQ2.out.c5
  have q6 := HQ2.out.c6
  replace HL := hide (HL.out.keep HB1.out)
  have HLQ := hide (Lies.mk hrow3 hlen.symm (by rw [hlen]; omega) HL.out.m HL.out.mn HL.out.ml HL.out.y HL.out.yn HL.out.yl)
  replace s0 := cell_keep HB1.out s0
  replace s1 := cell_keep HB1.out s1
  replace s2 := cell_keep HB1.out s2
  replace s3 := cell_keep HB1.out s3
  replace s4 := cell_keep HB1.out s4
  replace s5 := cell_keep HB1.out s5
  replace s6 := cell_keep HB1.out s6
  have HBX := hide (andthen HBW.out HB1.out)
  clear HB1 HQ2
  refine (ans_is (is_any fr ev ct un A2 M Y (ds.length + 1) cc2 mn mc yn yc ([] ++ ds ++ [(6, 0)]) ms ys _ HLQ.out) HN1.out).mono ?_
  rintro e u0 ⟨rfl, hb0⟩
  replace HBX := hide (andthen HBX.out hb0)
  replace HL := hide (HL.out.keep hb0)
  replace HLQ := hide (HLQ.out.keep hb0)
  replace s0 := cell_keep hb0 s0
  replace s1 := cell_keep hb0 s1
  replace s2 := cell_keep hb0 s2
  replace s3 := cell_keep hb0 s3
  replace s4 := cell_keep hb0 s4
  replace s5 := cell_keep hb0 s5
  replace s6 := cell_keep hb0 s6
  replace q0 := cell_keep hb0 q0
  replace q1 := cell_keep hb0 q1
  replace q2 := cell_keep hb0 q2
  replace q3 := cell_keep hb0 q3
  replace q4 := cell_keep hb0 q4
  replace q5 := cell_keep hb0 q5
  replace q6 := cell_keep hb0 q6
  clear hb0
  go_wp2_with fail
  refine (ans_is (fits_any fr ev ct un A2 M Y (ds.length + 1) cc2 mn mc yn yc ([] ++ ds ++ [(6, 0)]) ms ys 100 _ HLQ.out) HN2.out).mono ?_
  rintro e u1 ⟨rfl, hb1⟩
  replace HBX := hide (andthen HBX.out hb1)
  replace HL := hide (HL.out.keep hb1)
  replace HLQ := hide (HLQ.out.keep hb1)
  replace s0 := cell_keep hb1 s0
  replace s1 := cell_keep hb1 s1
  replace s2 := cell_keep hb1 s2
  replace s3 := cell_keep hb1 s3
  replace s4 := cell_keep hb1 s4
  replace s5 := cell_keep hb1 s5
  replace s6 := cell_keep hb1 s6
  replace q0 := cell_keep hb1 q0
  replace q1 := cell_keep hb1 q1
  replace q2 := cell_keep hb1 q2
  replace q3 := cell_keep hb1 q3
  replace q4 := cell_keep hb1 q4
  replace q5 := cell_keep hb1 q5
  replace q6 := cell_keep hb1 q6
  clear hb1
  go_wp2_with fail
  refine (ans_is (same_any fr ev ct un D M Y dn dc mn mc yn yc fr ev ct un A2 M Y (ds.length + 1) cc2 mn mc yn yc ds ms ys ([] ++ ds ++ [(6, 0)]) ms ys _ HL.out HLQ.out) HN3.out).mono ?_
  rintro e u2 ⟨rfl, hb2⟩
  replace HBX := hide (andthen HBX.out hb2)
  replace HL := hide (HL.out.keep hb2)
  replace HLQ := hide (HLQ.out.keep hb2)
  replace s0 := cell_keep hb2 s0
  replace s1 := cell_keep hb2 s1
  replace s2 := cell_keep hb2 s2
  replace s3 := cell_keep hb2 s3
  replace s4 := cell_keep hb2 s4
  replace s5 := cell_keep hb2 s5
  replace s6 := cell_keep hb2 s6
  replace q0 := cell_keep hb2 q0
  replace q1 := cell_keep hb2 q1
  replace q2 := cell_keep hb2 q2
  replace q3 := cell_keep hb2 q3
  replace q4 := cell_keep hb2 q4
  replace q5 := cell_keep hb2 q5
  replace q6 := cell_keep hb2 q6
  clear hb2
  go_wp2_with fail
  go_ret
  exact ⟨rfl, HBX.out⟩

set_option maxRecDepth 100000 in
set_option maxHeartbeats 2000000 in
theorem spoils_6 (fr ev ct un : Int) (D M Y : Option Addr) (dn dc mn mc yn yc : Nat) (ds : List Wd) (ms ys : List Int) (x : Int) (w : World) (x1 : 0 ≤ x) (x2 : x ≤ 255) (h : Lies w D dn M mn Y yn ds ms ys) (_hz : Zer D M Y dc mc yc) (_h20 : ds.length ≤ 20 ∧ ms.length ≤ 20 ∧ ys.length ≤ 20) (hfew : fewB dn mn yn = true) (his : isB ⟨fr, ev, ct, un, ds, ms, ys⟩ = true) (h0 : fr ≠ 0) (hq : x % 7 = 6) :
    Calls Try.prog 4 #[.agg #[.int .i64 fr, .int .i64 ev, .int .i64 ct, .int .i64 un, .slice D dn dc, .slice M mn mc, .slice Y yn yc], .int .u8 x] w (Ans w (.bool true)) := by
  have hrec : recB ⟨fr, ev, ct, un, ds, ms, ys⟩ = true := by rw [← isB_1 ⟨fr, ev, ct, un, ds, ms, ys⟩ h0]; exact his
  have hsp : recB ⟨fr, ev, ct, 52596000, ds, ms, ys⟩ = false := bad_nums fr ev ct 52596000 ds ms ys (by omega)
  have HN1 := hide (spoilt_is ⟨fr, ev, ct, 52596000, ds, ms, ys⟩ (by exact h0) hsp)
  have HN2 := hide (spoilt_fits ⟨fr, ev, ct, 52596000, ds, ms, ys⟩ 100 hsp)
  have HN3 := hide (spoilt_same ⟨fr, ev, ct, un, ds, ms, ys⟩ ⟨fr, ev, ct, 52596000, ds, ms, ys⟩ hrec hsp)
  have HIS := hide his
  have HX7 := hide hq
  have HFEW := hide hfew
  have g0 : (fr == 0) = false := by rw [beq_eq_false_iff_ne]; exact h0
  have HBX := hide (more (start w) (.cells #[.int .i64 fr, .int .i64 ev, .int .i64 ct, .int .i64 un, .slice D dn dc, .slice M mn mc, .slice Y yn yc] 25))
  have s0 : (w.alloc (.cells #[.int .i64 fr, .int .i64 ev, .int .i64 ct, .int .i64 un, .slice D dn dc, .slice M mn mc, .slice Y yn yc] 25)).cell? ⟨w.heap.size, 0, none⟩ = some (.int .i64 fr) := by rw [World.cell?_alloc_at _ _ _ _ rfl]; rfl
  have s1 : (w.alloc (.cells #[.int .i64 fr, .int .i64 ev, .int .i64 ct, .int .i64 un, .slice D dn dc, .slice M mn mc, .slice Y yn yc] 25)).cell? ⟨w.heap.size, 1, none⟩ = some (.int .i64 ev) := by rw [World.cell?_alloc_at _ _ _ _ rfl]; rfl
  have s2 : (w.alloc (.cells #[.int .i64 fr, .int .i64 ev, .int .i64 ct, .int .i64 un, .slice D dn dc, .slice M mn mc, .slice Y yn yc] 25)).cell? ⟨w.heap.size, 2, none⟩ = some (.int .i64 ct) := by rw [World.cell?_alloc_at _ _ _ _ rfl]; rfl
  have s3 : (w.alloc (.cells #[.int .i64 fr, .int .i64 ev, .int .i64 ct, .int .i64 un, .slice D dn dc, .slice M mn mc, .slice Y yn yc] 25)).cell? ⟨w.heap.size, 3, none⟩ = some (.int .i64 un) := by rw [World.cell?_alloc_at _ _ _ _ rfl]; rfl
  have s4 : (w.alloc (.cells #[.int .i64 fr, .int .i64 ev, .int .i64 ct, .int .i64 un, .slice D dn dc, .slice M mn mc, .slice Y yn yc] 25)).cell? ⟨w.heap.size, 4, none⟩ = some (.slice D dn dc) := by rw [World.cell?_alloc_at _ _ _ _ rfl]; rfl
  have s5 : (w.alloc (.cells #[.int .i64 fr, .int .i64 ev, .int .i64 ct, .int .i64 un, .slice D dn dc, .slice M mn mc, .slice Y yn yc] 25)).cell? ⟨w.heap.size, 5, none⟩ = some (.slice M mn mc) := by rw [World.cell?_alloc_at _ _ _ _ rfl]; rfl
  have s6 : (w.alloc (.cells #[.int .i64 fr, .int .i64 ev, .int .i64 ct, .int .i64 un, .slice D dn dc, .slice M mn mc, .slice Y yn yc] 25)).cell? ⟨w.heap.size, 6, none⟩ = some (.slice Y yn yc) := by rw [World.cell?_alloc_at _ _ _ _ rfl]; rfl
  have HL := hide (h.keep HBX.out)
  clear h his hq hfew h0 hrec hsp
  go_enter Try.func4, Try.ntmps4
  go_wp2_with fail
  refine (known_any _).mono ?_
  rintro e w1 ⟨rfl, hb1⟩
  replace HBX := hide (andthen HBX.out hb1)
  replace HL := hide (HL.out.keep hb1)
  replace s0 := cell_keep hb1 s0
  replace s1 := cell_keep hb1 s1
  replace s2 := cell_keep hb1 s2
  replace s3 := cell_keep hb1 s3
  replace s4 := cell_keep hb1 s4
  replace s5 := cell_keep hb1 s5
  replace s6 := cell_keep hb1 s6
  clear hb1
  go_wp2_with fail
  refine (ans_is (few_any fr ev ct un D M Y dn dc mn mc yn yc _) HFEW.out).mono ?_
  rintro e w2 ⟨rfl, hb1⟩
  replace HBX := hide (andthen HBX.out hb1)
  replace HL := hide (HL.out.keep hb1)
  replace s0 := cell_keep hb1 s0
  replace s1 := cell_keep hb1 s1
  replace s2 := cell_keep hb1 s2
  replace s3 := cell_keep hb1 s3
  replace s4 := cell_keep hb1 s4
  replace s5 := cell_keep hb1 s5
  replace s6 := cell_keep hb1 s6
  clear hb1
  go_wp2_with fail
  refine (ans_is (is_any fr ev ct un D M Y dn dc mn mc yn yc ds ms ys _ HL.out) HIS.out).mono ?_
  rintro e w3 ⟨rfl, hb1⟩
  have HBW := hide (andthen HBX.out hb1)
  replace HL := hide (HL.out.keep hb1)
  replace s0 := cell_keep hb1 s0
  replace s1 := cell_keep hb1 s1
  replace s2 := cell_keep hb1 s2
  replace s3 := cell_keep hb1 s3
  replace s4 := cell_keep hb1 s4
  replace s5 := cell_keep hb1 s5
  replace s6 := cell_keep hb1 s6
  clear hb1 HBX
  have x0 : (x % 7 == 0) = false := by rw [HX7.out]; rfl
  have x1 : (x % 7 == 1) = false := by rw [HX7.out]; rfl
  have x2 : (x % 7 == 2) = false := by rw [HX7.out]; rfl
  have x3 : (x % 7 == 3) = false := by rw [HX7.out]; rfl
  have x4 : (x % 7 == 4) = false := by rw [HX7.out]; rfl
  have x5 : (x % 7 == 5) = false := by rw [HX7.out]; rfl
  have HQ := hide (bq_new w3 (.int .i64 fr) (.int .i64 ev) (.int .i64 ct) (.int .i64 un) (.slice D dn dc) (.slice M mn mc) (.slice Y yn yc) 25)
  have HB0 := hide (more (start w3) (.cells #[.int .i64 fr, .int .i64 ev, .int .i64 ct, .int .i64 un, .slice D dn dc, .slice M mn mc, .slice Y yn yc] 25))
  have hXge : w.heap.size ≤ w3.heap.size := HBW.out.size
  have hXlt : w.heap.size < w3.heap.size := block_lt_of_cell s0
  have HL2 := hide (HL.out.keep HB0.out)
  have t0 := cell_keep HB0.out s0
  have t1 := cell_keep HB0.out s1
  have t2 := cell_keep HB0.out s2
  have t3 := cell_keep HB0.out s3
  have t4 := cell_keep HB0.out s4
  have t5 := cell_keep HB0.out s5
  have t6 := cell_keep HB0.out s6
  have q0 := HQ.out.c0
  have q1 := HQ.out.c1
  have q2 := HQ.out.c2
  have q3 := HQ.out.c3
  have q4 := HQ.out.c4
  have q5 := HQ.out.c5
  have q6 := HQ.out.c6
  have qf := HQ.out.f
  go_upto_region 6 with (fail)
  generalize w3.alloc (.cells #[.int .i64 fr, .int .i64 ev, .int .i64 ct, .int .i64 un, .slice D dn dc, .slice M mn mc, .slice Y yn yc] 25) = W1 at *
  go_wp2_with fail
  have HQ2 := hide ((HQ.out).set3 (.int .i64 52596000))
  have HB1 := hide (Below.setCell HB0.out (p := ⟨w3.heap.size, 3, none⟩) (Nat.le_refl _) (.int .i64 52596000))
  clear HQ HB0 HL2 q0 q1 q2 q3 q4 q5 q6 qf
  generalize (W1.setCell ⟨w3.heap.size, 3, none⟩ (.int .i64 52596000)) = V at *
  have q0 := HQ2.out.c0
  have q1 := HQ2.out.c1
  have q2 := HQ2.out.c2
  have q3 := HQ2.out.c3
  have q4 := HQ2.out.c4
  have q5 := HQ2.out.c5
  have q6 := HQ2.out.c6
  replace HL := hide (HL.out.keep HB1.out)
  have HLQ := HL
  replace s0 := cell_keep HB1.out s0
  replace s1 := cell_keep HB1.out s1
  replace s2 := cell_keep HB1.out s2
  replace s3 := cell_keep HB1.out s3
  replace s4 := cell_keep HB1.out s4
  replace s5 := cell_keep HB1.out s5
  replace s6 := cell_keep HB1.out s6
  have HBX := hide (andthen HBW.out HB1.out)
  clear HB1 HQ2
  refine (ans_is (is_any fr ev ct 52596000 D M Y dn dc mn mc yn yc ds ms ys _ HLQ.out) HN1.out).mono ?_
  rintro e u0 ⟨rfl, hb0⟩
  replace HBX := hide (andthen HBX.out hb0)
  replace HL := hide (HL.out.keep hb0)
  replace HLQ := hide (HLQ.out.keep hb0)
  replace s0 := cell_keep hb0 s0
  replace s1 := cell_keep hb0 s1
  replace s2 := cell_keep hb0 s2
  replace s3 := cell_keep hb0 s3
  replace s4 := cell_keep hb0 s4
  replace s5 := cell_keep hb0 s5
  replace s6 := cell_keep hb0 s6
  replace q0 := cell_keep hb0 q0
  replace q1 := cell_keep hb0 q1
  replace q2 := cell_keep hb0 q2
  replace q3 := cell_keep hb0 q3
  replace q4 := cell_keep hb0 q4
  replace q5 := cell_keep hb0 q5
  replace q6 := cell_keep hb0 q6
  clear hb0
  go_wp2_with fail
  refine (ans_is (fits_any fr ev ct 52596000 D M Y dn dc mn mc yn yc ds ms ys 100 _ HLQ.out) HN2.out).mono ?_
  rintro e u1 ⟨rfl, hb1⟩
  replace HBX := hide (andthen HBX.out hb1)
  replace HL := hide (HL.out.keep hb1)
  replace HLQ := hide (HLQ.out.keep hb1)
  replace s0 := cell_keep hb1 s0
  replace s1 := cell_keep hb1 s1
  replace s2 := cell_keep hb1 s2
  replace s3 := cell_keep hb1 s3
  replace s4 := cell_keep hb1 s4
  replace s5 := cell_keep hb1 s5
  replace s6 := cell_keep hb1 s6
  replace q0 := cell_keep hb1 q0
  replace q1 := cell_keep hb1 q1
  replace q2 := cell_keep hb1 q2
  replace q3 := cell_keep hb1 q3
  replace q4 := cell_keep hb1 q4
  replace q5 := cell_keep hb1 q5
  replace q6 := cell_keep hb1 q6
  clear hb1
  go_wp2_with fail
  refine (ans_is (same_any fr ev ct un D M Y dn dc mn mc yn yc fr ev ct 52596000 D M Y dn dc mn mc yn yc ds ms ys ds ms ys _ HL.out HLQ.out) HN3.out).mono ?_
  rintro e u2 ⟨rfl, hb2⟩
  replace HBX := hide (andthen HBX.out hb2)
  replace HL := hide (HL.out.keep hb2)
  replace HLQ := hide (HLQ.out.keep hb2)
  replace s0 := cell_keep hb2 s0
  replace s1 := cell_keep hb2 s1
  replace s2 := cell_keep hb2 s2
  replace s3 := cell_keep hb2 s3
  replace s4 := cell_keep hb2 s4
  replace s5 := cell_keep hb2 s5
  replace s6 := cell_keep hb2 s6
  replace q0 := cell_keep hb2 q0
  replace q1 := cell_keep hb2 q1
  replace q2 := cell_keep hb2 q2
  replace q3 := cell_keep hb2 q3
  replace q4 := cell_keep hb2 q4
  replace q5 := cell_keep hb2 q5
  replace q6 := cell_keep hb2 q6
  clear hb2
  go_wp2_with fail
  go_ret
  exact ⟨rfl, HBX.out⟩

set_option maxRecDepth 100000 in
set_option maxHeartbeats 2000000 in
theorem spoils_few (fr ev ct un : Int) (D M Y : Option Addr) (dn dc mn mc yn yc : Nat) (x : Int) (w : World) (k : fewB dn mn yn = false) :
    Calls Try.prog 4 #[.agg #[.int .i64 fr, .int .i64 ev, .int .i64 ct, .int .i64 un, .slice D dn dc, .slice M mn mc, .slice Y yn yc], .int .u8 x] w (Ans w (.bool true)) := by
  have K1 := hide k
  have HBX := hide (more (start w) (.cells #[.int .i64 fr, .int .i64 ev, .int .i64 ct, .int .i64 un, .slice D dn dc, .slice M mn mc, .slice Y yn yc] 25))
  have s0 : (w.alloc (.cells #[.int .i64 fr, .int .i64 ev, .int .i64 ct, .int .i64 un, .slice D dn dc, .slice M mn mc, .slice Y yn yc] 25)).cell? ⟨w.heap.size, 0, none⟩ = some (.int .i64 fr) := by rw [World.cell?_alloc_at _ _ _ _ rfl]; rfl
  have s1 : (w.alloc (.cells #[.int .i64 fr, .int .i64 ev, .int .i64 ct, .int .i64 un, .slice D dn dc, .slice M mn mc, .slice Y yn yc] 25)).cell? ⟨w.heap.size, 1, none⟩ = some (.int .i64 ev) := by rw [World.cell?_alloc_at _ _ _ _ rfl]; rfl
  have s2 : (w.alloc (.cells #[.int .i64 fr, .int .i64 ev, .int .i64 ct, .int .i64 un, .slice D dn dc, .slice M mn mc, .slice Y yn yc] 25)).cell? ⟨w.heap.size, 2, none⟩ = some (.int .i64 ct) := by rw [World.cell?_alloc_at _ _ _ _ rfl]; rfl
  have s3 : (w.alloc (.cells #[.int .i64 fr, .int .i64 ev, .int .i64 ct, .int .i64 un, .slice D dn dc, .slice M mn mc, .slice Y yn yc] 25)).cell? ⟨w.heap.size, 3, none⟩ = some (.int .i64 un) := by rw [World.cell?_alloc_at _ _ _ _ rfl]; rfl
  have s4 : (w.alloc (.cells #[.int .i64 fr, .int .i64 ev, .int .i64 ct, .int .i64 un, .slice D dn dc, .slice M mn mc, .slice Y yn yc] 25)).cell? ⟨w.heap.size, 4, none⟩ = some (.slice D dn dc) := by rw [World.cell?_alloc_at _ _ _ _ rfl]; rfl
  have s5 : (w.alloc (.cells #[.int .i64 fr, .int .i64 ev, .int .i64 ct, .int .i64 un, .slice D dn dc, .slice M mn mc, .slice Y yn yc] 25)).cell? ⟨w.heap.size, 5, none⟩ = some (.slice M mn mc) := by rw [World.cell?_alloc_at _ _ _ _ rfl]; rfl
  have s6 : (w.alloc (.cells #[.int .i64 fr, .int .i64 ev, .int .i64 ct, .int .i64 un, .slice D dn dc, .slice M mn mc, .slice Y yn yc] 25)).cell? ⟨w.heap.size, 6, none⟩ = some (.slice Y yn yc) := by rw [World.cell?_alloc_at _ _ _ _ rfl]; rfl
  clear k
  go_enter Try.func4, Try.ntmps4
  go_wp2_with fail
  refine (known_any _).mono ?_
  rintro e w1 ⟨rfl, hb1⟩
  replace HBX := hide (andthen HBX.out hb1)
  replace s0 := cell_keep hb1 s0
  replace s1 := cell_keep hb1 s1
  replace s2 := cell_keep hb1 s2
  replace s3 := cell_keep hb1 s3
  replace s4 := cell_keep hb1 s4
  replace s5 := cell_keep hb1 s5
  replace s6 := cell_keep hb1 s6
  clear hb1
  go_wp2_with fail
  refine (ans_is (few_any fr ev ct un D M Y dn dc mn mc yn yc _) K1.out).mono ?_
  rintro e w2 ⟨rfl, hb1⟩
  replace HBX := hide (andthen HBX.out hb1)
  clear hb1 s0 s1 s2 s3 s4 s5 s6
  go_wp2_with fail
  go_ret
  exact ⟨rfl, HBX.out⟩
set_option maxRecDepth 100000 in
set_option maxHeartbeats 2000000 in
theorem spoils_none (fr ev ct un : Int) (D M Y : Option Addr) (dn dc mn mc yn yc : Nat) (ds : List Wd) (ms ys : List Int) (x : Int) (w : World) (h : Lies w D dn M mn Y yn ds ms ys) (k : fewB dn mn yn = true) (b : Bool) (hi : isB ⟨fr, ev, ct, un, ds, ms, ys⟩ = b) (h0 : b = true → fr = 0) :
    Calls Try.prog 4 #[.agg #[.int .i64 fr, .int .i64 ev, .int .i64 ct, .int .i64 un, .slice D dn dc, .slice M mn mc, .slice Y yn yc], .int .u8 x] w (Ans w (.bool true)) := by
  have K1 := hide k
  have HI := hide hi
  have HBX := hide (more (start w) (.cells #[.int .i64 fr, .int .i64 ev, .int .i64 ct, .int .i64 un, .slice D dn dc, .slice M mn mc, .slice Y yn yc] 25))
  have s0 : (w.alloc (.cells #[.int .i64 fr, .int .i64 ev, .int .i64 ct, .int .i64 un, .slice D dn dc, .slice M mn mc, .slice Y yn yc] 25)).cell? ⟨w.heap.size, 0, none⟩ = some (.int .i64 fr) := by rw [World.cell?_alloc_at _ _ _ _ rfl]; rfl
  have s1 : (w.alloc (.cells #[.int .i64 fr, .int .i64 ev, .int .i64 ct, .int .i64 un, .slice D dn dc, .slice M mn mc, .slice Y yn yc] 25)).cell? ⟨w.heap.size, 1, none⟩ = some (.int .i64 ev) := by rw [World.cell?_alloc_at _ _ _ _ rfl]; rfl
  have s2 : (w.alloc (.cells #[.int .i64 fr, .int .i64 ev, .int .i64 ct, .int .i64 un, .slice D dn dc, .slice M mn mc, .slice Y yn yc] 25)).cell? ⟨w.heap.size, 2, none⟩ = some (.int .i64 ct) := by rw [World.cell?_alloc_at _ _ _ _ rfl]; rfl
  have s3 : (w.alloc (.cells #[.int .i64 fr, .int .i64 ev, .int .i64 ct, .int .i64 un, .slice D dn dc, .slice M mn mc, .slice Y yn yc] 25)).cell? ⟨w.heap.size, 3, none⟩ = some (.int .i64 un) := by rw [World.cell?_alloc_at _ _ _ _ rfl]; rfl
  have s4 : (w.alloc (.cells #[.int .i64 fr, .int .i64 ev, .int .i64 ct, .int .i64 un, .slice D dn dc, .slice M mn mc, .slice Y yn yc] 25)).cell? ⟨w.heap.size, 4, none⟩ = some (.slice D dn dc) := by rw [World.cell?_alloc_at _ _ _ _ rfl]; rfl
  have s5 : (w.alloc (.cells #[.int .i64 fr, .int .i64 ev, .int .i64 ct, .int .i64 un, .slice D dn dc, .slice M mn mc, .slice Y yn yc] 25)).cell? ⟨w.heap.size, 5, none⟩ = some (.slice M mn mc) := by rw [World.cell?_alloc_at _ _ _ _ rfl]; rfl
  have s6 : (w.alloc (.cells #[.int .i64 fr, .int .i64 ev, .int .i64 ct, .int .i64 un, .slice D dn dc, .slice M mn mc, .slice Y yn yc] 25)).cell? ⟨w.heap.size, 6, none⟩ = some (.slice Y yn yc) := by rw [World.cell?_alloc_at _ _ _ _ rfl]; rfl
  have HL := hide (h.keep HBX.out)
  clear k hi h
  cases b
  all_goals
    first
      | (have g0 : (fr == 0) = true := beq_iff_eq.2 (h0 rfl))
      | (have g0 : True := trivial)
    clear h0
    go_enter Try.func4, Try.ntmps4
    go_wp2_with fail
    refine (known_any _).mono ?_
    rintro e w1 ⟨rfl, hb1⟩
    replace HBX := hide (andthen HBX.out hb1)
    replace HL := hide (HL.out.keep hb1)
    replace s0 := cell_keep hb1 s0
    replace s1 := cell_keep hb1 s1
    replace s2 := cell_keep hb1 s2
    replace s3 := cell_keep hb1 s3
    replace s4 := cell_keep hb1 s4
    replace s5 := cell_keep hb1 s5
    replace s6 := cell_keep hb1 s6
    clear hb1
    go_wp2_with fail
    refine (ans_is (few_any fr ev ct un D M Y dn dc mn mc yn yc _) K1.out).mono ?_
    rintro e w2 ⟨rfl, hb1⟩
    replace HBX := hide (andthen HBX.out hb1)
    replace HL := hide (HL.out.keep hb1)
    replace s0 := cell_keep hb1 s0
    replace s1 := cell_keep hb1 s1
    replace s2 := cell_keep hb1 s2
    replace s3 := cell_keep hb1 s3
    replace s4 := cell_keep hb1 s4
    replace s5 := cell_keep hb1 s5
    replace s6 := cell_keep hb1 s6
    clear hb1
    go_wp2_with fail
    refine (ans_is (is_any fr ev ct un D M Y dn dc mn mc yn yc ds ms ys _ HL.out) HI.out).mono ?_
    rintro e w3 ⟨rfl, hb1⟩
    replace HBX := hide (andthen HBX.out hb1)
    replace s0 := cell_keep hb1 s0
    clear hb1 HL s1 s2 s3 s4 s5 s6
    go_wp2_with fail
    go_ret
    exact ⟨rfl, HBX.out⟩
theorem spoils_any (fr ev ct un : Int) (D M Y : Option Addr) (dn dc mn mc yn yc : Nat) (ds : List Wd) (ms ys : List Int) (x : Int) (w : World) (h : Lays w D dn M mn Y yn ds ms ys ∧ Zer D M Y dc mc yc) (x1 : 0 ≤ x) (x2 : x ≤ 255) :
    Calls Try.prog 4 #[.agg #[.int .i64 fr, .int .i64 ev, .int .i64 ct, .int .i64 un, .slice D dn dc, .slice M mn mc, .slice Y yn yc], .int .u8 x] w (Ans w (.bool true)) := by
  obtain ⟨hl, hz⟩ := h
  cases k : fewB dn mn yn
  · exact spoils_few fr ev ct un D M Y dn dc mn mc yn yc x w k
  have HL := rows_lies hl k
  have k3 := (fewB_iff dn mn yn).1 k
  have h20 : ds.length ≤ 20 ∧ ms.length ≤ 20 ∧ ys.length ≤ 20 := by
    rw [← HL.dn, ← HL.mn, ← HL.yn]; exact k3
  cases hi : isB ⟨fr, ev, ct, un, ds, ms, ys⟩
  · exact spoils_none fr ev ct un D M Y dn dc mn mc yn yc ds ms ys x w HL k false hi (fun hc => by cases hc)
  by_cases h0 : fr = 0
  · exact spoils_none fr ev ct un D M Y dn dc mn mc yn yc ds ms ys x w HL k true hi (fun _ => h0)
  have hq : x % 7 = 0 ∨ x % 7 = 1 ∨ x % 7 = 2 ∨ x % 7 = 3 ∨ x % 7 = 4 ∨ x % 7 = 5 ∨ x % 7 = 6 := by omega
  rcases hq with hq | hq | hq | hq | hq | hq | hq
  · exact spoils_0 fr ev ct un D M Y dn dc mn mc yn yc ds ms ys x w x1 x2 HL hz h20 k hi h0 hq
  · exact spoils_1 fr ev ct un D M Y dn dc mn mc yn yc ds ms ys x w x1 x2 HL hz h20 k hi h0 hq
  · exact spoils_2 fr ev ct un D M Y dn dc mn mc yn yc ds ms ys x w x1 x2 HL hz h20 k hi h0 hq
  · exact spoils_3 fr ev ct un D M Y dn dc mn mc yn yc ds ms ys x w x1 x2 HL hz h20 k hi h0 hq
  · exact spoils_4 fr ev ct un D M Y dn dc mn mc yn yc ds ms ys x w x1 x2 HL hz h20 k hi h0 hq
  · exact spoils_5 fr ev ct un D M Y dn dc mn mc yn yc ds ms ys x w x1 x2 HL hz h20 k hi h0 hq
  · exact spoils_6 fr ev ct un D M Y dn dc mn mc yn yc ds ms ys x w x1 x2 HL hz h20 k hi h0 hq

end Go.Proofs.Ytigbfmlpbobpfaa

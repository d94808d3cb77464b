/- DaysPeriods walked: one way through the test of two periods each. Written by recipes/da10.py. -/
import Derived.Test.YtcjkghpcjjbjhaaDaPerM
namespace Go.Proofs.Ytcjkghpcjjbjhaa
open Go.RowKit Rul Go.Sort

set_option maxRecDepth 100000 in
set_option maxHeartbeats 4000000 in
theorem per_ff0 (fr ev ct un : Int) (D M Y : Option Addr) (dn dc mn mc yn yc : Nat) (ds : List Wd) (ms ys : List Int) (x k s a b c c2 a0 b0 : Int) (l : List Int) (w : World) (_x0 : 0 ≤ x) (_x1 : x ≤ 65535) (_k0 : 0 ≤ k) (_k1 : k ≤ 255) (_hs : x % 36525 = s) (HL : Hid (Lies (w.alloc (.cells #[.int .i64 fr, .int .i64 ev, .int .i64 ct, .int .i64 un, .slice D dn dc, .slice M mn mc, .slice Y yn yc] 25)) D dn M mn Y yn ds ms ys)) (K1 : Hid (fewB dn mn yn = true)) (HI : Hid (isB ⟨fr, ev, ct, un, ds, ms, ys⟩ = true)) (_f0 : (fr == 0) = false) (HP : Hid (perA ⟨fr, ev, ct, un, ds, ms, ys⟩ s k = a ∧ perB ⟨fr, ev, ct, un, ds, ms, ys⟩ s k = b ∧ perK ⟨fr, ev, ct, un, ds, ms, ys⟩ s k = false)) (HQ : Hid (perA ⟨fr, ev, ct, un, ds, ms, ys⟩ s (k + 1) = c ∧ perB ⟨fr, ev, ct, un, ds, ms, ys⟩ s (k + 1) = c2 ∧ perK ⟨fr, ev, ct, un, ds, ms, ys⟩ s (k + 1) = false)) (HZ : Hid (perA ⟨fr, ev, ct, un, ds, ms, ys⟩ s 0 = a0 ∧ perB ⟨fr, ev, ct, un, ds, ms, ys⟩ s 0 = b0 ∧ perK ⟨fr, ev, ct, un, ds, ms, ys⟩ s 0 = true)) (_hz : a0 ≤ s) (HD : Hid (daysL ⟨fr, ev, ct, un, ds, ms, ys⟩ s k = l)) (HM : Hid ((∀ i (h : i < l.length), a ≤ l[i] ∧ l[i] < b ∧ fitsB ⟨fr, ev, ct, un, ds, ms, ys⟩ l[i] = true) ∧ ∀ i (h : i + 1 < l.length), l[i]'(Nat.lt_of_succ_lt h) < l[i + 1])) (_ev : (ev == 1) = false) (_ln : ((l.length : Int) == 0) = true) (_ln2 : (l.length == 0) = true) :
    Calls Try.prog 4 #[.agg #[.int .i64 fr, .int .i64 ev, .int .i64 ct, .int .i64 un, .slice D dn dc, .slice M mn mc, .slice Y yn yc], .int .u16 x, .int .u8 k] w (Ans w (.bool true)) := by
  have t1 : x.tmod 36525 = x % 36525 := Int.tmod_eq_emod_of_nonneg (by omega)
  have HBX := hide (more (start w) (.cells #[.int .i64 fr, .int .i64 ev, .int .i64 ct, .int .i64 un, .slice D dn dc, .slice M mn mc, .slice Y yn yc] 25))
  have s0 : (w.alloc (.cells #[.int .i64 fr, .int .i64 ev, .int .i64 ct, .int .i64 un, .slice D dn dc, .slice M mn mc, .slice Y yn yc] 25)).cell? ⟨w.heap.size, 0, none⟩ = some (.int .i64 fr) := by rw [World.cell?_alloc_at _ _ _ _ rfl]; rfl
  have s1 : (w.alloc (.cells #[.int .i64 fr, .int .i64 ev, .int .i64 ct, .int .i64 un, .slice D dn dc, .slice M mn mc, .slice Y yn yc] 25)).cell? ⟨w.heap.size, 1, none⟩ = some (.int .i64 ev) := by rw [World.cell?_alloc_at _ _ _ _ rfl]; rfl
  have s2 : (w.alloc (.cells #[.int .i64 fr, .int .i64 ev, .int .i64 ct, .int .i64 un, .slice D dn dc, .slice M mn mc, .slice Y yn yc] 25)).cell? ⟨w.heap.size, 2, none⟩ = some (.int .i64 ct) := by rw [World.cell?_alloc_at _ _ _ _ rfl]; rfl
  have s3 : (w.alloc (.cells #[.int .i64 fr, .int .i64 ev, .int .i64 ct, .int .i64 un, .slice D dn dc, .slice M mn mc, .slice Y yn yc] 25)).cell? ⟨w.heap.size, 3, none⟩ = some (.int .i64 un) := by rw [World.cell?_alloc_at _ _ _ _ rfl]; rfl
  have s4 : (w.alloc (.cells #[.int .i64 fr, .int .i64 ev, .int .i64 ct, .int .i64 un, .slice D dn dc, .slice M mn mc, .slice Y yn yc] 25)).cell? ⟨w.heap.size, 4, none⟩ = some (.slice D dn dc) := by rw [World.cell?_alloc_at _ _ _ _ rfl]; rfl
  have s5 : (w.alloc (.cells #[.int .i64 fr, .int .i64 ev, .int .i64 ct, .int .i64 un, .slice D dn dc, .slice M mn mc, .slice Y yn yc] 25)).cell? ⟨w.heap.size, 5, none⟩ = some (.slice M mn mc) := by rw [World.cell?_alloc_at _ _ _ _ rfl]; rfl
  have s6 : (w.alloc (.cells #[.int .i64 fr, .int .i64 ev, .int .i64 ct, .int .i64 un, .slice D dn dc, .slice M mn mc, .slice Y yn yc] 25)).cell? ⟨w.heap.size, 6, none⟩ = some (.slice Y yn yc) := by rw [World.cell?_alloc_at _ _ _ _ rfl]; rfl
  go_enter Try.func4, Try.ntmps4
  go_wp2_with fail
  generalize (w.alloc (.cells #[.int .i64 fr, .int .i64 ev, .int .i64 ct, .int .i64 un, .slice D dn dc, .slice M mn mc, .slice Y yn yc] 25)) = W at *
  refine (known_any _).mono ?_
  rintro e u1 ⟨rfl, hb⟩
  replace HBX := hide (andthen HBX.out hb)
  replace HL := hide (HL.out.keep hb)
  replace s0 := cell_keep hb s0
  replace s1 := cell_keep hb s1
  replace s2 := cell_keep hb s2
  replace s3 := cell_keep hb s3
  replace s4 := cell_keep hb s4
  replace s5 := cell_keep hb s5
  replace s6 := cell_keep hb s6
  clear hb
  go_wp2_with fail
  refine (ans_is (few_any fr ev ct un D M Y dn dc mn mc yn yc _) K1.out).mono ?_
  rintro e u2 ⟨rfl, hb⟩
  replace HBX := hide (andthen HBX.out hb)
  replace HL := hide (HL.out.keep hb)
  replace s0 := cell_keep hb s0
  replace s1 := cell_keep hb s1
  replace s2 := cell_keep hb s2
  replace s3 := cell_keep hb s3
  replace s4 := cell_keep hb s4
  replace s5 := cell_keep hb s5
  replace s6 := cell_keep hb s6
  clear hb
  go_wp2_with fail
  refine (ans_is (R.is_any fr ev ct un D M Y dn dc mn mc yn yc ds ms ys _ HL.out) HI.out).mono ?_
  rintro e u3 ⟨rfl, hb⟩
  replace HBX := hide (andthen HBX.out hb)
  replace HL := hide (HL.out.keep hb)
  replace s0 := cell_keep hb s0
  replace s1 := cell_keep hb s1
  replace s2 := cell_keep hb s2
  replace s3 := cell_keep hb s3
  replace s4 := cell_keep hb s4
  replace s5 := cell_keep hb s5
  replace s6 := cell_keep hb s6
  clear hb
  go_wp2_with fail
  refine (period_is fr ev ct un D M Y dn dc mn mc yn yc ds ms ys s k a b false _ HL.out HP.out.1 HP.out.2.1 HP.out.2.2).mono ?_
  rintro e u4 ⟨rfl, hb⟩
  replace HBX := hide (andthen HBX.out hb)
  replace HL := hide (HL.out.keep hb)
  replace s0 := cell_keep hb s0
  replace s1 := cell_keep hb s1
  replace s2 := cell_keep hb s2
  replace s3 := cell_keep hb s3
  replace s4 := cell_keep hb s4
  replace s5 := cell_keep hb s5
  replace s6 := cell_keep hb s6
  clear hb
  go_wp2_with fail
  refine (period_is fr ev ct un D M Y dn dc mn mc yn yc ds ms ys s (k + 1) c c2 false _ HL.out HQ.out.1 HQ.out.2.1 HQ.out.2.2).mono ?_
  rintro e u5 ⟨rfl, hb⟩
  replace HBX := hide (andthen HBX.out hb)
  replace HL := hide (HL.out.keep hb)
  replace s0 := cell_keep hb s0
  replace s1 := cell_keep hb s1
  replace s2 := cell_keep hb s2
  replace s3 := cell_keep hb s3
  replace s4 := cell_keep hb s4
  replace s5 := cell_keep hb s5
  replace s6 := cell_keep hb s6
  clear hb
  go_wp2_with fail
  refine (of_any fr ev ct un D M Y dn dc mn mc yn yc ds ms ys s k _ HL.out).mono ?_
  rintro e ul ⟨v, rfl, hown, hb⟩
  rw [HD.out] at hown
  obtain ⟨A, cap, rfl, hrow⟩ := hown.row
  have HR := hide hrow
  clear hown hrow
  replace HBX := hide (andthen HBX.out hb)
  replace HL := hide (HL.out.keep hb)
  replace s0 := cell_keep hb s0
  replace s1 := cell_keep hb s1
  replace s2 := cell_keep hb s2
  replace s3 := cell_keep hb s3
  replace s4 := cell_keep hb s4
  replace s5 := cell_keep hb s5
  replace s6 := cell_keep hb s6
  clear hb
  go_wp2_with fail
  generalize ul = U at *
  go_loopw [15] (fun i wr => ∃ j : Nat, j ≤ l.length ∧ i = .int .i64 j ∧ Below U.heap.size U wr) (fun i _ => l.length - (intOf i).toNat)
  case atStart => exact ⟨0, Nat.zero_le _, rfl, start _⟩
  case round =>
    obtain ⟨j, hj, rfl, hbw⟩ := hrel
    have HBR := hide hbw
    clear hbw
    by_cases hlt : j < l.length
    · obtain ⟨b1, o1, rfl, hb1, hc1⟩ := HR.out (by intro h0; rw [h0] at hlt; exact absurd hlt (Nat.not_lt_zero _))
      replace HL := hide (HL.out.keep HBR.out)
      replace s0 := cell_keep HBR.out s0
      replace s1 := cell_keep HBR.out s1
      replace s2 := cell_keep HBR.out s2
      replace s3 := cell_keep HBR.out s3
      replace s4 := cell_keep HBR.out s4
      replace s5 := cell_keep HBR.out s5
      replace s6 := cell_keep HBR.out s6
      obtain ⟨b1a, b1b, b1c⟩ := HM.out.1 j hlt
      have HF := hide b1c
      clear b1c
      rcases Nat.eq_zero_or_pos j with hz | hz
      · subst hz
        have p1 : wr.cell? ⟨b1, o1, none⟩ = some (.int .i64 l[0]) := (HBR.out.cell (p := ⟨b1, _, none⟩) hb1).trans (hc1 0 hlt)
        have hi1 : (0 : Int) < (l.length : Int) := by omega
        have g1 : decide ((0 : Int) < ((0 : Nat) : Int)) = false := rfl
        have g0 : ¬ (0 : Int) < ((0 : Nat) : Int) := by omega
        clear hc1
        go_wp2_with fail
        have fs0 := fun d os => cell_regrown s0 d os
        have fs1 := fun d os => cell_regrown s1 d os
        have fs2 := fun d os => cell_regrown s2 d os
        have fs3 := fun d os => cell_regrown s3 d os
        have fs4 := fun d os => cell_regrown s4 d os
        have fs5 := fun d os => cell_regrown s5 d os
        have fs6 := fun d os => cell_regrown s6 d os
        have fp1 := fun d os => cell_regrown p1 d os
        have L1 := hide (fun d os => Lies.keep HL.out (below_regrown wr d os))
        have hbq := fun d os => below_regrown wr d os
        refine wp_region_quiet_below (by kernel_rfl) (by kernel_rfl) ?_
        repeat (first | go_big_quiet_step ((first | (go_at_call 16; exact Calls.regrown_of (ans_is (R.fits_any fr ev ct un D M Y dn dc mn mc yn yc ds ms ys l[0] _ (L1.out _ _)) HF.out)))) | quiet_step ((first | (go_at_call 16; exact Calls.regrown_of (ans_is (R.fits_any fr ev ct un D M Y dn dc mn mc yn yc ds ms ys l[0] _ (L1.out _ _)) HF.out)))))
        refine wpQuiet_nil ?_
        intro _ hw'
        obtain ⟨⟨nq, osq⟩, hw''⟩ := hw'
        subst hw''
        have hb := hbq nq osq
        replace HBR := hide (andthen HBR.out hb)
        replace HL := hide (HL.out.keep hb)
        replace s0 := cell_keep hb s0
        replace s1 := cell_keep hb s1
        replace s2 := cell_keep hb s2
        replace s3 := cell_keep hb s3
        replace s4 := cell_keep hb s4
        replace s5 := cell_keep hb s5
        replace s6 := cell_keep hb s6
        replace p1 := cell_keep hb p1
        clear hb hbq fs0 fs1 fs2 fs3 fs4 fs5 fs6 fp1 L1
        go_wp2_with fail
        go_roundw
        case rel => exact ⟨1, by omega, by go_num, HBR.out⟩
        case measure => simp [intOf]; omega
      · obtain ⟨m, hm⟩ : ∃ m, j = m + 1 := ⟨j - 1, by omega⟩
        have hlm : m < l.length := by omega
        have p1 : wr.cell? ⟨b1, o1 + j, none⟩ = some (.int .i64 l[j]) := (HBR.out.cell (p := ⟨b1, _, none⟩) hb1).trans (hc1 j hlt)
        have p0 : wr.cell? ⟨b1, o1 + m, none⟩ = some (.int .i64 l[m]) := (HBR.out.cell (p := ⟨b1, _, none⟩) hb1).trans (hc1 m hlm)
        have hi0 : (0 : Int) ≤ (j : Int) := by omega
        have hi1 : (j : Int) < (l.length : Int) := by omega
        have g0 : (0 : Int) < (j : Int) := by omega
        have g1 : decide ((0 : Int) < (j : Int)) = true := decide_eq_true g0
        have g2 : (j : Int) - 1 = (m : Int) := by omega
        have g3 : (0 : Int) ≤ (m : Int) := by omega
        have g4 : (m : Int) < (l.length : Int) := by omega
        have hup : l[m] < l[j] := by subst hm; exact HM.out.2 m hlt
        have hin : decide (l[j] ≤ l[m]) = false := decide_eq_false (by omega)
        have g7 : decide (0 < j) = true := decide_eq_true hz
        have g8 : wrap64 (m : Int) = (m : Int) := wrap64_id _ (by have hl : l.length ≤ 366 := (by rw [← HD.out]; exact daysL_len _ _ _); unfold I64; omega)
        clear hc1 hm
        go_wp2_with fail
        have fs0 := fun d os => cell_regrown s0 d os
        have fs1 := fun d os => cell_regrown s1 d os
        have fs2 := fun d os => cell_regrown s2 d os
        have fs3 := fun d os => cell_regrown s3 d os
        have fs4 := fun d os => cell_regrown s4 d os
        have fs5 := fun d os => cell_regrown s5 d os
        have fs6 := fun d os => cell_regrown s6 d os
        have fp1 := fun d os => cell_regrown p1 d os
        have fp0 := fun d os => cell_regrown p0 d os
        have L1 := hide (fun d os => Lies.keep HL.out (below_regrown wr d os))
        have hbq := fun d os => below_regrown wr d os
        refine wp_region_quiet_below (by kernel_rfl) (by kernel_rfl) ?_
        repeat (first | go_big_quiet_step ((first | (go_at_call 16; exact Calls.regrown_of (ans_is (R.fits_any fr ev ct un D M Y dn dc mn mc yn yc ds ms ys l[j] _ (L1.out _ _)) HF.out)))) | quiet_step ((first | (go_at_call 16; exact Calls.regrown_of (ans_is (R.fits_any fr ev ct un D M Y dn dc mn mc yn yc ds ms ys l[j] _ (L1.out _ _)) HF.out)))))
        refine wpQuiet_nil ?_
        intro _ hw'
        obtain ⟨⟨nq, osq⟩, hw''⟩ := hw'
        subst hw''
        have hb := hbq nq osq
        replace HBR := hide (andthen HBR.out hb)
        replace HL := hide (HL.out.keep hb)
        replace s0 := cell_keep hb s0
        replace s1 := cell_keep hb s1
        replace s2 := cell_keep hb s2
        replace s3 := cell_keep hb s3
        replace s4 := cell_keep hb s4
        replace s5 := cell_keep hb s5
        replace s6 := cell_keep hb s6
        replace p1 := cell_keep hb p1
        replace p0 := cell_keep hb p0
        clear hb hbq fs0 fs1 fs2 fs3 fs4 fs5 fs6 fp1 fp0 L1
        clear g0 g1 g2 g3 g4 g7 g8 p0 p1
        have hj4 : (j : Int) ≤ 366 := by have hl : l.length ≤ 366 := (by rw [← HD.out]; exact daysL_len _ _ _); omega
        go_wp2_with fail
        go_roundw
        case rel => exact ⟨j + 1, by omega, by go_num, HBR.out⟩
        case measure => simp [intOf]; omega
    · obtain rfl : j = l.length := by omega
      replace HL := hide (HL.out.keep HBR.out)
      replace s0 := cell_keep HBR.out s0
      replace s1 := cell_keep HBR.out s1
      replace s2 := cell_keep HBR.out s2
      replace s3 := cell_keep HBR.out s3
      replace s4 := cell_keep HBR.out s4
      replace s5 := cell_keep HBR.out s5
      replace s6 := cell_keep HBR.out s6
      go_wp2_with fail
      refine (period_is fr ev ct un D M Y dn dc mn mc yn yc ds ms ys s 0 a0 b0 true _ HL.out HZ.out.1 HZ.out.2.1 HZ.out.2.2).mono ?_
      rintro e u1 ⟨rfl, hb⟩
      replace HBR := hide (andthen HBR.out hb)
      replace HL := hide (HL.out.keep hb)
      replace s0 := cell_keep hb s0
      replace s1 := cell_keep hb s1
      replace s2 := cell_keep hb s2
      replace s3 := cell_keep hb s3
      replace s4 := cell_keep hb s4
      replace s5 := cell_keep hb s5
      replace s6 := cell_keep hb s6
      clear hb
      go_wp2_with fail
      go_ret
      exact ⟨rfl, andthen HBX.out HBR.out⟩

set_option maxRecDepth 100000 in
set_option maxHeartbeats 4000000 in
theorem per_ff1 (fr ev ct un : Int) (D M Y : Option Addr) (dn dc mn mc yn yc : Nat) (ds : List Wd) (ms ys : List Int) (x k s a b c c2 a0 b0 : Int) (l : List Int) (w : World) (_x0 : 0 ≤ x) (_x1 : x ≤ 65535) (_k0 : 0 ≤ k) (_k1 : k ≤ 255) (_hs : x % 36525 = s) (HL : Hid (Lies (w.alloc (.cells #[.int .i64 fr, .int .i64 ev, .int .i64 ct, .int .i64 un, .slice D dn dc, .slice M mn mc, .slice Y yn yc] 25)) D dn M mn Y yn ds ms ys)) (K1 : Hid (fewB dn mn yn = true)) (HI : Hid (isB ⟨fr, ev, ct, un, ds, ms, ys⟩ = true)) (_f0 : (fr == 0) = false) (HP : Hid (perA ⟨fr, ev, ct, un, ds, ms, ys⟩ s k = a ∧ perB ⟨fr, ev, ct, un, ds, ms, ys⟩ s k = b ∧ perK ⟨fr, ev, ct, un, ds, ms, ys⟩ s k = false)) (HQ : Hid (perA ⟨fr, ev, ct, un, ds, ms, ys⟩ s (k + 1) = c ∧ perB ⟨fr, ev, ct, un, ds, ms, ys⟩ s (k + 1) = c2 ∧ perK ⟨fr, ev, ct, un, ds, ms, ys⟩ s (k + 1) = false)) (HZ : Hid (perA ⟨fr, ev, ct, un, ds, ms, ys⟩ s 0 = a0 ∧ perB ⟨fr, ev, ct, un, ds, ms, ys⟩ s 0 = b0 ∧ perK ⟨fr, ev, ct, un, ds, ms, ys⟩ s 0 = true)) (_hz : a0 ≤ s) (HD : Hid (daysL ⟨fr, ev, ct, un, ds, ms, ys⟩ s k = l)) (HM : Hid ((∀ i (h : i < l.length), a ≤ l[i] ∧ l[i] < b ∧ fitsB ⟨fr, ev, ct, un, ds, ms, ys⟩ l[i] = true) ∧ ∀ i (h : i + 1 < l.length), l[i]'(Nat.lt_of_succ_lt h) < l[i + 1])) (_ev : (ev == 1) = true) (_ln : ((l.length : Int) == 0) = true) (_ln2 : (l.length == 0) = true) :
    Calls Try.prog 4 #[.agg #[.int .i64 fr, .int .i64 ev, .int .i64 ct, .int .i64 un, .slice D dn dc, .slice M mn mc, .slice Y yn yc], .int .u16 x, .int .u8 k] w (Ans w (.bool true)) := by
  have t1 : x.tmod 36525 = x % 36525 := Int.tmod_eq_emod_of_nonneg (by omega)
  have HBX := hide (more (start w) (.cells #[.int .i64 fr, .int .i64 ev, .int .i64 ct, .int .i64 un, .slice D dn dc, .slice M mn mc, .slice Y yn yc] 25))
  have s0 : (w.alloc (.cells #[.int .i64 fr, .int .i64 ev, .int .i64 ct, .int .i64 un, .slice D dn dc, .slice M mn mc, .slice Y yn yc] 25)).cell? ⟨w.heap.size, 0, none⟩ = some (.int .i64 fr) := by rw [World.cell?_alloc_at _ _ _ _ rfl]; rfl
  have s1 : (w.alloc (.cells #[.int .i64 fr, .int .i64 ev, .int .i64 ct, .int .i64 un, .slice D dn dc, .slice M mn mc, .slice Y yn yc] 25)).cell? ⟨w.heap.size, 1, none⟩ = some (.int .i64 ev) := by rw [World.cell?_alloc_at _ _ _ _ rfl]; rfl
  have s2 : (w.alloc (.cells #[.int .i64 fr, .int .i64 ev, .int .i64 ct, .int .i64 un, .slice D dn dc, .slice M mn mc, .slice Y yn yc] 25)).cell? ⟨w.heap.size, 2, none⟩ = some (.int .i64 ct) := by rw [World.cell?_alloc_at _ _ _ _ rfl]; rfl
  have s3 : (w.alloc (.cells #[.int .i64 fr, .int .i64 ev, .int .i64 ct, .int .i64 un, .slice D dn dc, .slice M mn mc, .slice Y yn yc] 25)).cell? ⟨w.heap.size, 3, none⟩ = some (.int .i64 un) := by rw [World.cell?_alloc_at _ _ _ _ rfl]; rfl
  have s4 : (w.alloc (.cells #[.int .i64 fr, .int .i64 ev, .int .i64 ct, .int .i64 un, .slice D dn dc, .slice M mn mc, .slice Y yn yc] 25)).cell? ⟨w.heap.size, 4, none⟩ = some (.slice D dn dc) := by rw [World.cell?_alloc_at _ _ _ _ rfl]; rfl
  have s5 : (w.alloc (.cells #[.int .i64 fr, .int .i64 ev, .int .i64 ct, .int .i64 un, .slice D dn dc, .slice M mn mc, .slice Y yn yc] 25)).cell? ⟨w.heap.size, 5, none⟩ = some (.slice M mn mc) := by rw [World.cell?_alloc_at _ _ _ _ rfl]; rfl
  have s6 : (w.alloc (.cells #[.int .i64 fr, .int .i64 ev, .int .i64 ct, .int .i64 un, .slice D dn dc, .slice M mn mc, .slice Y yn yc] 25)).cell? ⟨w.heap.size, 6, none⟩ = some (.slice Y yn yc) := by rw [World.cell?_alloc_at _ _ _ _ rfl]; rfl
  go_enter Try.func4, Try.ntmps4
  go_wp2_with fail
  generalize (w.alloc (.cells #[.int .i64 fr, .int .i64 ev, .int .i64 ct, .int .i64 un, .slice D dn dc, .slice M mn mc, .slice Y yn yc] 25)) = W at *
  refine (known_any _).mono ?_
  rintro e u1 ⟨rfl, hb⟩
  replace HBX := hide (andthen HBX.out hb)
  replace HL := hide (HL.out.keep hb)
  replace s0 := cell_keep hb s0
  replace s1 := cell_keep hb s1
  replace s2 := cell_keep hb s2
  replace s3 := cell_keep hb s3
  replace s4 := cell_keep hb s4
  replace s5 := cell_keep hb s5
  replace s6 := cell_keep hb s6
  clear hb
  go_wp2_with fail
  refine (ans_is (few_any fr ev ct un D M Y dn dc mn mc yn yc _) K1.out).mono ?_
  rintro e u2 ⟨rfl, hb⟩
  replace HBX := hide (andthen HBX.out hb)
  replace HL := hide (HL.out.keep hb)
  replace s0 := cell_keep hb s0
  replace s1 := cell_keep hb s1
  replace s2 := cell_keep hb s2
  replace s3 := cell_keep hb s3
  replace s4 := cell_keep hb s4
  replace s5 := cell_keep hb s5
  replace s6 := cell_keep hb s6
  clear hb
  go_wp2_with fail
  refine (ans_is (R.is_any fr ev ct un D M Y dn dc mn mc yn yc ds ms ys _ HL.out) HI.out).mono ?_
  rintro e u3 ⟨rfl, hb⟩
  replace HBX := hide (andthen HBX.out hb)
  replace HL := hide (HL.out.keep hb)
  replace s0 := cell_keep hb s0
  replace s1 := cell_keep hb s1
  replace s2 := cell_keep hb s2
  replace s3 := cell_keep hb s3
  replace s4 := cell_keep hb s4
  replace s5 := cell_keep hb s5
  replace s6 := cell_keep hb s6
  clear hb
  go_wp2_with fail
  refine (period_is fr ev ct un D M Y dn dc mn mc yn yc ds ms ys s k a b false _ HL.out HP.out.1 HP.out.2.1 HP.out.2.2).mono ?_
  rintro e u4 ⟨rfl, hb⟩
  replace HBX := hide (andthen HBX.out hb)
  replace HL := hide (HL.out.keep hb)
  replace s0 := cell_keep hb s0
  replace s1 := cell_keep hb s1
  replace s2 := cell_keep hb s2
  replace s3 := cell_keep hb s3
  replace s4 := cell_keep hb s4
  replace s5 := cell_keep hb s5
  replace s6 := cell_keep hb s6
  clear hb
  go_wp2_with fail
  refine (period_is fr ev ct un D M Y dn dc mn mc yn yc ds ms ys s (k + 1) c c2 false _ HL.out HQ.out.1 HQ.out.2.1 HQ.out.2.2).mono ?_
  rintro e u5 ⟨rfl, hb⟩
  replace HBX := hide (andthen HBX.out hb)
  replace HL := hide (HL.out.keep hb)
  replace s0 := cell_keep hb s0
  replace s1 := cell_keep hb s1
  replace s2 := cell_keep hb s2
  replace s3 := cell_keep hb s3
  replace s4 := cell_keep hb s4
  replace s5 := cell_keep hb s5
  replace s6 := cell_keep hb s6
  clear hb
  go_wp2_with fail
  refine (of_any fr ev ct un D M Y dn dc mn mc yn yc ds ms ys s k _ HL.out).mono ?_
  rintro e ul ⟨v, rfl, hown, hb⟩
  rw [HD.out] at hown
  obtain ⟨A, cap, rfl, hrow⟩ := hown.row
  have HR := hide hrow
  clear hown hrow
  replace HBX := hide (andthen HBX.out hb)
  replace HL := hide (HL.out.keep hb)
  replace s0 := cell_keep hb s0
  replace s1 := cell_keep hb s1
  replace s2 := cell_keep hb s2
  replace s3 := cell_keep hb s3
  replace s4 := cell_keep hb s4
  replace s5 := cell_keep hb s5
  replace s6 := cell_keep hb s6
  clear hb
  go_wp2_with fail
  generalize ul = U at *
  go_loopw [15] (fun i wr => ∃ j : Nat, j ≤ l.length ∧ i = .int .i64 j ∧ Below U.heap.size U wr) (fun i _ => l.length - (intOf i).toNat)
  case atStart => exact ⟨0, Nat.zero_le _, rfl, start _⟩
  case round =>
    obtain ⟨j, hj, rfl, hbw⟩ := hrel
    have HBR := hide hbw
    clear hbw
    by_cases hlt : j < l.length
    · obtain ⟨b1, o1, rfl, hb1, hc1⟩ := HR.out (by intro h0; rw [h0] at hlt; exact absurd hlt (Nat.not_lt_zero _))
      replace HL := hide (HL.out.keep HBR.out)
      replace s0 := cell_keep HBR.out s0
      replace s1 := cell_keep HBR.out s1
      replace s2 := cell_keep HBR.out s2
      replace s3 := cell_keep HBR.out s3
      replace s4 := cell_keep HBR.out s4
      replace s5 := cell_keep HBR.out s5
      replace s6 := cell_keep HBR.out s6
      obtain ⟨b1a, b1b, b1c⟩ := HM.out.1 j hlt
      have HF := hide b1c
      clear b1c
      rcases Nat.eq_zero_or_pos j with hz | hz
      · subst hz
        have p1 : wr.cell? ⟨b1, o1, none⟩ = some (.int .i64 l[0]) := (HBR.out.cell (p := ⟨b1, _, none⟩) hb1).trans (hc1 0 hlt)
        have hi1 : (0 : Int) < (l.length : Int) := by omega
        have g1 : decide ((0 : Int) < ((0 : Nat) : Int)) = false := rfl
        have g0 : ¬ (0 : Int) < ((0 : Nat) : Int) := by omega
        clear hc1
        go_wp2_with fail
        have fs0 := fun d os => cell_regrown s0 d os
        have fs1 := fun d os => cell_regrown s1 d os
        have fs2 := fun d os => cell_regrown s2 d os
        have fs3 := fun d os => cell_regrown s3 d os
        have fs4 := fun d os => cell_regrown s4 d os
        have fs5 := fun d os => cell_regrown s5 d os
        have fs6 := fun d os => cell_regrown s6 d os
        have fp1 := fun d os => cell_regrown p1 d os
        have L1 := hide (fun d os => Lies.keep HL.out (below_regrown wr d os))
        have hbq := fun d os => below_regrown wr d os
        refine wp_region_quiet_below (by kernel_rfl) (by kernel_rfl) ?_
        repeat (first | go_big_quiet_step ((first | (go_at_call 16; exact Calls.regrown_of (ans_is (R.fits_any fr ev ct un D M Y dn dc mn mc yn yc ds ms ys l[0] _ (L1.out _ _)) HF.out)))) | quiet_step ((first | (go_at_call 16; exact Calls.regrown_of (ans_is (R.fits_any fr ev ct un D M Y dn dc mn mc yn yc ds ms ys l[0] _ (L1.out _ _)) HF.out)))))
        refine wpQuiet_nil ?_
        intro _ hw'
        obtain ⟨⟨nq, osq⟩, hw''⟩ := hw'
        subst hw''
        have hb := hbq nq osq
        replace HBR := hide (andthen HBR.out hb)
        replace HL := hide (HL.out.keep hb)
        replace s0 := cell_keep hb s0
        replace s1 := cell_keep hb s1
        replace s2 := cell_keep hb s2
        replace s3 := cell_keep hb s3
        replace s4 := cell_keep hb s4
        replace s5 := cell_keep hb s5
        replace s6 := cell_keep hb s6
        replace p1 := cell_keep hb p1
        clear hb hbq fs0 fs1 fs2 fs3 fs4 fs5 fs6 fp1 L1
        go_wp2_with fail
        go_roundw
        case rel => exact ⟨1, by omega, by go_num, HBR.out⟩
        case measure => simp [intOf]; omega
      · obtain ⟨m, hm⟩ : ∃ m, j = m + 1 := ⟨j - 1, by omega⟩
        have hlm : m < l.length := by omega
        have p1 : wr.cell? ⟨b1, o1 + j, none⟩ = some (.int .i64 l[j]) := (HBR.out.cell (p := ⟨b1, _, none⟩) hb1).trans (hc1 j hlt)
        have p0 : wr.cell? ⟨b1, o1 + m, none⟩ = some (.int .i64 l[m]) := (HBR.out.cell (p := ⟨b1, _, none⟩) hb1).trans (hc1 m hlm)
        have hi0 : (0 : Int) ≤ (j : Int) := by omega
        have hi1 : (j : Int) < (l.length : Int) := by omega
        have g0 : (0 : Int) < (j : Int) := by omega
        have g1 : decide ((0 : Int) < (j : Int)) = true := decide_eq_true g0
        have g2 : (j : Int) - 1 = (m : Int) := by omega
        have g3 : (0 : Int) ≤ (m : Int) := by omega
        have g4 : (m : Int) < (l.length : Int) := by omega
        have hup : l[m] < l[j] := by subst hm; exact HM.out.2 m hlt
        have hin : decide (l[j] ≤ l[m]) = false := decide_eq_false (by omega)
        have g7 : decide (0 < j) = true := decide_eq_true hz
        have g8 : wrap64 (m : Int) = (m : Int) := wrap64_id _ (by have hl : l.length ≤ 366 := (by rw [← HD.out]; exact daysL_len _ _ _); unfold I64; omega)
        clear hc1 hm
        go_wp2_with fail
        have fs0 := fun d os => cell_regrown s0 d os
        have fs1 := fun d os => cell_regrown s1 d os
        have fs2 := fun d os => cell_regrown s2 d os
        have fs3 := fun d os => cell_regrown s3 d os
        have fs4 := fun d os => cell_regrown s4 d os
        have fs5 := fun d os => cell_regrown s5 d os
        have fs6 := fun d os => cell_regrown s6 d os
        have fp1 := fun d os => cell_regrown p1 d os
        have fp0 := fun d os => cell_regrown p0 d os
        have L1 := hide (fun d os => Lies.keep HL.out (below_regrown wr d os))
        have hbq := fun d os => below_regrown wr d os
        refine wp_region_quiet_below (by kernel_rfl) (by kernel_rfl) ?_
        repeat (first | go_big_quiet_step ((first | (go_at_call 16; exact Calls.regrown_of (ans_is (R.fits_any fr ev ct un D M Y dn dc mn mc yn yc ds ms ys l[j] _ (L1.out _ _)) HF.out)))) | quiet_step ((first | (go_at_call 16; exact Calls.regrown_of (ans_is (R.fits_any fr ev ct un D M Y dn dc mn mc yn yc ds ms ys l[j] _ (L1.out _ _)) HF.out)))))
        refine wpQuiet_nil ?_
        intro _ hw'
        obtain ⟨⟨nq, osq⟩, hw''⟩ := hw'
        subst hw''
        have hb := hbq nq osq
        replace HBR := hide (andthen HBR.out hb)
        replace HL := hide (HL.out.keep hb)
        replace s0 := cell_keep hb s0
        replace s1 := cell_keep hb s1
        replace s2 := cell_keep hb s2
        replace s3 := cell_keep hb s3
        replace s4 := cell_keep hb s4
        replace s5 := cell_keep hb s5
        replace s6 := cell_keep hb s6
        replace p1 := cell_keep hb p1
        replace p0 := cell_keep hb p0
        clear hb hbq fs0 fs1 fs2 fs3 fs4 fs5 fs6 fp1 fp0 L1
        clear g0 g1 g2 g3 g4 g7 g8 p0 p1
        have hj4 : (j : Int) ≤ 366 := by have hl : l.length ≤ 366 := (by rw [← HD.out]; exact daysL_len _ _ _); omega
        go_wp2_with fail
        go_roundw
        case rel => exact ⟨j + 1, by omega, by go_num, HBR.out⟩
        case measure => simp [intOf]; omega
    · obtain rfl : j = l.length := by omega
      replace HL := hide (HL.out.keep HBR.out)
      replace s0 := cell_keep HBR.out s0
      replace s1 := cell_keep HBR.out s1
      replace s2 := cell_keep HBR.out s2
      replace s3 := cell_keep HBR.out s3
      replace s4 := cell_keep HBR.out s4
      replace s5 := cell_keep HBR.out s5
      replace s6 := cell_keep HBR.out s6
      go_wp2_with fail
      refine (period_is fr ev ct un D M Y dn dc mn mc yn yc ds ms ys s 0 a0 b0 true _ HL.out HZ.out.1 HZ.out.2.1 HZ.out.2.2).mono ?_
      rintro e u1 ⟨rfl, hb⟩
      replace HBR := hide (andthen HBR.out hb)
      replace HL := hide (HL.out.keep hb)
      replace s0 := cell_keep hb s0
      replace s1 := cell_keep hb s1
      replace s2 := cell_keep hb s2
      replace s3 := cell_keep hb s3
      replace s4 := cell_keep hb s4
      replace s5 := cell_keep hb s5
      replace s6 := cell_keep hb s6
      clear hb
      go_wp2_with fail
      go_ret
      exact ⟨rfl, andthen HBX.out HBR.out⟩

set_option maxRecDepth 100000 in
set_option maxHeartbeats 4000000 in
theorem per_ft0 (fr ev ct un : Int) (D M Y : Option Addr) (dn dc mn mc yn yc : Nat) (ds : List Wd) (ms ys : List Int) (x k s a b c c2 a0 b0 : Int) (l : List Int) (w : World) (_x0 : 0 ≤ x) (_x1 : x ≤ 65535) (_k0 : 0 ≤ k) (_k1 : k ≤ 255) (_hs : x % 36525 = s) (HL : Hid (Lies (w.alloc (.cells #[.int .i64 fr, .int .i64 ev, .int .i64 ct, .int .i64 un, .slice D dn dc, .slice M mn mc, .slice Y yn yc] 25)) D dn M mn Y yn ds ms ys)) (K1 : Hid (fewB dn mn yn = true)) (HI : Hid (isB ⟨fr, ev, ct, un, ds, ms, ys⟩ = true)) (_f0 : (fr == 0) = false) (HP : Hid (perA ⟨fr, ev, ct, un, ds, ms, ys⟩ s k = a ∧ perB ⟨fr, ev, ct, un, ds, ms, ys⟩ s k = b ∧ perK ⟨fr, ev, ct, un, ds, ms, ys⟩ s k = true)) (HQ : Hid (perA ⟨fr, ev, ct, un, ds, ms, ys⟩ s (k + 1) = c ∧ perB ⟨fr, ev, ct, un, ds, ms, ys⟩ s (k + 1) = c2 ∧ perK ⟨fr, ev, ct, un, ds, ms, ys⟩ s (k + 1) = false)) (HZ : Hid (perA ⟨fr, ev, ct, un, ds, ms, ys⟩ s 0 = a0 ∧ perB ⟨fr, ev, ct, un, ds, ms, ys⟩ s 0 = b0 ∧ perK ⟨fr, ev, ct, un, ds, ms, ys⟩ s 0 = true)) (_hz : a0 ≤ s) (HD : Hid (daysL ⟨fr, ev, ct, un, ds, ms, ys⟩ s k = l)) (HM : Hid ((∀ i (h : i < l.length), a ≤ l[i] ∧ l[i] < b ∧ fitsB ⟨fr, ev, ct, un, ds, ms, ys⟩ l[i] = true) ∧ ∀ i (h : i + 1 < l.length), l[i]'(Nat.lt_of_succ_lt h) < l[i + 1])) (_ev : (ev == 1) = false) :
    Calls Try.prog 4 #[.agg #[.int .i64 fr, .int .i64 ev, .int .i64 ct, .int .i64 un, .slice D dn dc, .slice M mn mc, .slice Y yn yc], .int .u16 x, .int .u8 k] w (Ans w (.bool true)) := by
  have t1 : x.tmod 36525 = x % 36525 := Int.tmod_eq_emod_of_nonneg (by omega)
  have HBX := hide (more (start w) (.cells #[.int .i64 fr, .int .i64 ev, .int .i64 ct, .int .i64 un, .slice D dn dc, .slice M mn mc, .slice Y yn yc] 25))
  have s0 : (w.alloc (.cells #[.int .i64 fr, .int .i64 ev, .int .i64 ct, .int .i64 un, .slice D dn dc, .slice M mn mc, .slice Y yn yc] 25)).cell? ⟨w.heap.size, 0, none⟩ = some (.int .i64 fr) := by rw [World.cell?_alloc_at _ _ _ _ rfl]; rfl
  have s1 : (w.alloc (.cells #[.int .i64 fr, .int .i64 ev, .int .i64 ct, .int .i64 un, .slice D dn dc, .slice M mn mc, .slice Y yn yc] 25)).cell? ⟨w.heap.size, 1, none⟩ = some (.int .i64 ev) := by rw [World.cell?_alloc_at _ _ _ _ rfl]; rfl
  have s2 : (w.alloc (.cells #[.int .i64 fr, .int .i64 ev, .int .i64 ct, .int .i64 un, .slice D dn dc, .slice M mn mc, .slice Y yn yc] 25)).cell? ⟨w.heap.size, 2, none⟩ = some (.int .i64 ct) := by rw [World.cell?_alloc_at _ _ _ _ rfl]; rfl
  have s3 : (w.alloc (.cells #[.int .i64 fr, .int .i64 ev, .int .i64 ct, .int .i64 un, .slice D dn dc, .slice M mn mc, .slice Y yn yc] 25)).cell? ⟨w.heap.size, 3, none⟩ = some (.int .i64 un) := by rw [World.cell?_alloc_at _ _ _ _ rfl]; rfl
  have s4 : (w.alloc (.cells #[.int .i64 fr, .int .i64 ev, .int .i64 ct, .int .i64 un, .slice D dn dc, .slice M mn mc, .slice Y yn yc] 25)).cell? ⟨w.heap.size, 4, none⟩ = some (.slice D dn dc) := by rw [World.cell?_alloc_at _ _ _ _ rfl]; rfl
  have s5 : (w.alloc (.cells #[.int .i64 fr, .int .i64 ev, .int .i64 ct, .int .i64 un, .slice D dn dc, .slice M mn mc, .slice Y yn yc] 25)).cell? ⟨w.heap.size, 5, none⟩ = some (.slice M mn mc) := by rw [World.cell?_alloc_at _ _ _ _ rfl]; rfl
  have s6 : (w.alloc (.cells #[.int .i64 fr, .int .i64 ev, .int .i64 ct, .int .i64 un, .slice D dn dc, .slice M mn mc, .slice Y yn yc] 25)).cell? ⟨w.heap.size, 6, none⟩ = some (.slice Y yn yc) := by rw [World.cell?_alloc_at _ _ _ _ rfl]; rfl
  go_enter Try.func4, Try.ntmps4
  go_wp2_with fail
  generalize (w.alloc (.cells #[.int .i64 fr, .int .i64 ev, .int .i64 ct, .int .i64 un, .slice D dn dc, .slice M mn mc, .slice Y yn yc] 25)) = W at *
  refine (known_any _).mono ?_
  rintro e u1 ⟨rfl, hb⟩
  replace HBX := hide (andthen HBX.out hb)
  replace HL := hide (HL.out.keep hb)
  replace s0 := cell_keep hb s0
  replace s1 := cell_keep hb s1
  replace s2 := cell_keep hb s2
  replace s3 := cell_keep hb s3
  replace s4 := cell_keep hb s4
  replace s5 := cell_keep hb s5
  replace s6 := cell_keep hb s6
  clear hb
  go_wp2_with fail
  refine (ans_is (few_any fr ev ct un D M Y dn dc mn mc yn yc _) K1.out).mono ?_
  rintro e u2 ⟨rfl, hb⟩
  replace HBX := hide (andthen HBX.out hb)
  replace HL := hide (HL.out.keep hb)
  replace s0 := cell_keep hb s0
  replace s1 := cell_keep hb s1
  replace s2 := cell_keep hb s2
  replace s3 := cell_keep hb s3
  replace s4 := cell_keep hb s4
  replace s5 := cell_keep hb s5
  replace s6 := cell_keep hb s6
  clear hb
  go_wp2_with fail
  refine (ans_is (R.is_any fr ev ct un D M Y dn dc mn mc yn yc ds ms ys _ HL.out) HI.out).mono ?_
  rintro e u3 ⟨rfl, hb⟩
  replace HBX := hide (andthen HBX.out hb)
  replace HL := hide (HL.out.keep hb)
  replace s0 := cell_keep hb s0
  replace s1 := cell_keep hb s1
  replace s2 := cell_keep hb s2
  replace s3 := cell_keep hb s3
  replace s4 := cell_keep hb s4
  replace s5 := cell_keep hb s5
  replace s6 := cell_keep hb s6
  clear hb
  go_wp2_with fail
  refine (period_is fr ev ct un D M Y dn dc mn mc yn yc ds ms ys s k a b true _ HL.out HP.out.1 HP.out.2.1 HP.out.2.2).mono ?_
  rintro e u4 ⟨rfl, hb⟩
  replace HBX := hide (andthen HBX.out hb)
  replace HL := hide (HL.out.keep hb)
  replace s0 := cell_keep hb s0
  replace s1 := cell_keep hb s1
  replace s2 := cell_keep hb s2
  replace s3 := cell_keep hb s3
  replace s4 := cell_keep hb s4
  replace s5 := cell_keep hb s5
  replace s6 := cell_keep hb s6
  clear hb
  go_wp2_with fail
  refine (period_is fr ev ct un D M Y dn dc mn mc yn yc ds ms ys s (k + 1) c c2 false _ HL.out HQ.out.1 HQ.out.2.1 HQ.out.2.2).mono ?_
  rintro e u5 ⟨rfl, hb⟩
  replace HBX := hide (andthen HBX.out hb)
  replace HL := hide (HL.out.keep hb)
  replace s0 := cell_keep hb s0
  replace s1 := cell_keep hb s1
  replace s2 := cell_keep hb s2
  replace s3 := cell_keep hb s3
  replace s4 := cell_keep hb s4
  replace s5 := cell_keep hb s5
  replace s6 := cell_keep hb s6
  clear hb
  go_wp2_with fail
  refine (of_any fr ev ct un D M Y dn dc mn mc yn yc ds ms ys s k _ HL.out).mono ?_
  rintro e ul ⟨v, rfl, hown, hb⟩
  rw [HD.out] at hown
  obtain ⟨A, cap, rfl, hrow⟩ := hown.row
  have HR := hide hrow
  clear hown hrow
  replace HBX := hide (andthen HBX.out hb)
  replace HL := hide (HL.out.keep hb)
  replace s0 := cell_keep hb s0
  replace s1 := cell_keep hb s1
  replace s2 := cell_keep hb s2
  replace s3 := cell_keep hb s3
  replace s4 := cell_keep hb s4
  replace s5 := cell_keep hb s5
  replace s6 := cell_keep hb s6
  clear hb
  go_wp2_with fail
  generalize ul = U at *
  go_loopw [15] (fun i wr => ∃ j : Nat, j ≤ l.length ∧ i = .int .i64 j ∧ Below U.heap.size U wr) (fun i _ => l.length - (intOf i).toNat)
  case atStart => exact ⟨0, Nat.zero_le _, rfl, start _⟩
  case round =>
    obtain ⟨j, hj, rfl, hbw⟩ := hrel
    have HBR := hide hbw
    clear hbw
    by_cases hlt : j < l.length
    · obtain ⟨b1, o1, rfl, hb1, hc1⟩ := HR.out (by intro h0; rw [h0] at hlt; exact absurd hlt (Nat.not_lt_zero _))
      replace HL := hide (HL.out.keep HBR.out)
      replace s0 := cell_keep HBR.out s0
      replace s1 := cell_keep HBR.out s1
      replace s2 := cell_keep HBR.out s2
      replace s3 := cell_keep HBR.out s3
      replace s4 := cell_keep HBR.out s4
      replace s5 := cell_keep HBR.out s5
      replace s6 := cell_keep HBR.out s6
      obtain ⟨b1a, b1b, b1c⟩ := HM.out.1 j hlt
      have HF := hide b1c
      clear b1c
      rcases Nat.eq_zero_or_pos j with hz | hz
      · subst hz
        have p1 : wr.cell? ⟨b1, o1, none⟩ = some (.int .i64 l[0]) := (HBR.out.cell (p := ⟨b1, _, none⟩) hb1).trans (hc1 0 hlt)
        have hi1 : (0 : Int) < (l.length : Int) := by omega
        have g1 : decide ((0 : Int) < ((0 : Nat) : Int)) = false := rfl
        have g0 : ¬ (0 : Int) < ((0 : Nat) : Int) := by omega
        clear hc1
        go_wp2_with fail
        have fs0 := fun d os => cell_regrown s0 d os
        have fs1 := fun d os => cell_regrown s1 d os
        have fs2 := fun d os => cell_regrown s2 d os
        have fs3 := fun d os => cell_regrown s3 d os
        have fs4 := fun d os => cell_regrown s4 d os
        have fs5 := fun d os => cell_regrown s5 d os
        have fs6 := fun d os => cell_regrown s6 d os
        have fp1 := fun d os => cell_regrown p1 d os
        have L1 := hide (fun d os => Lies.keep HL.out (below_regrown wr d os))
        have hbq := fun d os => below_regrown wr d os
        refine wp_region_quiet_below (by kernel_rfl) (by kernel_rfl) ?_
        repeat (first | go_big_quiet_step ((first | (go_at_call 16; exact Calls.regrown_of (ans_is (R.fits_any fr ev ct un D M Y dn dc mn mc yn yc ds ms ys l[0] _ (L1.out _ _)) HF.out)))) | quiet_step ((first | (go_at_call 16; exact Calls.regrown_of (ans_is (R.fits_any fr ev ct un D M Y dn dc mn mc yn yc ds ms ys l[0] _ (L1.out _ _)) HF.out)))))
        refine wpQuiet_nil ?_
        intro _ hw'
        obtain ⟨⟨nq, osq⟩, hw''⟩ := hw'
        subst hw''
        have hb := hbq nq osq
        replace HBR := hide (andthen HBR.out hb)
        replace HL := hide (HL.out.keep hb)
        replace s0 := cell_keep hb s0
        replace s1 := cell_keep hb s1
        replace s2 := cell_keep hb s2
        replace s3 := cell_keep hb s3
        replace s4 := cell_keep hb s4
        replace s5 := cell_keep hb s5
        replace s6 := cell_keep hb s6
        replace p1 := cell_keep hb p1
        clear hb hbq fs0 fs1 fs2 fs3 fs4 fs5 fs6 fp1 L1
        go_wp2_with fail
        go_roundw
        case rel => exact ⟨1, by omega, by go_num, HBR.out⟩
        case measure => simp [intOf]; omega
      · obtain ⟨m, hm⟩ : ∃ m, j = m + 1 := ⟨j - 1, by omega⟩
        have hlm : m < l.length := by omega
        have p1 : wr.cell? ⟨b1, o1 + j, none⟩ = some (.int .i64 l[j]) := (HBR.out.cell (p := ⟨b1, _, none⟩) hb1).trans (hc1 j hlt)
        have p0 : wr.cell? ⟨b1, o1 + m, none⟩ = some (.int .i64 l[m]) := (HBR.out.cell (p := ⟨b1, _, none⟩) hb1).trans (hc1 m hlm)
        have hi0 : (0 : Int) ≤ (j : Int) := by omega
        have hi1 : (j : Int) < (l.length : Int) := by omega
        have g0 : (0 : Int) < (j : Int) := by omega
        have g1 : decide ((0 : Int) < (j : Int)) = true := decide_eq_true g0
        have g2 : (j : Int) - 1 = (m : Int) := by omega
        have g3 : (0 : Int) ≤ (m : Int) := by omega
        have g4 : (m : Int) < (l.length : Int) := by omega
        have hup : l[m] < l[j] := by subst hm; exact HM.out.2 m hlt
        have hin : decide (l[j] ≤ l[m]) = false := decide_eq_false (by omega)
        have g7 : decide (0 < j) = true := decide_eq_true hz
        have g8 : wrap64 (m : Int) = (m : Int) := wrap64_id _ (by have hl : l.length ≤ 366 := (by rw [← HD.out]; exact daysL_len _ _ _); unfold I64; omega)
        clear hc1 hm
        go_wp2_with fail
        have fs0 := fun d os => cell_regrown s0 d os
        have fs1 := fun d os => cell_regrown s1 d os
        have fs2 := fun d os => cell_regrown s2 d os
        have fs3 := fun d os => cell_regrown s3 d os
        have fs4 := fun d os => cell_regrown s4 d os
        have fs5 := fun d os => cell_regrown s5 d os
        have fs6 := fun d os => cell_regrown s6 d os
        have fp1 := fun d os => cell_regrown p1 d os
        have fp0 := fun d os => cell_regrown p0 d os
        have L1 := hide (fun d os => Lies.keep HL.out (below_regrown wr d os))
        have hbq := fun d os => below_regrown wr d os
        refine wp_region_quiet_below (by kernel_rfl) (by kernel_rfl) ?_
        repeat (first | go_big_quiet_step ((first | (go_at_call 16; exact Calls.regrown_of (ans_is (R.fits_any fr ev ct un D M Y dn dc mn mc yn yc ds ms ys l[j] _ (L1.out _ _)) HF.out)))) | quiet_step ((first | (go_at_call 16; exact Calls.regrown_of (ans_is (R.fits_any fr ev ct un D M Y dn dc mn mc yn yc ds ms ys l[j] _ (L1.out _ _)) HF.out)))))
        refine wpQuiet_nil ?_
        intro _ hw'
        obtain ⟨⟨nq, osq⟩, hw''⟩ := hw'
        subst hw''
        have hb := hbq nq osq
        replace HBR := hide (andthen HBR.out hb)
        replace HL := hide (HL.out.keep hb)
        replace s0 := cell_keep hb s0
        replace s1 := cell_keep hb s1
        replace s2 := cell_keep hb s2
        replace s3 := cell_keep hb s3
        replace s4 := cell_keep hb s4
        replace s5 := cell_keep hb s5
        replace s6 := cell_keep hb s6
        replace p1 := cell_keep hb p1
        replace p0 := cell_keep hb p0
        clear hb hbq fs0 fs1 fs2 fs3 fs4 fs5 fs6 fp1 fp0 L1
        clear g0 g1 g2 g3 g4 g7 g8 p0 p1
        have hj4 : (j : Int) ≤ 366 := by have hl : l.length ≤ 366 := (by rw [← HD.out]; exact daysL_len _ _ _); omega
        go_wp2_with fail
        go_roundw
        case rel => exact ⟨j + 1, by omega, by go_num, HBR.out⟩
        case measure => simp [intOf]; omega
    · obtain rfl : j = l.length := by omega
      replace HL := hide (HL.out.keep HBR.out)
      replace s0 := cell_keep HBR.out s0
      replace s1 := cell_keep HBR.out s1
      replace s2 := cell_keep HBR.out s2
      replace s3 := cell_keep HBR.out s3
      replace s4 := cell_keep HBR.out s4
      replace s5 := cell_keep HBR.out s5
      replace s6 := cell_keep HBR.out s6
      go_wp2_with fail
      refine (period_is fr ev ct un D M Y dn dc mn mc yn yc ds ms ys s 0 a0 b0 true _ HL.out HZ.out.1 HZ.out.2.1 HZ.out.2.2).mono ?_
      rintro e u1 ⟨rfl, hb⟩
      replace HBR := hide (andthen HBR.out hb)
      replace HL := hide (HL.out.keep hb)
      replace s0 := cell_keep hb s0
      replace s1 := cell_keep hb s1
      replace s2 := cell_keep hb s2
      replace s3 := cell_keep hb s3
      replace s4 := cell_keep hb s4
      replace s5 := cell_keep hb s5
      replace s6 := cell_keep hb s6
      clear hb
      go_wp2_with fail
      go_ret
      exact ⟨rfl, andthen HBX.out HBR.out⟩

end Go.Proofs.Ytcjkghpcjjbjhaa

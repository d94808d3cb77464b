/- Walks of package days: the first day of a month, the bounds of a month, of a year. -/
import Derived.Test.YtdmplojfidkipaaRuA
import Derived.Test.YtdmplojfidkipaaDaMath
namespace Go.Proofs.Ytdmplojfidkipaa
open Go.RowKit Rul

theorem fE_0 (y m : Int) (h0 : 2000 ≤ y) (h : y ≤ 2099) (h1 : 1 ≤ m) (h2 : m ≤ 12) : numE y m 1 = (fE y m, 0) := by
  rw [fE_in y m h]; exact numE_0 y m 1 (isB_first y m h1 h2) h0 h
theorem fE_10 (y m : Int) (h : 2099 < y) (h1 : 1 ≤ m) (h2 : m ≤ 12) : numE y m 1 = (0, 10) := numE_10 y m 1 (isB_first y m h1 h2) (Or.inr h)

set_option maxHeartbeats 400000 in
theorem firstOf_any (y m : Int) (w : World) (h0 : 2000 ≤ y) (h1 : 1 ≤ m) (h2 : m ≤ 12) :
    Calls Try.prog 91 #[.int .i64 y, .int .i64 m] w (Ans w (.int .i64 (fE y m))) := by
  by_cases h : y ≤ 2099
  · have H := hide (fE_0 y m h0 h h1 h2)
    go_enter Try.func91, Try.ntmps91
    go_wp2_with fail
    refine (number_is y m 1 _ _ _ H.out).mono ?_
    rintro e w1 ⟨rfl, hb1⟩
    go_wp2_with fail
    go_ret
    exact ⟨rfl, hb1⟩
  · have H := hide (fE_10 y m (by omega) h1 h2)
    have e := hide (fE_out y m (by omega))
    go_enter Try.func91, Try.ntmps91
    go_wp2_with fail
    refine (number_is y m 1 _ _ _ H.out).mono ?_
    rintro e w1 ⟨rfl, hb1⟩
    go_wp2_with fail
    go_ret
    exact ⟨ret_int (by rw [e.out]), hb1⟩
theorem firstOf_is (y m f : Int) (w : World) (h0 : 2000 ≤ y) (h1 : 1 ≤ m) (h2 : m ≤ 12) (h : fE y m = f) :
    Calls Try.prog 91 #[.int .i64 y, .int .i64 m] w (Ans w (.int .i64 f)) := by subst h; exact firstOf_any y m w h0 h1 h2
theorem length_at (y m v : Int) (w : World) (h : Cal.dim y m = v) :
    Calls Try.prog 61 #[.int .i64 y, .int .i64 m] w fun e w' => e = .returned (.int .i64 v) ∧ w = w' := by subst h; exact length_any y m w
theorem leap_at (y : Int) (b : Bool) (w : World) (h : Cal.lpB y = b) :
    Calls Try.prog 78 #[.int .i64 y] w fun e w' => e = .returned (.bool b) ∧ w = w' := by subst h; exact leap_any y w

set_option maxHeartbeats 400000 in
theorem month_any (y m y2 m2 f d : Int) (w : World) (h0 : 2000 ≤ y) (hy : y ≤ 2099) (h1 : 1 ≤ m) (h2 : m ≤ 8000000) (e1 : y + (m - 1) / 12 = y2) (e2 : (m - 1) % 12 + 1 = m2) (hf : fE y2 m2 = f) (hd : Cal.dim y2 m2 = d) :
    Calls Try.prog 81 #[.int .i64 y, .int .i64 m] w (Ans w (.tuple #[.int .i64 f, .int .i64 (f + d)])) := by
  have fb := fE_bd y2 m2 (by omega) (by omega) (by omega)
  rw [hf] at fb
  have db := Cal.dim_bd y2 m2
  rw [hd] at db
  have t1 : (m - 1).tdiv 12 = (m - 1) / 12 := Int.tdiv_eq_ediv_of_nonneg (by omega)
  have t2 : (m - 1).tmod 12 = (m - 1) % 12 := Int.tmod_eq_emod_of_nonneg (by omega)
  have HF := hide hf
  have HD := hide hd
  clear hf hd
  go_enter Try.func81, Try.ntmps81
  go_wp2_with fail
  refine (firstOf_is y2 m2 f _ (by omega) (by omega) (by omega) HF.out).mono ?_
  rintro e w1 ⟨rfl, hb1⟩
  go_wp2_with fail
  refine (length_at y2 m2 d _ HD.out).mono ?_
  rintro e w2 ⟨rfl, rfl⟩
  go_wp2_with fail
  go_ret2
  exact ⟨rfl, hb1⟩
set_option maxHeartbeats 400000 in
theorem year_any (y f d : Int) (b : Bool) (w : World) (h0 : 2000 ≤ y) (hf : fE y 1 = f) (hb : Cal.lpB y = b) (hd : (if b then 366 else 365) = d) :
    Calls Try.prog 82 #[.int .i64 y] w (Ans w (.tuple #[.int .i64 f, .int .i64 (f + d)])) := by
  have fb := fE_bd y 1 (by omega) (by omega) (by omega)
  rw [hf] at fb
  have HF := hide hf
  have HB := hide hb
  clear hf hb
  cases b
  · obtain rfl : d = 365 := by simpa using hd.symm
    go_enter Try.func82, Try.ntmps82
    go_wp2_with fail
    refine (firstOf_is y 1 f _ (by omega) (by omega) (by omega) HF.out).mono ?_
    rintro e w1 ⟨rfl, hb1⟩
    go_wp2_with fail
    refine (leap_at y _ _ HB.out).mono ?_
    rintro e w2 ⟨rfl, rfl⟩
    go_wp2_with fail
    go_ret2
    exact ⟨rfl, hb1⟩
  · obtain rfl : d = 366 := by simpa using hd.symm
    go_enter Try.func82, Try.ntmps82
    go_wp2_with fail
    refine (firstOf_is y 1 f _ (by omega) (by omega) (by omega) HF.out).mono ?_
    rintro e w1 ⟨rfl, hb1⟩
    go_wp2_with fail
    refine (leap_at y _ _ HB.out).mono ?_
    rintro e w2 ⟨rfl, rfl⟩
    go_wp2_with fail
    go_ret2
    exact ⟨rfl, hb1⟩

/-- a date in a block of its own. -/
theorem weekday_at (n v : Int) (w : World) (h1 : 0 ≤ n) (h2 : n < 36525) (h : Cal.wday n = v) :
    Calls Try.prog 80 #[.int .i64 n] w (Ans w (.int .i64 v)) := by subst h; exact weekday_any n w (by unfold I64; omega)
set_option maxHeartbeats 400000 in
theorem bounds_1 (s y m d n : Int) (w : World) (s0 : 0 ≤ s) (s1 : s < 36525) (n0 : 0 ≤ n) (n1 : n ≤ 4000000) :
    Calls Try.prog 63 #[.int .i64 1, .int .i64 s, .agg #[.int .i64 y, .int .i64 m, .int .i64 d], .int .i64 n] w (Ans w (.tuple #[.int .i64 (s + n), .int .i64 (s + n + 1)])) := by
  go_enter Try.func63, Try.ntmps63
  go_wp2_with fail
  go_ret2
  exact ⟨rfl, more (start _) _⟩
set_option maxHeartbeats 400000 in
theorem bounds_2 (s y m d n v : Int) (w : World) (s0 : 0 ≤ s) (s1 : s < 36525) (n0 : 0 ≤ n) (n1 : n ≤ 4000000) (hv : Cal.wday s = v) :
    Calls Try.prog 63 #[.int .i64 2, .int .i64 s, .agg #[.int .i64 y, .int .i64 m, .int .i64 d], .int .i64 n] w (Ans w (.tuple #[.int .i64 (s - v + n * 7), .int .i64 (s - v + n * 7 + 7)])) := by
  have vb := Cal.wday_bd s
  rw [hv] at vb
  have HV := hide hv
  clear hv
  go_enter Try.func63, Try.ntmps63
  go_wp2_with fail
  refine (weekday_at s v _ s0 s1 HV.out).mono ?_
  rintro e w1 ⟨rfl, hb1⟩
  go_wp2_with fail
  go_ret2
  exact ⟨rfl, andthen (more (start _) _) hb1⟩
set_option maxHeartbeats 400000 in
theorem bounds_3 (s y m d n y2 m2 f v : Int) (w : World) (h0 : 2000 ≤ y) (hy : y ≤ 2099) (h1 : 1 ≤ m) (h2 : m ≤ 12) (n0 : 0 ≤ n) (n1 : n ≤ 4000000) (e1 : y + (m + n - 1) / 12 = y2) (e2 : (m + n - 1) % 12 + 1 = m2) (hf : fE y2 m2 = f) (hv : Cal.dim y2 m2 = v) :
    Calls Try.prog 63 #[.int .i64 3, .int .i64 s, .agg #[.int .i64 y, .int .i64 m, .int .i64 d], .int .i64 n] w (Ans w (.tuple #[.int .i64 f, .int .i64 (f + v)])) := by
  have HF := hide hf
  have HV := hide hv
  clear hf hv
  go_enter Try.func63, Try.ntmps63
  go_wp2_with fail
  refine (month_any y (m + n) y2 m2 f v _ h0 hy (by omega) (by omega) e1 e2 HF.out HV.out).mono ?_
  rintro e w1 ⟨rfl, hb1⟩
  go_wp2_with fail
  go_ret2
  exact ⟨rfl, andthen (more (start _) _) hb1⟩
set_option maxHeartbeats 400000 in
theorem bounds_4 (s y m d n f v : Int) (b : Bool) (w : World) (h0 : 2000 ≤ y) (hy : y ≤ 2099) (n0 : 0 ≤ n) (n1 : n ≤ 4000000) (hf : fE (y + n) 1 = f) (hb : Cal.lpB (y + n) = b) (hv : (if b then 366 else 365) = v) :
    Calls Try.prog 63 #[.int .i64 4, .int .i64 s, .agg #[.int .i64 y, .int .i64 m, .int .i64 d], .int .i64 n] w (Ans w (.tuple #[.int .i64 f, .int .i64 (f + v)])) := by
  have HF := hide hf
  have HV := hide hv
  have HB := hide hb
  clear hf hv hb
  go_enter Try.func63, Try.ntmps63
  go_wp2_with fail
  refine (year_any (y + n) f v b _ (by omega) HF.out HB.out HV.out).mono ?_
  rintro e w1 ⟨rfl, hb1⟩
  go_wp2_with fail
  go_ret2
  exact ⟨rfl, andthen (more (start _) _) hb1⟩
/-- what bounds answers: both are the period's, where it begins in time. -/
theorem bounds_any (fr s y m d n a : Int) (w : World) (f1 : 1 ≤ fr) (f2 : fr ≤ 4) (s0 : 0 ≤ s) (s1 : s < 36525) (hy : Cal.yOf s = y) (hm : Cal.mOf s = m) (n0 : 0 ≤ n) (n1 : n ≤ 4000000) (ha : pA fr s n = a) :
    Calls Try.prog 63 #[.int .i64 fr, .int .i64 s, .agg #[.int .i64 y, .int .i64 m, .int .i64 d], .int .i64 n] w fun e w' => ∃ b : Int, e = .returned (.tuple #[.int .i64 a, .int .i64 b]) ∧ (a < 36525 → b = pB fr s n) ∧ Below w.heap.size w w' := by
  have yb := Cal.yOf_bd s s0 s1
  have mb := Cal.mOf_bd s
  rw [hy] at yb
  rw [hm] at mb
  rcases fr_cases fr f1 f2 with rfl | rfl | rfl | rfl
  · refine (bounds_1 s y m d n w s0 s1 n0 n1).mono ?_
    rintro e w1 ⟨rfl, hb⟩
    rw [pA_1] at ha
    exact ⟨s + n + 1, by rw [ha], fun _ => by rw [pB_1], hb⟩
  · refine (bounds_2 s y m d n _ w s0 s1 n0 n1 rfl).mono ?_
    rintro e w1 ⟨rfl, hb⟩
    rw [pA_2] at ha
    exact ⟨_, by rw [ha], fun _ => by rw [pB_2, ← ha], hb⟩
  · rw [pA_3, hy, hm] at ha
    have q1 : (12 * (y - 2000) + (m - 1) + n) / 12 = y - 2000 + (m + n - 1) / 12 := by omega
    have q2 : (12 * (y - 2000) + (m - 1) + n) % 12 + 1 = (m + n - 1) % 12 + 1 := by omega
    have q3 : 2000 + (12 * (y - 2000) + (m - 1) + n) / 12 = y + (m + n - 1) / 12 := by omega
    refine (bounds_3 s y m d n _ _ a _ w yb.1 yb.2 mb.1 mb.2 n0 n1 rfl rfl (by rw [← ha]; unfold fst; rw [q3, q2]) rfl).mono ?_
    rintro e w1 ⟨rfl, hb⟩
    refine ⟨_, rfl, fun h => ?_, hb⟩
    rw [pB_3, hy, hm]
    rw [← ha] at h
    rw [fst_next _ (by omega) (fst_in _ (by omega) h), ha, q3, q2]
  · rw [pA_4, hy] at ha
    have q3 : 2000 + (y - 2000 + n) = y + n := by omega
    refine (bounds_4 s y m d n a _ _ w yb.1 yb.2 n0 n1 (by rw [← ha, fst_jan, q3]) rfl rfl).mono ?_
    rintro e w1 ⟨rfl, hb⟩
    refine ⟨_, rfl, fun h => ?_, hb⟩
    rw [pB_4, hy]
    rw [← ha] at h
    rw [fst_jan_next _ (by omega) h, ha, q3]

end Go.Proofs.Ytdmplojfidkipaa

/- Walks of package civil: days that there aren't; Minute, Clock. -/
import Derived.Test.YtbohogaopfkmlaaDoorCivF
namespace Go.Proofs.YtbohogaopfkmlaaDoor
open Go.RowKit

set_option maxHeartbeats 400000 in
theorem Date_no (n : Int) (w : World) (h : n < 0 ∨ 36525 ≤ n) :
    Calls Tryd.prog 14 #[.int .i64 n] w fun e w' => e = .returned (.tuple #[.agg #[.int .i64 0, .int .i64 0, .int .i64 0], .int .i64 10]) ∧ Below w.heap.size w w' := by
  have H := hide h
  clear h
  go_enter Tryd.func14, Tryd.ntmps14
  go_wp2_with fail
  refine (day_no n _ H.out).mono ?_
  rintro e w1 ⟨rfl, hb1⟩
  obtain ⟨hc, hf⟩ := bcell hb1
  go_wp2_with fail
  have e0 : w1.cell? ⟨w.heap.size, 0, none⟩ = some (.int .i64 0) := by rw [hc _ _ (by simp; omega)]; simp
  have e1 : w1.cell? ⟨w.heap.size, 1, none⟩ = some (.int .i64 0) := by rw [hc _ _ (by simp; omega)]; simp
  have e2 : w1.cell? ⟨w.heap.size, 2, none⟩ = some (.int .i64 0) := by rw [hc _ _ (by simp; omega)]; simp
  refine bodyPost_ret (v := .tuple #[.agg #[.int .i64 0, .int .i64 0, .int .i64 0], .int .i64 10]) (by simp [results, Tryd.results14, go_sem, e0, e1, e2]) rfl ⟨rfl, ?_⟩
  repeat (first | exact Below.refl _ _ | refine Below.trans ?_ (hb1.mono (by simp; omega)) | refine below_drewN ?_ _ | refine Below.setCell ?_ (by simp) _ | refine Below.alloc ?_ (by simp) _)

set_option maxHeartbeats 400000 in
theorem minuteOf_any (a h m : Int) (w : World) (ha : 0 ≤ a) (ha2 : a < 36525) (hh : 0 ≤ h) (hh2 : h ≤ 23) (hm : 0 ≤ m) (hm2 : m ≤ 59) :
    Calls Tryd.prog 34 #[.int .i64 a, .int .i64 h, .int .i64 m] w fun e w' => e = .returned (.agg #[.int .i64 (a * 1440 + h * 60 + m)]) ∧ Below w.heap.size w w' := by
  go_enter Tryd.func34, Tryd.ntmps34
  go_wp2_with fail
  refine bodyPost_ret (v := .agg #[.int .i64 (a * 1440 + h * 60 + m)]) (by simp [results, Tryd.results34, go_sem]) rfl ⟨rfl, ?_⟩
  repeat (first | exact Below.refl _ _ | refine below_drewN ?_ _ | refine Below.setCell ?_ (by simp) _ | refine Below.alloc ?_ (by simp) _)

theorem number_is (y m d a c : Int) (w : World) (h : numE y m d = (a, c)) :
    Calls Tryd.prog 12 #[.agg #[.int .i64 y, .int .i64 m, .int .i64 d]] w fun e w' => e = .returned (.tuple #[.int .i64 a, .int .i64 c]) ∧ Below w.heap.size w w' := by
  have := number_any y m d w
  rw [h] at this
  exact this

/-- is there such a time of the clock? -/
def timeB (h m : Int) : Bool := decide (0 ≤ h) && decide (h ≤ 23) && decide (0 ≤ m) && decide (m ≤ 59)
theorem timeB_iff (h m : Int) : timeB h m = true ↔ 0 ≤ h ∧ h ≤ 23 ∧ 0 ≤ m ∧ m ≤ 59 := by simp [timeB, and_assoc]
/-- what Minute answers: the minute, or which error. -/
def minE (y mo d h m : Int) : Int × Int := if (numE y mo d).2 = 0 then (if timeB h m then ((numE y mo d).1 * 1440 + h * 60 + m, 0) else (0, 11)) else (0, (numE y mo d).2)

set_option maxHeartbeats 400000 in
theorem Minute_err (y mo d h m c : Int) (w : World) (hn : numE y mo d = (0, c)) (hc : (c == 0) = false) :
    Calls Tryd.prog 16 #[.agg #[.int .i64 y, .int .i64 mo, .int .i64 d], .int .i64 h, .int .i64 m] w fun e w' => e = .returned (.tuple #[.int .i64 0, .int .i64 c]) ∧ Below w.heap.size w w' := by
  have H := hide hn
  clear hn
  have hc' : (c != 0) = true := by simp [bne, hc]
  go_enter Tryd.func16, Tryd.ntmps16
  go_wp2_with fail
  refine (number_is y mo d 0 c _ H.out).mono ?_
  rintro e w1 ⟨rfl, hb1⟩
  go_wp2_with fail
  go_ret2
  refine ⟨rfl, ?_⟩
  repeat (first | exact Below.refl _ _ | refine Below.trans ?_ (hb1.mono (by simp)) | refine below_drewN ?_ _ | refine Below.setCell ?_ (by simp) _ | refine Below.alloc ?_ (by simp) _)

set_option maxHeartbeats 400000 in
theorem Minute_time (y mo d h m a : Int) (w : World) (hn : numE y mo d = (a, 0)) (ht : h < 0 ∨ 23 < h ∨ m < 0 ∨ 59 < m) :
    Calls Tryd.prog 16 #[.agg #[.int .i64 y, .int .i64 mo, .int .i64 d], .int .i64 h, .int .i64 m] w fun e w' => e = .returned (.tuple #[.int .i64 0, .int .i64 11]) ∧ Below w.heap.size w w' := by
  have H := hide hn
  clear hn
  by_cases c1 : h < 0 <;> by_cases c2 : 23 < h <;> by_cases c3 : m < 0 <;> by_cases c4 : 59 < m
  all_goals first
    | omega
    | (clear ht
       go_enter Tryd.func16, Tryd.ntmps16
       go_wp2_with fail
       refine (number_is y mo d a 0 _ H.out).mono ?_
       rintro e w1 ⟨rfl, hb1⟩
       go_wp2_with fail
       go_ret2
       refine ⟨rfl, ?_⟩
       repeat (first | exact Below.refl _ _ | refine Below.trans ?_ (hb1.mono (by simp)) | refine below_drewN ?_ _ | refine Below.setCell ?_ (by simp) _ | refine Below.alloc ?_ (by simp) _))

set_option maxHeartbeats 400000 in
theorem Minute_ok (y mo d h m a : Int) (w : World) (hn : numE y mo d = (a, 0)) (ha : 0 ≤ a) (ha2 : a < 36525) (hh : 0 ≤ h) (hh2 : h ≤ 23) (hm : 0 ≤ m) (hm2 : m ≤ 59) :
    Calls Tryd.prog 16 #[.agg #[.int .i64 y, .int .i64 mo, .int .i64 d], .int .i64 h, .int .i64 m] w fun e w' => e = .returned (.tuple #[.int .i64 (a * 1440 + h * 60 + m), .int .i64 0]) ∧ Below w.heap.size w w' := by
  have H := hide hn
  clear hn
  have hfd := field_minute
  go_enter Tryd.func16, Tryd.ntmps16
  go_wp2_with fail
  refine (number_is y mo d a 0 _ H.out).mono ?_
  rintro e w1 ⟨rfl, hb1⟩
  go_wp2_with fail
  refine (minuteOf_any a h m _ ha ha2 hh hh2 hm hm2).mono ?_
  rintro e w2 ⟨rfl, hb2⟩
  go_wp2_with fail
  go_ret2
  have hz := hb1.size
  refine ⟨rfl, ?_⟩
  repeat (first | exact Below.refl _ _ | refine Below.trans ?_ (hb2.mono (by simp at hz; omega)) | refine Below.trans ?_ (hb1.mono (by simp)) | refine below_drewN ?_ _ | refine Below.setCell ?_ (by simp) _ | refine Below.alloc ?_ (by simp) _)

end Go.Proofs.YtbohogaopfkmlaaDoor

/- Walks of package civil: days that there aren't; Minute, Clock. -/
import Derived.Test.YtdmplojfidkipaaCivF
namespace Go.Proofs.Ytdmplojfidkipaa
open Go.RowKit

set_option maxHeartbeats 400000 in
theorem Date_no (n : Int) (w : World) (h : n < 0 ∨ 36525 ≤ n) :
    Calls Try.prog 62 #[.int .i64 n] w fun e w' => e = .returned (.tuple #[.agg #[.int .i64 0, .int .i64 0, .int .i64 0], .int .i64 10]) ∧ Below w.heap.size w w' := by
  have H := hide h
  clear h
  go_enter Try.func62, Try.ntmps62
  go_wp2_with fail
  refine (day_no n _ H.out).mono ?_
  rintro e w1 ⟨rfl, hb1⟩
  obtain ⟨hc, hf⟩ := bcell hb1
  go_wp2_with fail
  have e0 : w1.cell? ⟨w.heap.size, 0, none⟩ = some (.int .i64 0) := by rw [hc _ _ (by simp; omega)]; simp
  have e1 : w1.cell? ⟨w.heap.size, 1, none⟩ = some (.int .i64 0) := by rw [hc _ _ (by simp; omega)]; simp
  have e2 : w1.cell? ⟨w.heap.size, 2, none⟩ = some (.int .i64 0) := by rw [hc _ _ (by simp; omega)]; simp
  refine bodyPost_ret (v := .tuple #[.agg #[.int .i64 0, .int .i64 0, .int .i64 0], .int .i64 10]) (by simp [results, Try.results62, go_sem, e0, e1, e2]) rfl ⟨rfl, ?_⟩
  repeat (first | exact Below.refl _ _ | refine Below.trans ?_ (hb1.mono (by simp; omega)) | refine below_drewN ?_ _ | refine Below.setCell ?_ (by simp) _ | refine Below.alloc ?_ (by simp) _)

theorem number_is (y m d a c : Int) (w : World) (h : numE y m d = (a, c)) :
    Calls Try.prog 95 #[.agg #[.int .i64 y, .int .i64 m, .int .i64 d]] w fun e w' => e = .returned (.tuple #[.int .i64 a, .int .i64 c]) ∧ Below w.heap.size w w' := by
  have := number_any y m d w
  rw [h] at this
  exact this

/-- is there such a time of the clock? -/
def timeB (h m : Int) : Bool := decide (0 ≤ h) && decide (h ≤ 23) && decide (0 ≤ m) && decide (m ≤ 59)
theorem timeB_iff (h m : Int) : timeB h m = true ↔ 0 ≤ h ∧ h ≤ 23 ∧ 0 ≤ m ∧ m ≤ 59 := by simp [timeB, and_assoc]
/-- what Minute answers: the minute, or which error. -/
def minE (y mo d h m : Int) : Int × Int := if (numE y mo d).2 = 0 then (if timeB h m then ((numE y mo d).1 * 1440 + h * 60 + m, 0) else (0, 11)) else (0, (numE y mo d).2)

end Go.Proofs.Ytdmplojfidkipaa

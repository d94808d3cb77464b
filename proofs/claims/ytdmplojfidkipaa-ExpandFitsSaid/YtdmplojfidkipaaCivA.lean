/- Walks of package civil, the plain ones: leap years, lengths of months, the number of a day. -/
import Derived.Test.YtdmplojfidkipaaProg
import Derived.Test.YtdmplojfidkipaaCivMath
import Derived.WalkKit
import Derived.WalkSpells
import Derived.WalkLawsBesides
import Derived.Deep.QuietTactic
import Derived.BigQuiet
namespace Go.Proofs.Ytdmplojfidkipaa
open Go.RowKit

theorem hide {p : Prop} (h : p) : Hid p := h
theorem ret_bool {a b : Bool} (h : a = b) : Ending.returned (.bool a) = .returned (.bool b) := by rw [h]
theorem ret_int {k : IntKind} {a b : Int} (h : a = b) : Ending.returned (.int k a) = .returned (.int k b) := by rw [h]

set_option maxHeartbeats 400000 in
theorem leap_any (y : Int) (w : World) :
    Calls Try.prog 78 #[.int .i64 y] w fun e w' => e = .returned (.bool (Cal.lpB y)) ∧ w = w' := by
  by_cases h4 : (y.tmod 4 == 0) = true
  all_goals
    go_enter Try.func78, Try.ntmps78
    go_wp2
    all_goals
      go_ret
      exact ⟨ret_bool (by simp_all [Cal.lpB]), rfl⟩

theorem dim_31 (y m : Int) (h : m = 1 ∨ m = 3 ∨ m = 5 ∨ m = 7 ∨ m = 8 ∨ m = 10 ∨ m = 12) : 31 = Cal.dim y m := by
  unfold Cal.dim; rw [if_pos h]
theorem dim_30 (y m : Int) (h : m = 4 ∨ m = 6 ∨ m = 9 ∨ m = 11) : 30 = Cal.dim y m := by
  unfold Cal.dim; rw [if_neg (by omega), if_pos h]
theorem dim_29 (y : Int) (h : Cal.lpB y = true) : 29 = Cal.dim y 2 := by simp [Cal.dim, h]
theorem dim_28 (y : Int) (h : Cal.lpB y = false) : 28 = Cal.dim y 2 := by simp [Cal.dim, h]
theorem dim_0 (y m : Int) (h : m < 1 ∨ 12 < m) : 0 = Cal.dim y m := (Cal.dim_out y m h).symm

set_option maxHeartbeats 1000000 in
theorem length_any (y m : Int) (w : World) :
    Calls Try.prog 61 #[.int .i64 y, .int .i64 m] w fun e w' => e = .returned (.int .i64 (Cal.dim y m)) ∧ w = w' := by
  by_cases hm : m = 2
  · subst hm
    cases hb : Cal.lpB y
    all_goals
      go_enter Try.func61, Try.ntmps61
      go_wp2_with (go_at_call 78; refine (leap_any _ _).mono ?_; rintro e w' ⟨rfl, rfl⟩)
      go_ret
      exact ⟨ret_int (by first | exact dim_28 y hb | exact dim_29 y hb), rfl⟩
  · go_enter Try.func61, Try.ntmps61
    go_wp2_with fail
    all_goals
      go_ret
      exact ⟨ret_int (by simp only [beq_iff_eq, beq_eq_false_iff_ne, ne_eq] at *; first | exact dim_31 y m (by omega) | exact dim_30 y m (by omega) | exact dim_0 y m (by omega)), rfl⟩

end Go.Proofs.Ytdmplojfidkipaa

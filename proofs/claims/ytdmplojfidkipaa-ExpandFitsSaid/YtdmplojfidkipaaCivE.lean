/- Walks of package civil: weekdays, which days and minutes there are. -/
import Derived.Test.YtdmplojfidkipaaCivD
namespace Go.Proofs.Ytdmplojfidkipaa
open Go.RowKit

theorem wrap64_id (n : Int) (h : I64 n) : wrap64 n = n := by
  unfold I64 at h
  unfold wrap64
  omega
theorem tdiv_pred (n s : Int) (hn : I64 n) (h1 : 0 < s) (h2 : s < 1000000) (hq : I64 (n / s)) (h : n.tmod s < 0) : wrap64 (wrap64 (n.tdiv s) - 1) = n / s ∧ wrap64 (n.tmod s + s) = n % s := by
  have a := split_neg n s h1 h
  have b0 := Int.emod_nonneg n (b := s) (by omega)
  have b1 := Int.emod_lt_of_pos n h1
  rw [wrap64_id _ (quo_any n s hn h1), a.2, a.1]
  exact ⟨wrap64_id _ hq, wrap64_id _ (by unfold I64; omega)⟩
theorem tdiv_same (n s : Int) (hn : I64 n) (h1 : 0 < s) (h : 0 ≤ n.tmod s) : wrap64 (n.tdiv s) = n / s ∧ n.tmod s = n % s := by
  have a := split_pos n s h1 (by omega)
  have q := quo_any n s hn h1
  rw [wrap64_id _ q]
  exact ⟨a.2, a.1⟩

theorem ret_two {k : IntKind} {a b c d : Int} (h : a = b ∧ c = d) : Ending.returned (.tuple #[.int k a, .int k c]) = .returned (.tuple #[.int k b, .int k d]) := by rw [h.1, h.2]

set_option maxHeartbeats 400000 in
theorem split_7 (n : Int) (w : World) (hn : I64 n) :
    Calls Try.prog 59 #[.int .i64 n, .int .i64 7] w fun e w' => e = .returned (.tuple #[.int .i64 (n / 7), .int .i64 (n % 7)]) ∧ ∃ q, w' = w.drewN q := by
  go_enter Try.func59, Try.ntmps59
  go_wp2_with fail
  go_quiet (fail)
  go_wp2_with fail
  · have h : n.tmod 7 < 0 := by assumption
    go_ret2
    exact ⟨ret_two (tdiv_pred n 7 hn (by omega) (by omega) (by unfold I64 at *; omega) h), _, rfl⟩
  · have h : 0 ≤ n.tmod 7 := by assumption
    go_ret2
    exact ⟨ret_two (tdiv_same n 7 hn (by omega) h), _, rfl⟩
set_option maxHeartbeats 400000 in
theorem split_day (n : Int) (w : World) (hn : I64 n) :
    Calls Try.prog 59 #[.int .i64 n, .int .i64 1440] w fun e w' => e = .returned (.tuple #[.int .i64 (n / 1440), .int .i64 (n % 1440)]) ∧ ∃ q, w' = w.drewN q := by
  go_enter Try.func59, Try.ntmps59
  go_wp2_with fail
  go_quiet (fail)
  go_wp2_with fail
  · have h : n.tmod 1440 < 0 := by assumption
    go_ret2
    exact ⟨ret_two (tdiv_pred n 1440 hn (by omega) (by omega) (by unfold I64 at *; omega) h), _, rfl⟩
  · have h : 0 ≤ n.tmod 1440 := by assumption
    go_ret2
    exact ⟨ret_two (tdiv_same n 1440 hn (by omega) h), _, rfl⟩

theorem mod7_bd (n : Int) : 0 ≤ n % 7 ∧ n % 7 ≤ 6 := by omega
theorem wday_go (n : Int) : (5 + n % 7) % 7 = Cal.wday n := rfl
set_option maxHeartbeats 400000 in
theorem weekday_in (n : Int) (w : World) (hn : I64 n) :
    Calls Try.prog 90 #[.agg #[.int .i64 n]] w fun e w' => e = .returned (.int .i64 (Cal.wday n)) ∧ Below w.heap.size w w' := by
  have hb := mod7_bd n
  go_enter Try.func90, Try.ntmps90
  go_wp2_with fail
  refine (split_7 n _ hn).mono ?_
  rintro e w' ⟨rfl, q, rfl⟩
  go_wp2_with fail
  go_ret
  exact ⟨ret_int (wday_go n), below_drewN ((Below.refl _ _).alloc (Nat.le_refl _) _) _⟩
set_option maxHeartbeats 400000 in
theorem weekday_any (n : Int) (w : World) (hn : I64 n) :
    Calls Try.prog 80 #[.int .i64 n] w fun e w' => e = .returned (.int .i64 (Cal.wday n)) ∧ Below w.heap.size w w' := by
  go_enter Try.func80, Try.ntmps80
  go_wp2_with fail
  refine (weekday_in n _ hn).mono ?_
  rintro e w' ⟨rfl, hb⟩
  go_wp2_with fail
  go_ret
  exact ⟨rfl, hb⟩

end Go.Proofs.Ytdmplojfidkipaa

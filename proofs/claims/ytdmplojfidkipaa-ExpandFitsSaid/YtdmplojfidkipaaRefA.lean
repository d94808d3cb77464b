/- Walks of the document's own answers, layer 1: leap years, lengths, dates that there are, numbers of days. -/
import Derived.Test.YtdmplojfidkipaaCivG
namespace Go.Proofs.Ytdmplojfidkipaa
open Go.RowKit

set_option maxHeartbeats 400000 in
theorem rleap_any (y : Int) (w : World) :
    Calls Try.prog 37 #[.int .i64 y] w fun e w' => e = .returned (.bool (Cal.lpB y)) ∧ w = w' := by
  by_cases h4 : (y.tmod 4 == 0) = true
  all_goals
    go_enter Try.func37, Try.ntmps37
    go_wp2
    all_goals
      go_ret
      exact ⟨ret_bool (by simp_all [Cal.lpB]), rfl⟩

theorem idx_1 (w : World) : (Instr.index 73 (.agg #[.int .i64 31, .int .i64 28, .int .i64 31, .int .i64 30, .int .i64 31, .int .i64 30, .int .i64 31, .int .i64 31, .int .i64 30, .int .i64 31, .int .i64 30, .int .i64 31]) (.int .i64 0)).run Try.prog w = .ok (.int .i64 31) w := by kernel_rfl
theorem idx_2 (w : World) : (Instr.index 73 (.agg #[.int .i64 31, .int .i64 28, .int .i64 31, .int .i64 30, .int .i64 31, .int .i64 30, .int .i64 31, .int .i64 31, .int .i64 30, .int .i64 31, .int .i64 30, .int .i64 31]) (.int .i64 1)).run Try.prog w = .ok (.int .i64 28) w := by kernel_rfl
theorem idx_3 (w : World) : (Instr.index 73 (.agg #[.int .i64 31, .int .i64 28, .int .i64 31, .int .i64 30, .int .i64 31, .int .i64 30, .int .i64 31, .int .i64 31, .int .i64 30, .int .i64 31, .int .i64 30, .int .i64 31]) (.int .i64 2)).run Try.prog w = .ok (.int .i64 31) w := by kernel_rfl
theorem idx_4 (w : World) : (Instr.index 73 (.agg #[.int .i64 31, .int .i64 28, .int .i64 31, .int .i64 30, .int .i64 31, .int .i64 30, .int .i64 31, .int .i64 31, .int .i64 30, .int .i64 31, .int .i64 30, .int .i64 31]) (.int .i64 3)).run Try.prog w = .ok (.int .i64 30) w := by kernel_rfl
theorem idx_5 (w : World) : (Instr.index 73 (.agg #[.int .i64 31, .int .i64 28, .int .i64 31, .int .i64 30, .int .i64 31, .int .i64 30, .int .i64 31, .int .i64 31, .int .i64 30, .int .i64 31, .int .i64 30, .int .i64 31]) (.int .i64 4)).run Try.prog w = .ok (.int .i64 31) w := by kernel_rfl
theorem idx_6 (w : World) : (Instr.index 73 (.agg #[.int .i64 31, .int .i64 28, .int .i64 31, .int .i64 30, .int .i64 31, .int .i64 30, .int .i64 31, .int .i64 31, .int .i64 30, .int .i64 31, .int .i64 30, .int .i64 31]) (.int .i64 5)).run Try.prog w = .ok (.int .i64 30) w := by kernel_rfl
theorem idx_7 (w : World) : (Instr.index 73 (.agg #[.int .i64 31, .int .i64 28, .int .i64 31, .int .i64 30, .int .i64 31, .int .i64 30, .int .i64 31, .int .i64 31, .int .i64 30, .int .i64 31, .int .i64 30, .int .i64 31]) (.int .i64 6)).run Try.prog w = .ok (.int .i64 31) w := by kernel_rfl
theorem idx_8 (w : World) : (Instr.index 73 (.agg #[.int .i64 31, .int .i64 28, .int .i64 31, .int .i64 30, .int .i64 31, .int .i64 30, .int .i64 31, .int .i64 31, .int .i64 30, .int .i64 31, .int .i64 30, .int .i64 31]) (.int .i64 7)).run Try.prog w = .ok (.int .i64 31) w := by kernel_rfl
theorem idx_9 (w : World) : (Instr.index 73 (.agg #[.int .i64 31, .int .i64 28, .int .i64 31, .int .i64 30, .int .i64 31, .int .i64 30, .int .i64 31, .int .i64 31, .int .i64 30, .int .i64 31, .int .i64 30, .int .i64 31]) (.int .i64 8)).run Try.prog w = .ok (.int .i64 30) w := by kernel_rfl
theorem idx_10 (w : World) : (Instr.index 73 (.agg #[.int .i64 31, .int .i64 28, .int .i64 31, .int .i64 30, .int .i64 31, .int .i64 30, .int .i64 31, .int .i64 31, .int .i64 30, .int .i64 31, .int .i64 30, .int .i64 31]) (.int .i64 9)).run Try.prog w = .ok (.int .i64 31) w := by kernel_rfl
theorem idx_11 (w : World) : (Instr.index 73 (.agg #[.int .i64 31, .int .i64 28, .int .i64 31, .int .i64 30, .int .i64 31, .int .i64 30, .int .i64 31, .int .i64 31, .int .i64 30, .int .i64 31, .int .i64 30, .int .i64 31]) (.int .i64 10)).run Try.prog w = .ok (.int .i64 30) w := by kernel_rfl
theorem idx_12 (w : World) : (Instr.index 73 (.agg #[.int .i64 31, .int .i64 28, .int .i64 31, .int .i64 30, .int .i64 31, .int .i64 30, .int .i64 31, .int .i64 31, .int .i64 30, .int .i64 31, .int .i64 30, .int .i64 31]) (.int .i64 11)).run Try.prog w = .ok (.int .i64 31) w := by kernel_rfl
theorem idx_run (y m : Int) (h1 : 1 ≤ m) (h2 : m ≤ 12) (h : ¬ (m = 2 ∧ Cal.lpB y = true)) (w : World) :
    (Instr.index 73 (.agg #[.int .i64 31, .int .i64 28, .int .i64 31, .int .i64 30, .int .i64 31, .int .i64 30, .int .i64 31, .int .i64 31, .int .i64 30, .int .i64 31, .int .i64 30, .int .i64 31]) (.int .i64 (m - 1))).run Try.prog w = .ok (.int .i64 (Cal.dim y m)) w := by
  have hm : m = 1 ∨ m = 2 ∨ m = 3 ∨ m = 4 ∨ m = 5 ∨ m = 6 ∨ m = 7 ∨ m = 8 ∨ m = 9 ∨ m = 10 ∨ m = 11 ∨ m = 12 := by omega
  rcases hm with e | e | e | e | e | e | e | e | e | e | e | e
  · subst e; rw [← dim_31 y 1 (by omega)]; exact idx_1 w
  · subst e; rw [← dim_28 y (by simpa using h)]; exact idx_2 w
  · subst e; rw [← dim_31 y 3 (by omega)]; exact idx_3 w
  · subst e; rw [← dim_30 y 4 (by omega)]; exact idx_4 w
  · subst e; rw [← dim_31 y 5 (by omega)]; exact idx_5 w
  · subst e; rw [← dim_30 y 6 (by omega)]; exact idx_6 w
  · subst e; rw [← dim_31 y 7 (by omega)]; exact idx_7 w
  · subst e; rw [← dim_31 y 8 (by omega)]; exact idx_8 w
  · subst e; rw [← dim_30 y 9 (by omega)]; exact idx_9 w
  · subst e; rw [← dim_31 y 10 (by omega)]; exact idx_10 w
  · subst e; rw [← dim_30 y 11 (by omega)]; exact idx_11 w
  · subst e; rw [← dim_31 y 12 (by omega)]; exact idx_12 w
theorem rleap_at (y : Int) (b : Bool) (w : World) (h : Cal.lpB y = b) :
    Calls Try.prog 37 #[.int .i64 y] w fun e w' => e = .returned (.bool b) ∧ w = w' := by
  subst h; exact rleap_any y w

set_option maxHeartbeats 1000000 in
theorem rlength_any (y m : Int) (w : World) :
    Calls Try.prog 27 #[.int .i64 y, .int .i64 m] w fun e w' => e = .returned (.int .i64 (Cal.dim y m)) ∧ w = w' := by
  by_cases h1 : m < 1
  · rw [Cal.dim_out y m (.inl h1)]
    go_enter Try.func27, Try.ntmps27
    go_wp2_with fail
    go_ret
    exact ⟨rfl, rfl⟩
  by_cases h12 : 12 < m
  · rw [Cal.dim_out y m (.inr h12)]
    go_enter Try.func27, Try.ntmps27
    go_wp2_with fail
    go_ret
    exact ⟨rfl, rfl⟩
  by_cases h2 : m = 2
  · subst h2
    cases hb : Cal.lpB y
    · have hix := idx_2
      rw [← dim_28 y hb]
      have HB := hide hb
      clear hb
      go_enter Try.func27, Try.ntmps27
      go_wp2_with fail
      refine (rleap_at y false _ HB.out).mono ?_
      rintro e w' ⟨rfl, rfl⟩
      go_wp2_with fail
      go_ret
      exact ⟨rfl, rfl⟩
    · rw [← dim_29 y hb]
      have HB := hide hb
      clear hb
      go_enter Try.func27, Try.ntmps27
      go_wp2_with fail
      refine (rleap_at y true _ HB.out).mono ?_
      rintro e w' ⟨rfl, rfl⟩
      go_wp2_with fail
      go_ret
      exact ⟨rfl, rfl⟩
  · have hix := idx_run y m (by omega) (by omega) (fun h => h2 h.1)
    have h2' : (m == 2) = false := by rw [beq_eq_false_iff_ne]; exact h2
    generalize Cal.dim y m = D at *
    clear h2
    go_enter Try.func27, Try.ntmps27
    go_wp2_with fail
    go_ret
    exact ⟨rfl, rfl⟩

theorem rlength_at (y m v : Int) (w : World) (h : Cal.dim y m = v) :
    Calls Try.prog 27 #[.int .i64 y, .int .i64 m] w fun e w' => e = .returned (.int .i64 v) ∧ w = w' := by
  subst h; exact rlength_any y m w

theorem risB_yes (y m d : Int) (h : 1 ≤ d) : decide (d ≤ Cal.dim y m) = Cal.isB y m d := by simp [Cal.isB, h]
theorem risB_no (y m d : Int) (h : m < 1 ∨ 12 < m ∨ d < 1) : Cal.isB y m d = false := by
  rw [Bool.eq_false_iff]
  intro hb
  have := Cal.isB_month hb
  rw [Cal.isB_iff] at hb
  omega

set_option maxHeartbeats 400000 in
theorem ris_any (y m d : Int) (w : World) :
    Calls Try.prog 39 #[.agg #[.int .i64 y, .int .i64 m, .int .i64 d]] w fun e w' => e = .returned (.bool (Cal.isB y m d)) ∧ Below w.heap.size w w' := by
  by_cases h1 : 1 ≤ m
  · by_cases h2 : m ≤ 12
    · by_cases h3 : 1 ≤ d
      · go_enter Try.func39, Try.ntmps39
        go_wp2_with fail
        go_quiet ((go_at_call 27; exact quiet_left (rlength_any _ _ _)))
        go_wp2
        go_ret
        exact ⟨ret_bool (risB_yes y m d h3), below_drewN ((Below.refl _ _).alloc (Nat.le_refl _) _) _⟩
      · rw [risB_no y m d (by omega)]
        have hd : decide (1 ≤ d) = false := by simpa using h3
        go_enter Try.func39, Try.ntmps39
        go_wp2_with fail
        go_quiet ((go_at_call 27; exact quiet_left (rlength_any _ _ _)))
        go_wp2
        go_ret
        exact ⟨rfl, below_drewN ((Below.refl _ _).alloc (Nat.le_refl _) _) _⟩
    · rw [risB_no y m d (by omega)]
      have hd : decide (m ≤ 12) = false := by simpa using h2
      go_enter Try.func39, Try.ntmps39
      go_wp2_with fail
      go_quiet ((go_at_call 27; exact quiet_left (rlength_any _ _ _)))
      go_wp2
      go_ret
      exact ⟨rfl, below_drewN ((Below.refl _ _).alloc (Nat.le_refl _) _) _⟩
  · rw [risB_no y m d (by omega)]
    have hd : decide (1 ≤ m) = false := by simpa using h1
    go_enter Try.func39, Try.ntmps39
    go_wp2_with fail
    go_quiet ((go_at_call 27; exact quiet_left (rlength_any _ _ _)))
    go_wp2
    go_ret
    exact ⟨rfl, below_drewN ((Below.refl _ _).alloc (Nat.le_refl _) _) _⟩

end Go.Proofs.Ytdmplojfidkipaa

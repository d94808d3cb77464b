/- Walks of package civil: the number of a date, its errors; the date of a number. -/
import Derived.Test.YtdmplojfidkipaaCivB
namespace Go.Proofs.Ytdmplojfidkipaa
open Go.RowKit

theorem num_one (y d : Int) : Cal.yst y + d - 1 = Cal.yst y + d - 1 + Cal.cum y 1 := by rw [Cal.cum_one]; omega
theorem num_step (y d k : Int) (h1 : 1 ≤ k) (h2 : k ≤ 12) : Cal.yst y + d - 1 + Cal.cum y k + Cal.dim y k = Cal.yst y + d - 1 + Cal.cum y (k + 1) := by
  rw [Cal.cum_succ y k h1 h2]; omega
theorem num_end (y m d : Int) : Cal.yst y + d - 1 + Cal.cum y m = Cal.num y m d := by unfold Cal.num; omega

set_option maxHeartbeats 400000 in
theorem dayOf_any (y m d : Int) (w : World) (h1 : 2000 ≤ y) (h2 : y ≤ 2099) (hm1 : 1 ≤ m) (hm2 : m ≤ 12) (hd1 : 1 ≤ d) (hd2 : d ≤ 31) :
    Calls Try.prog 102 #[.agg #[.int .i64 y, .int .i64 m, .int .i64 d]] w fun e w' => e = .returned (.agg #[.int .i64 (Cal.num y m d)]) ∧ Below w.heap.size w w' := by
  have hy := Cal.yst_bd y h1 h2
  go_enter Try.func102, Try.ntmps102
  go_wp2_with fail
  go_quiet ((go_at_call 60; exact quiet_left (yearStart_any _ _ h1 h2)))
  go_wp2_with fail
  go_loop [3, 4] (fun n i => ∃ k : Int, 1 ≤ k ∧ k ≤ m ∧ i = .int .i64 k ∧ n = .int .i64 (Cal.yst y + d - 1 + Cal.cum y k)) (fun _ i => (12 - intOf i).toNat)
  case atStart => exact ⟨1, by omega, hm1, rfl, by rw [← num_one]⟩
  case round =>
    obtain ⟨k, hk1, hk2, rfl, rfl⟩ := hrel
    have hc := Cal.cum_bd y k hk1 (by omega)
    have hl := Cal.dim_bd y k
    by_cases hlt : k < m
    · have HS := hide (num_step y d k hk1 (by omega))
      go_wp2_with (go_at_call 61; refine (length_any _ _ _).mono ?_; rintro e w' ⟨rfl, rfl⟩)
      go_round
      case rel => exact ⟨k + 1, by omega, by omega, rfl, by rw [HS.out]⟩
      case measure => simp [intOf]; omega
    · obtain rfl : k = m := by omega
      go_wp2
      refine bodyPost_ret (v := .agg #[.int .i64 (Cal.yst y + d - 1 + Cal.cum y k)]) (by simp [results, Try.results102, go_sem]) rfl ⟨by rw [num_end], ?_⟩
      exact (below_drewN (((Below.refl _ _).alloc (Nat.le_refl _) _).alloc (by simp) _) _).setCell (by simp) _

/-- what Number answers: the number, or which error. -/
def numE (y m d : Int) : Int × Int := if Cal.isB y m d then (if 2000 ≤ y ∧ y ≤ 2099 then (Cal.num y m d, 0) else (0, 10)) else (0, 11)
theorem numE_11 (y m d : Int) (h : Cal.isB y m d = false) : numE y m d = (0, 11) := by simp [numE, h]
theorem numE_10 (y m d : Int) (h : Cal.isB y m d = true) (hy : y < 2000 ∨ 2099 < y) : numE y m d = (0, 10) := by
  unfold numE; rw [if_pos h, if_neg (by omega)]
theorem numE_0 (y m d : Int) (h : Cal.isB y m d = true) (h1 : 2000 ≤ y) (h2 : y ≤ 2099) : numE y m d = (Cal.num y m d, 0) := by
  unfold numE; rw [if_pos h, if_pos ⟨h1, h2⟩]

theorem is_at (b : Bool) (y m d : Int) (w : World) (h : Cal.isB y m d = b) :
    Calls Try.prog 101 #[.agg #[.int .i64 y, .int .i64 m, .int .i64 d]] w fun e w' => e = .returned (.bool b) ∧ Below w.heap.size w w' := by
  subst h; exact is_any y m d w

theorem field_day (n : Int) (w : World) : (Instr.field 86 (.agg #[.int .i64 n]) 0).run Try.prog w = .ok (.int .i64 n) w := by kernel_rfl
theorem field_minute (n : Int) (w : World) : (Instr.field 85 (.agg #[.int .i64 n]) 0).run Try.prog w = .ok (.int .i64 n) w := by kernel_rfl

set_option maxHeartbeats 400000 in
theorem number_any (y m d : Int) (w : World) :
    Calls Try.prog 95 #[.agg #[.int .i64 y, .int .i64 m, .int .i64 d]] w fun e w' => e = .returned (.tuple #[.int .i64 (numE y m d).1, .int .i64 (numE y m d).2]) ∧ Below w.heap.size w w' := by
  cases hb : Cal.isB y m d
  · rw [numE_11 y m d hb]
    have HB := hide hb
    clear hb
    go_enter Try.func95, Try.ntmps95
    go_wp2_with (go_at_call 101; refine (is_at false _ _ _ _ HB.out).mono ?_; rintro e w' ⟨rfl, hb1⟩)
    go_ret2
    exact ⟨rfl, ((Below.refl _ _).alloc (Nat.le_refl _) _).trans (hb1.mono (by simp))⟩
  · have hm := Cal.isB_month hb
    have hd := (Cal.isB_iff y m d).1 hb
    have hd2 := Cal.dim_bd y m
    have HB := hide hb
    by_cases h1 : y < 2000
    · rw [numE_10 y m d hb (.inl h1)]
      clear hb
      go_enter Try.func95, Try.ntmps95
      go_wp2_with (go_at_call 101; refine (is_at true _ _ _ _ HB.out).mono ?_; rintro e w' ⟨rfl, hb1⟩; obtain ⟨hc, hf⟩ := bcell hb1)
      go_ret2
      exact ⟨rfl, ((Below.refl _ _).alloc (Nat.le_refl _) _).trans (hb1.mono (by simp))⟩
    · by_cases h2 : 2099 < y
      · rw [numE_10 y m d hb (.inr h2)]
        clear hb
        go_enter Try.func95, Try.ntmps95
        go_wp2_with (go_at_call 101; refine (is_at true _ _ _ _ HB.out).mono ?_; rintro e w' ⟨rfl, hb1⟩; obtain ⟨hc, hf⟩ := bcell hb1)
        go_ret2
        exact ⟨rfl, ((Below.refl _ _).alloc (Nat.le_refl _) _).trans (hb1.mono (by simp))⟩
      · rw [numE_0 y m d hb (by omega) (by omega)]
        clear hb
        go_enter Try.func95, Try.ntmps95
        go_wp2_with fail
        refine (is_at true _ _ _ _ HB.out).mono ?_
        rintro e w' ⟨rfl, hb1⟩
        obtain ⟨hc, hf⟩ := bcell hb1
        go_wp2_with fail
        refine (dayOf_any y m d _ (by omega) (by omega) (by omega) (by omega) (by omega) (by omega)).mono ?_
        rintro e w2 ⟨rfl, hb2⟩
        clear hc hf hd hd2 hm h1 h2 HB
        have hfd := field_day
        go_wp2_with fail
        go_ret2
        exact ⟨rfl, (((Below.refl _ _).alloc (Nat.le_refl _) _).trans (hb1.mono (by simp))).trans (hb2.mono (by have := hb1.size; simp at this; omega))⟩

end Go.Proofs.Ytdmplojfidkipaa

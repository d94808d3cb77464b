/- Walks of package civil: the date of a day. -/
import Derived.Test.YtdmplojfidkipaaCivC
namespace Go.Proofs.Ytdmplojfidkipaa
open Go.RowKit

theorem month_at (y r k : Int) (hk1 : 1 ≤ k) (hk2 : k ≤ 12) (h1 : 0 ≤ r - Cal.cum y k) (h2 : ¬ Cal.dim y k ≤ r - Cal.cum y k) : Cal.mAt y r = k := by
  have hs := Cal.cum_succ y k hk1 hk2
  exact Cal.mAt_of _ _ k hk1 hk2 (by omega) (by omega)
theorem month_step (y r k : Int) (hhi : r < Cal.cum y 13) (hk1 : 1 ≤ k) (hk2 : k ≤ 12) (h : Cal.dim y k ≤ r - Cal.cum y k) : k + 1 ≤ 12 ∧ 0 ≤ r - Cal.cum y (k + 1) := by
  have hs := Cal.cum_succ y k hk1 hk2
  refine ⟨?_, by omega⟩
  by_cases e : k = 12
  · subst e
    have : Cal.cum y (12 + 1) = Cal.cum y 13 := rfl
    omega
  · omega
theorem month_next (y r k : Int) (hk1 : 1 ≤ k) (hk2 : k ≤ 12) : r - Cal.cum y k - Cal.dim y k = r - Cal.cum y (k + 1) := by
  rw [Cal.cum_succ _ _ hk1 hk2]; omega

set_option maxHeartbeats 1000000 in
theorem date_walk (n y : Int) (w : World) (h1 : 0 ≤ n) (h2 : n < 36525) (hy : 2000 + n * 4 / 1461 = y) (hy1 : 2000 ≤ y) (hy2 : y ≤ 2099) (hlo : Cal.yst y ≤ n) (hhi : n - Cal.yst y < Cal.cum y 13) :
    Calls Try.prog 46 #[.agg #[.int .i64 n]] w fun e w' => e = .returned (.agg #[.int .i64 y, .int .i64 (Cal.mAt y (n - Cal.yst y)), .int .i64 (n - Cal.yst y - Cal.cum y (Cal.mAt y (n - Cal.yst y)) + 1)]) ∧ Below w.heap.size w w' := by
  have hyb := Cal.yst_bd y hy1 hy2
  have HY := hide hy
  clear hy
  go_enter Try.func46, Try.ntmps46
  go_wp2_with fail
  rw [HY.out]
  go_quiet ((go_at_call 60; exact quiet_left (yearStart_any _ _ hy1 hy2)))
  go_wp2_with fail
  go_loop [4, 5] (fun r i => ∃ k : Int, 1 ≤ k ∧ k ≤ 12 ∧ i = .int .i64 k ∧ 0 ≤ n - Cal.yst y - Cal.cum y k ∧ r = .int .i64 (n - Cal.yst y - Cal.cum y k)) (fun _ i => (12 - intOf i).toNat)
  case atStart => exact ⟨1, by omega, by omega, rfl, by rw [Cal.cum_one]; omega, by rw [Cal.cum_one, Int.sub_zero]⟩
  case round =>
    obtain ⟨k, hk1, hk2, rfl, hr, rfl⟩ := hrel
    have hc := Cal.cum_bd y k hk1 (by omega)
    have hl := Cal.dim_bd y k
    by_cases hd : Cal.dim y k ≤ n - Cal.yst y - Cal.cum y k
    · have hst := month_step y _ k hhi hk1 hk2 hd
      have HN := hide (month_next y (n - Cal.yst y) k hk1 hk2)
      go_wp2_with (go_at_call 61; refine (length_any _ _ _).mono ?_; rintro e w' ⟨rfl, rfl⟩)
      go_round
      case rel => exact ⟨k + 1, by omega, by omega, rfl, hst.2, by rw [HN.out]⟩
      case measure => simp [intOf]; omega
    · have HM := hide (month_at y (n - Cal.yst y) k hk1 hk2 hr hd)
      go_wp2_with (go_at_call 61; refine (length_any _ _ _).mono ?_; rintro e w' ⟨rfl, rfl⟩)
      rw [HM.out]
      refine bodyPost_ret (v := .agg #[.int .i64 y, .int .i64 k, .int .i64 (n - Cal.yst y - Cal.cum y k + 1)]) (by simp [results, Try.results46, go_sem]) rfl ⟨rfl, ?_⟩
      repeat (first | exact Below.refl _ _ | refine below_drewN ?_ _ | refine Below.setCell ?_ (by simp) _ | refine Below.alloc ?_ (by simp) _)

theorem date_any (n : Int) (w : World) (h1 : 0 ≤ n) (h2 : n < 36525) :
    Calls Try.prog 46 #[.agg #[.int .i64 n]] w fun e w' => e = .returned (.agg #[.int .i64 (Cal.yOf n), .int .i64 (Cal.mOf n), .int .i64 (Cal.dOf n)]) ∧ Below w.heap.size w w' := by
  have hb := Cal.yOf_bd n h1 h2
  have hy := Cal.yOf_yst n h1 h2
  have hs := Cal.yst_succ (Cal.yOf n) hb.1 hb.2
  exact date_walk n (Cal.yOf n) w h1 h2 rfl hb.1 hb.2 hy.1 (by omega)

/-- a number that fits an int64, kept behind a name. -/
def I64 (n : Int) : Prop := -9223372036854775808 ≤ n ∧ n ≤ 9223372036854775807
theorem wrap_i64 (n : Int) (h : I64 n) : IntKind.i64.wrap n = n := by
  unfold I64 at h
  exact IntWalk.i64_in n (by omega)

theorem quo_any (n s : Int) (hn : I64 n) (h1 : 0 < s) : I64 (n.tdiv s) := by
  unfold I64 at *
  rcases Int.lt_or_le n 0 with g | g
  · have e : n.tdiv s = -((-n).tdiv s) := by rw [Int.neg_tdiv]; omega
    rw [e, Int.tdiv_eq_ediv_of_nonneg (by omega)]
    have a := Int.ediv_nonneg (a := -n) (b := s) (by omega) (by omega)
    have b := Int.ediv_le_self (a := -n) s (by omega)
    omega
  · rw [Int.tdiv_eq_ediv_of_nonneg g]
    have a := Int.ediv_nonneg (a := n) (b := s) (by omega) (by omega)
    have b := Int.ediv_le_self (a := n) s (by omega)
    omega
theorem split_pos (n s : Int) (h1 : 0 < s) (h : ¬ n.tmod s < 0) : n.tmod s = n % s ∧ n.tdiv s = n / s := by
  have hm : n.tmod s = n % s := by
    rcases Int.lt_or_le n 0 with g | g
    · have h0 : n.tmod s ≤ 0 := by
        have e : n.tmod s = -((-n).tmod s) := by rw [Int.neg_tmod]; omega
        rw [e, Int.tmod_eq_emod_of_nonneg (by omega)]
        have := Int.emod_nonneg (-n) (b := s) (by omega)
        omega
      have h0' : n.tmod s = 0 := by omega
      have hd : s ∣ n := Int.dvd_of_tmod_eq_zero h0'
      rw [h0', Int.emod_eq_zero_of_dvd hd]
    · exact Int.tmod_eq_emod_of_nonneg g
  refine ⟨hm, ?_⟩
  have a := Int.mul_tdiv_add_tmod n s
  have b := Int.mul_ediv_add_emod n s
  rw [hm] at a
  have c : s * n.tdiv s = s * (n / s) := by omega
  exact Int.eq_of_mul_eq_mul_left (by omega) c
theorem split_neg (n s : Int) (h1 : 0 < s) (h : n.tmod s < 0) : n.tmod s + s = n % s ∧ n.tdiv s - 1 = n / s := by
  have hl : -s < n.tmod s := by
    have := Int.lt_tmod_of_pos n h1
    omega
  have a := Int.mul_tdiv_add_tmod n s
  have e : n = s * (n.tdiv s - 1) + (n.tmod s + s) := by rw [Int.mul_sub]; omega
  have hr : 0 ≤ n.tmod s + s := by omega
  have hr2 : n.tmod s + s < s := by omega
  have u := (Int.ediv_emod_unique (a := n) (b := s) (r := n.tmod s + s) (q := n.tdiv s - 1) h1).2 ⟨by rw [Int.add_comm]; exact e.symm, hr, hr2⟩
  exact ⟨u.2.symm, u.1.symm⟩

end Go.Proofs.Ytdmplojfidkipaa

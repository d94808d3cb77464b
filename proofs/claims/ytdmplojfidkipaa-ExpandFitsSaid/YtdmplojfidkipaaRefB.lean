/- Walks of the document's own answers, layer 1: the number of a date, the minute of a time. -/
import Derived.Test.YtdmplojfidkipaaRefA
import Derived.Test.YtdmplojfidkipaaCivG
namespace Go.Proofs.Ytdmplojfidkipaa
open Go.RowKit

theorem ris_at (b : Bool) (y m d : Int) (w : World) (h : Cal.isB y m d = b) :
    Calls Try.prog 39 #[.agg #[.int .i64 y, .int .i64 m, .int .i64 d]] w fun e w' => e = .returned (.bool b) ∧ Below w.heap.size w w' := by
  subst h; exact ris_any y m d w

theorem yst_2000 : Cal.yst 2000 = 0 := by decide +kernel
theorem yst_leap (k : Int) (h1 : 2000 ≤ k) (h2 : k ≤ 2099) (h : Cal.lpB k = true) : Cal.yst k + 365 + 1 = Cal.yst (k + 1) := by
  rw [Cal.lp_in k h1 h2, decide_eq_true_eq] at h
  unfold Cal.yst; omega
theorem yst_plain (k : Int) (h1 : 2000 ≤ k) (h2 : k ≤ 2099) (h : Cal.lpB k = false) : Cal.yst k + 365 = Cal.yst (k + 1) := by
  rw [Cal.lp_in k h1 h2, decide_eq_false_iff_not] at h
  unfold Cal.yst; omega
theorem rnum_one (y : Int) : Cal.yst y = Cal.yst y + Cal.cum y 1 := by rw [Cal.cum_one]; omega
theorem rnum_step (y k : Int) (h1 : 1 ≤ k) (h2 : k ≤ 12) : Cal.yst y + Cal.cum y k + Cal.dim y k = Cal.yst y + Cal.cum y (k + 1) := by
  rw [Cal.cum_succ y k h1 h2]; omega
theorem rnum_end (y m d : Int) : Cal.yst y + Cal.cum y m + d - 1 = Cal.num y m d := by unfold Cal.num; omega

set_option maxHeartbeats 1000000 in
theorem rnum_err (y m d c : Int) (w : World) (h : numE y m d = (0, c)) (hc : c = 10 ∨ c = 11) :
    Calls Try.prog 30 #[.agg #[.int .i64 y, .int .i64 m, .int .i64 d]] w fun e w' => e = .returned (.tuple #[.int .i64 0, .int .i64 c]) ∧ Below w.heap.size w w' := by
  cases hb : Cal.isB y m d
  · have e := numE_11 y m d hb
    rw [h] at e
    obtain rfl : c = 11 := by simpa using e
    have HB := hide hb
    clear hb h hc e
    go_enter Try.func30, Try.ntmps30
    go_wp2_with fail
    refine (ris_at false _ _ _ _ HB.out).mono ?_
    rintro e w1 ⟨rfl, hb1⟩
    go_wp2_with fail
    go_ret2
    exact ⟨rfl, ((Below.refl _ _).alloc (Nat.le_refl _) _).trans (hb1.mono (by simp))⟩
  · by_cases h1 : y < 2000
    · have e := numE_10 y m d hb (.inl h1)
      rw [h] at e
      obtain rfl : c = 10 := by simpa using e
      have HB := hide hb
      clear hb h hc e
      go_enter Try.func30, Try.ntmps30
      go_wp2_with fail
      refine (ris_at true _ _ _ _ HB.out).mono ?_
      rintro e w1 ⟨rfl, hb1⟩
      obtain ⟨hc, hf⟩ := bcell hb1
      go_wp2_with fail
      go_ret2
      exact ⟨rfl, ((Below.refl _ _).alloc (Nat.le_refl _) _).trans (hb1.mono (by simp))⟩
    · by_cases h2 : 2099 < y
      · have e := numE_10 y m d hb (.inr h2)
        rw [h] at e
        obtain rfl : c = 10 := by simpa using e
        have HB := hide hb
        clear hb h hc e
        go_enter Try.func30, Try.ntmps30
        go_wp2_with fail
        refine (ris_at true _ _ _ _ HB.out).mono ?_
        rintro e w1 ⟨rfl, hb1⟩
        obtain ⟨hc, hf⟩ := bcell hb1
        go_wp2_with fail
        go_ret2
        exact ⟨rfl, ((Below.refl _ _).alloc (Nat.le_refl _) _).trans (hb1.mono (by simp))⟩
      · have e := numE_0 y m d hb (by omega) (by omega)
        rw [h] at e
        have : c = 0 := by simpa using congrArg Prod.snd e
        omega

set_option maxRecDepth 100000 in
set_option maxHeartbeats 1000000 in
theorem rnum_ok (y m d : Int) (w : World) (hb : Cal.isB y m d = true) (h1 : 2000 ≤ y) (h2 : y ≤ 2099) (m1 : 1 ≤ m) (m2 : m ≤ 12) (d1 : 1 ≤ d) (d2 : d ≤ 31) :
    Calls Try.prog 30 #[.agg #[.int .i64 y, .int .i64 m, .int .i64 d]] w fun e w' => e = .returned (.tuple #[.int .i64 (Cal.num y m d), .int .i64 0]) ∧ Below w.heap.size w w' := by
  have HB := hide hb
  clear hb
  go_enter Try.func30, Try.ntmps30
  go_wp2_with fail
  refine (ris_at true _ _ _ _ HB.out).mono ?_
  rintro e w1 ⟨rfl, hb1⟩
  have c0 : w1.cell? ⟨w.heap.size, 0, none⟩ = some (.int .i64 y) := by rw [(bcell hb1).1 _ _ (by simp)]; simp
  have c1 : w1.cell? ⟨w.heap.size, 1, none⟩ = some (.int .i64 m) := by rw [(bcell hb1).1 _ _ (by simp)]; simp
  have c2 : w1.cell? ⟨w.heap.size, 2, none⟩ = some (.int .i64 d) := by rw [(bcell hb1).1 _ _ (by simp)]; simp
  go_wp2_with fail
  go_loop [4, 5] (fun n i => ∃ k : Int, 2000 ≤ k ∧ k ≤ y ∧ i = .int .i64 k ∧ n = .int .i64 (Cal.yst k)) (fun _ i => (2099 - intOf i).toNat)
  case atStart => exact ⟨2000, by omega, h1, rfl, by rw [yst_2000]⟩
  case round =>
    obtain ⟨k, hk1, hk2, rfl, rfl⟩ := hrel
    have hy := Cal.yst_bd k hk1 (by omega)
    by_cases hlt : k < y
    · cases hl : Cal.lpB k
      · have HS := hide (yst_plain k hk1 (by omega) hl)
        have HL := hide hl
        clear hl
        go_wp2_with (go_at_call 37; refine (rleap_at k false _ HL.out).mono ?_; rintro e w' ⟨rfl, rfl⟩)
        go_round
        case rel => exact ⟨k + 1, by omega, by omega, rfl, by rw [HS.out]⟩
        case measure => simp [intOf]; omega
      · have HS := hide (yst_leap k hk1 (by omega) hl)
        have HL := hide hl
        clear hl
        go_wp2_with (go_at_call 37; refine (rleap_at k true _ HL.out).mono ?_; rintro e w' ⟨rfl, rfl⟩)
        go_round
        case rel => exact ⟨k + 1, by omega, by omega, rfl, by rw [HS.out]⟩
        case measure => simp [intOf]; omega
    · obtain rfl : k = y := by omega
      go_wp2_with fail
      go_loop [4, 6] (fun n i => ∃ j : Int, 1 ≤ j ∧ j ≤ m ∧ i = .int .i64 j ∧ n = .int .i64 (Cal.yst k + Cal.cum k j)) (fun _ i => (12 - intOf i).toNat)
      case atStart => exact ⟨1, by omega, m1, rfl, by rw [← rnum_one]⟩
      case round =>
        obtain ⟨j, hj1, hj2, rfl, rfl⟩ := hrel
        have hc := Cal.cum_bd k j hj1 (by omega)
        have hl := Cal.dim_bd k j
        by_cases hlt2 : j < m
        · have HS := hide (rnum_step k j hj1 (by omega))
          go_wp2_with (go_at_call 27; refine (rlength_any _ _ _).mono ?_; rintro e w' ⟨rfl, rfl⟩)
          go_round
          case rel => exact ⟨j + 1, by omega, by omega, rfl, by rw [HS.out]⟩
          case measure => simp [intOf]; omega
        · obtain rfl : j = m := by omega
          have HE := hide (rnum_end k j d)
          go_wp2_with fail
          go_ret2
          exact ⟨by rw [← HE.out]; rfl, ((Below.refl _ _).alloc (Nat.le_refl _) _).trans (hb1.mono (by simp))⟩

theorem rnumber_any (y m d : Int) (w : World) :
    Calls Try.prog 30 #[.agg #[.int .i64 y, .int .i64 m, .int .i64 d]] w fun e w' => e = .returned (.tuple #[.int .i64 (numE y m d).1, .int .i64 (numE y m d).2]) ∧ Below w.heap.size w w' := by
  cases hb : Cal.isB y m d
  · have e := numE_11 y m d hb
    rw [e]; exact rnum_err y m d 11 w e (.inr rfl)
  · by_cases h1 : y < 2000 ∨ 2099 < y
    · have e := numE_10 y m d hb h1
      rw [e]; exact rnum_err y m d 10 w e (.inl rfl)
    · have e := numE_0 y m d hb (by omega) (by omega)
      have hm := Cal.isB_month hb
      have hd := (Cal.isB_iff y m d).1 hb
      have hd2 := (Cal.dim_bd y m).2
      rw [e]; exact rnum_ok y m d w hb (by omega) (by omega) hm.1 hm.2 hd.1 (by omega)
theorem rnumber_is (y m d a c : Int) (w : World) (h : numE y m d = (a, c)) :
    Calls Try.prog 30 #[.agg #[.int .i64 y, .int .i64 m, .int .i64 d]] w fun e w' => e = .returned (.tuple #[.int .i64 a, .int .i64 c]) ∧ Below w.heap.size w w' := by
  have := rnumber_any y m d w
  rw [h] at this
  exact this

end Go.Proofs.Ytdmplojfidkipaa

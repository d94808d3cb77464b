/- CivA; CivB; CivD; CivE; CivF; CivH of the recipes, what is needed of them. -/
import Derived.Test.YtlmdceeeahnkcaaGreatDoorProg
import Derived.WalkKit
import Derived.WalkSpells
import Derived.WalkLawsBesides
import Derived.Deep.QuietTactic
import Derived.BigQuiet
import Derived.Test.YtlmdceeeahnkcaaGreatDoorBM1
namespace Go.Proofs.YtlmdceeeahnkcaaGreatDoor
open Go.RowKit

theorem hide {p : Prop} (h : p) : Hid p := h
theorem ret_bool {a b : Bool} (h : a = b) : Ending.returned (.bool a) = .returned (.bool b) := by rw [h]
theorem ret_int {k : IntKind} {a b : Int} (h : a = b) : Ending.returned (.int k a) = .returned (.int k b) := by rw [h]

set_option maxHeartbeats 400000 in
theorem leap_any (y : Int) (w : World) :
    Calls Tryz.prog 193 #[.int .i64 y] w fun e w' => e = .returned (.bool (Cal.lpB y)) ∧ w = w' := by
  by_cases h4 : (y.tmod 4 == 0) = true
  all_goals
    go_enter Tryz.func193, Tryz.ntmps193
    go_wp2
    all_goals
      go_ret
      exact ⟨ret_bool (by simp_all [Cal.lpB]), rfl⟩

theorem dim_31 (y m : Int) (h : m = 1 ∨ m = 3 ∨ m = 5 ∨ m = 7 ∨ m = 8 ∨ m = 10 ∨ m = 12) : 31 = Cal.dim y m := by
  unfold Cal.dim; rw [if_pos h]
theorem dim_30 (y m : Int) (h : m = 4 ∨ m = 6 ∨ m = 9 ∨ m = 11) : 30 = Cal.dim y m := by
  unfold Cal.dim; rw [if_neg (by omega), if_pos h]
theorem dim_29 (y : Int) (h : Cal.lpB y = true) : 29 = Cal.dim y 2 := by simp [Cal.dim, h]
theorem dim_28 (y : Int) (h : Cal.lpB y = false) : 28 = Cal.dim y 2 := by simp [Cal.dim, h]
theorem dim_0 (y m : Int) (h : m < 1 ∨ 12 < m) : 0 = Cal.dim y m := (Cal.dim_out y m h).symm

set_option maxHeartbeats 1000000 in
theorem length_any (y m : Int) (w : World) :
    Calls Tryz.prog 178 #[.int .i64 y, .int .i64 m] w fun e w' => e = .returned (.int .i64 (Cal.dim y m)) ∧ w = w' := by
  by_cases hm : m = 2
  · subst hm
    cases hb : Cal.lpB y
    all_goals
      go_enter Tryz.func178, Tryz.ntmps178
      go_wp2_with (go_at_call 193; refine (leap_any _ _).mono ?_; rintro e w' ⟨rfl, rfl⟩)
      go_ret
      exact ⟨ret_int (by first | exact dim_28 y hb | exact dim_29 y hb), rfl⟩
  · go_enter Tryz.func178, Tryz.ntmps178
    go_wp2_with fail
    all_goals
      go_ret
      exact ⟨ret_int (by simp only [beq_iff_eq, beq_eq_false_iff_ne, ne_eq] at *; first | exact dim_31 y m (by omega) | exact dim_30 y m (by omega) | exact dim_0 y m (by omega)), rfl⟩

end Go.Proofs.YtlmdceeeahnkcaaGreatDoor
namespace Go.Proofs.YtlmdceeeahnkcaaGreatDoor
open Go.RowKit

theorem below_drewN {B : Nat} {a w : World} (h : Below B a w) (n : Nat) : Below B a (w.drewN n) := ⟨h.os, h.tape, h.output, h.size, h.block⟩
theorem quiet_left {P : Program} {f : FuncId} {args : Array Value} {w : World} {n : Nat} {v : Value}
    (h : Calls P f args (w.drewN n) fun e w' => e = .returned v ∧ w.drewN n = w') : Calls P f args (w.drewN n) fun e w'' => e = .returned v ∧ ∃ m, w'' = w.drewN m :=
  h.mono fun _ _ ⟨he, hm⟩ => ⟨he, n, hm.symm⟩
theorem bcell {W w1 : World} (hb : Below W.heap.size W w1) : (∀ b o, b < W.heap.size → w1.cell? ⟨b, o, none⟩ = W.cell? ⟨b, o, none⟩) ∧ (∀ b o, b < W.heap.size → w1.frozen? ⟨b, o, none⟩ = W.frozen? ⟨b, o, none⟩) :=
  ⟨fun b o h => hb.cell (p := ⟨b, o, none⟩) h, fun b o h => hb.frozen (p := ⟨b, o, none⟩) h⟩

theorem yst_wrap (y : Int) (_h1 : 2000 ≤ y) (_h2 : y ≤ 2099) : (y - 2000) * 365 + (y - 2000 + 3) / 4 = Cal.yst y := by unfold Cal.yst; rfl
set_option maxHeartbeats 400000 in
theorem yearStart_any (y : Int) (w : World) (h1 : 2000 ≤ y) (h2 : y ≤ 2099) :
    Calls Tryz.prog 177 #[.int .i64 y] w fun e w' => e = .returned (.int .i64 (Cal.yst y)) ∧ w = w' := by
  go_enter Tryz.func177, Tryz.ntmps177
  go_wp2
  go_ret
  exact ⟨ret_int (yst_wrap y h1 h2), rfl⟩

end Go.Proofs.YtlmdceeeahnkcaaGreatDoor
namespace Go.Proofs.YtlmdceeeahnkcaaGreatDoor
open Go.RowKit

theorem month_at (y r k : Int) (hk1 : 1 ≤ k) (hk2 : k ≤ 12) (h1 : 0 ≤ r - Cal.cum y k) (h2 : ¬ Cal.dim y k ≤ r - Cal.cum y k) : Cal.mAt y r = k := by
  have hs := Cal.cum_succ y k hk1 hk2
  exact Cal.mAt_of _ _ k hk1 hk2 (by omega) (by omega)
theorem month_step (y r k : Int) (hhi : r < Cal.cum y 13) (hk1 : 1 ≤ k) (hk2 : k ≤ 12) (h : Cal.dim y k ≤ r - Cal.cum y k) : k + 1 ≤ 12 ∧ 0 ≤ r - Cal.cum y (k + 1) := by
  have hs := Cal.cum_succ y k hk1 hk2
  refine ⟨?_, by omega⟩
  by_cases e : k = 12
  · subst e
    have : Cal.cum y (12 + 1) = Cal.cum y 13 := rfl
    omega
  · omega
theorem month_next (y r k : Int) (hk1 : 1 ≤ k) (hk2 : k ≤ 12) : r - Cal.cum y k - Cal.dim y k = r - Cal.cum y (k + 1) := by
  rw [Cal.cum_succ _ _ hk1 hk2]; omega

set_option maxHeartbeats 1000000 in
theorem date_walk (n y : Int) (w : World) (h1 : 0 ≤ n) (h2 : n < 36525) (hy : 2000 + n * 4 / 1461 = y) (hy1 : 2000 ≤ y) (hy2 : y ≤ 2099) (hlo : Cal.yst y ≤ n) (hhi : n - Cal.yst y < Cal.cum y 13) :
    Calls Tryz.prog 162 #[.agg #[.int .i64 n]] w fun e w' => e = .returned (.agg #[.int .i64 y, .int .i64 (Cal.mAt y (n - Cal.yst y)), .int .i64 (n - Cal.yst y - Cal.cum y (Cal.mAt y (n - Cal.yst y)) + 1)]) ∧ Below w.heap.size w w' := by
  have hyb := Cal.yst_bd y hy1 hy2
  have HY := hide hy
  clear hy
  go_enter Tryz.func162, Tryz.ntmps162
  go_wp2_with fail
  rw [HY.out]
  go_quiet ((go_at_call 177; exact quiet_left (yearStart_any _ _ hy1 hy2)))
  go_wp2_with fail
  go_loop [4, 5] (fun r i => ∃ k : Int, 1 ≤ k ∧ k ≤ 12 ∧ i = .int .i64 k ∧ 0 ≤ n - Cal.yst y - Cal.cum y k ∧ r = .int .i64 (n - Cal.yst y - Cal.cum y k)) (fun _ i => (12 - intOf i).toNat)
  case atStart => exact ⟨1, by omega, by omega, rfl, by rw [Cal.cum_one]; omega, by rw [Cal.cum_one, Int.sub_zero]⟩
  case round =>
    obtain ⟨k, hk1, hk2, rfl, hr, rfl⟩ := hrel
    have hc := Cal.cum_bd y k hk1 (by omega)
    have hl := Cal.dim_bd y k
    by_cases hd : Cal.dim y k ≤ n - Cal.yst y - Cal.cum y k
    · have hst := month_step y _ k hhi hk1 hk2 hd
      have HN := hide (month_next y (n - Cal.yst y) k hk1 hk2)
      go_wp2_with (go_at_call 178; refine (length_any _ _ _).mono ?_; rintro e w' ⟨rfl, rfl⟩)
      go_round
      case rel => exact ⟨k + 1, by omega, by omega, rfl, hst.2, by rw [HN.out]⟩
      case measure => simp [intOf]; omega
    · have HM := hide (month_at y (n - Cal.yst y) k hk1 hk2 hr hd)
      go_wp2_with (go_at_call 178; refine (length_any _ _ _).mono ?_; rintro e w' ⟨rfl, rfl⟩)
      rw [HM.out]
      refine bodyPost_ret (v := .agg #[.int .i64 y, .int .i64 k, .int .i64 (n - Cal.yst y - Cal.cum y k + 1)]) (by simp [results, Tryz.results162, go_sem]) rfl ⟨rfl, ?_⟩
      repeat (first | exact Below.refl _ _ | refine below_drewN ?_ _ | refine Below.setCell ?_ (by simp) _ | refine Below.alloc ?_ (by simp) _)

theorem date_any (n : Int) (w : World) (h1 : 0 ≤ n) (h2 : n < 36525) :
    Calls Tryz.prog 162 #[.agg #[.int .i64 n]] w fun e w' => e = .returned (.agg #[.int .i64 (Cal.yOf n), .int .i64 (Cal.mOf n), .int .i64 (Cal.dOf n)]) ∧ Below w.heap.size w w' := by
  have hb := Cal.yOf_bd n h1 h2
  have hy := Cal.yOf_yst n h1 h2
  have hs := Cal.yst_succ (Cal.yOf n) hb.1 hb.2
  exact date_walk n (Cal.yOf n) w h1 h2 rfl hb.1 hb.2 hy.1 (by omega)

/-- a number that fits an int64, kept behind a name. -/
def I64 (n : Int) : Prop := -9223372036854775808 ≤ n ∧ n ≤ 9223372036854775807
theorem quo_any (n s : Int) (hn : I64 n) (h1 : 0 < s) : I64 (n.tdiv s) := by
  unfold I64 at *
  rcases Int.lt_or_le n 0 with g | g
  · have e : n.tdiv s = -((-n).tdiv s) := by rw [Int.neg_tdiv]; omega
    rw [e, Int.tdiv_eq_ediv_of_nonneg (by omega)]
    have a := Int.ediv_nonneg (a := -n) (b := s) (by omega) (by omega)
    have b := Int.ediv_le_self (a := -n) s (by omega)
    omega
  · rw [Int.tdiv_eq_ediv_of_nonneg g]
    have a := Int.ediv_nonneg (a := n) (b := s) (by omega) (by omega)
    have b := Int.ediv_le_self (a := n) s (by omega)
    omega
theorem split_pos (n s : Int) (h1 : 0 < s) (h : ¬ n.tmod s < 0) : n.tmod s = n % s ∧ n.tdiv s = n / s := by
  have hm : n.tmod s = n % s := by
    rcases Int.lt_or_le n 0 with g | g
    · have h0 : n.tmod s ≤ 0 := by
        have e : n.tmod s = -((-n).tmod s) := by rw [Int.neg_tmod]; omega
        rw [e, Int.tmod_eq_emod_of_nonneg (by omega)]
        have := Int.emod_nonneg (-n) (b := s) (by omega)
        omega
      have h0' : n.tmod s = 0 := by omega
      have hd : s ∣ n := Int.dvd_of_tmod_eq_zero h0'
      rw [h0', Int.emod_eq_zero_of_dvd hd]
    · exact Int.tmod_eq_emod_of_nonneg g
  refine ⟨hm, ?_⟩
  have a := Int.mul_tdiv_add_tmod n s
  have b := Int.mul_ediv_add_emod n s
  rw [hm] at a
  have c : s * n.tdiv s = s * (n / s) := by omega
  exact Int.eq_of_mul_eq_mul_left (by omega) c
theorem split_neg (n s : Int) (h1 : 0 < s) (h : n.tmod s < 0) : n.tmod s + s = n % s ∧ n.tdiv s - 1 = n / s := by
  have hl : -s < n.tmod s := by
    have := Int.lt_tmod_of_pos n h1
    omega
  have a := Int.mul_tdiv_add_tmod n s
  have e : n = s * (n.tdiv s - 1) + (n.tmod s + s) := by rw [Int.mul_sub]; omega
  have hr : 0 ≤ n.tmod s + s := by omega
  have hr2 : n.tmod s + s < s := by omega
  have u := (Int.ediv_emod_unique (a := n) (b := s) (r := n.tmod s + s) (q := n.tdiv s - 1) h1).2 ⟨by rw [Int.add_comm]; exact e.symm, hr, hr2⟩
  exact ⟨u.2.symm, u.1.symm⟩

end Go.Proofs.YtlmdceeeahnkcaaGreatDoor
namespace Go.Proofs.YtlmdceeeahnkcaaGreatDoor
open Go.RowKit

theorem wrap64_id (n : Int) (h : I64 n) : wrap64 n = n := by
  unfold I64 at h
  unfold wrap64
  omega
theorem tdiv_pred (n s : Int) (hn : I64 n) (h1 : 0 < s) (h2 : s < 1000000) (hq : I64 (n / s)) (h : n.tmod s < 0) : wrap64 (wrap64 (n.tdiv s) - 1) = n / s ∧ wrap64 (n.tmod s + s) = n % s := by
  have a := split_neg n s h1 h
  have b0 := Int.emod_nonneg n (b := s) (by omega)
  have b1 := Int.emod_lt_of_pos n h1
  rw [wrap64_id _ (quo_any n s hn h1), a.2, a.1]
  exact ⟨wrap64_id _ hq, wrap64_id _ (by unfold I64; omega)⟩
theorem tdiv_same (n s : Int) (hn : I64 n) (h1 : 0 < s) (h : 0 ≤ n.tmod s) : wrap64 (n.tdiv s) = n / s ∧ n.tmod s = n % s := by
  have a := split_pos n s h1 (by omega)
  have q := quo_any n s hn h1
  rw [wrap64_id _ q]
  exact ⟨a.2, a.1⟩

theorem ret_two {k : IntKind} {a b c d : Int} (h : a = b ∧ c = d) : Ending.returned (.tuple #[.int k a, .int k c]) = .returned (.tuple #[.int k b, .int k d]) := by rw [h.1, h.2]

set_option maxHeartbeats 400000 in
theorem split_day (n : Int) (w : World) (hn : I64 n) :
    Calls Tryz.prog 176 #[.int .i64 n, .int .i64 1440] w fun e w' => e = .returned (.tuple #[.int .i64 (n / 1440), .int .i64 (n % 1440)]) ∧ ∃ q, w' = w.drewN q := by
  go_enter Tryz.func176, Tryz.ntmps176
  go_wp2_with fail
  go_quiet (fail)
  go_wp2_with fail
  · have h : n.tmod 1440 < 0 := by assumption
    go_ret2
    exact ⟨ret_two (tdiv_pred n 1440 hn (by omega) (by omega) (by unfold I64 at *; omega) h), _, rfl⟩
  · have h : 0 ≤ n.tmod 1440 := by assumption
    go_ret2
    exact ⟨ret_two (tdiv_same n 1440 hn (by omega) h), _, rfl⟩

end Go.Proofs.YtlmdceeeahnkcaaGreatDoor
namespace Go.Proofs.YtlmdceeeahnkcaaGreatDoor
open Go.RowKit

set_option maxHeartbeats 400000 in
theorem among_yes (n c : Int) (w : World) (h1 : 0 ≤ n) (h2 : n < c) :
    Calls Tryz.prog 175 #[.int .i64 n, .int .i64 c] w fun e w' => e = .returned (.bool true) ∧ w = w' := by
  go_enter Tryz.func175, Tryz.ntmps175
  go_wp2_with fail
  go_ret
  exact ⟨ret_bool (by simp), rfl⟩
set_option maxHeartbeats 400000 in
theorem among_no (n c : Int) (w : World) (h : n < 0 ∨ c ≤ n) :
    Calls Tryz.prog 175 #[.int .i64 n, .int .i64 c] w fun e w' => e = .returned (.bool false) ∧ w = w' := by
  rcases h with h | h
  · go_enter Tryz.func175, Tryz.ntmps175
    go_wp2_with fail
    go_ret
    exact ⟨ret_bool (by simp), rfl⟩
  · go_enter Tryz.func175, Tryz.ntmps175
    go_wp2_with fail
    all_goals
      go_ret
      exact ⟨ret_bool (by simp [h]), rfl⟩

set_option maxHeartbeats 400000 in
theorem minute_yes (n : Int) (w : World) (h1 : 0 ≤ n) (h2 : n < 52596000) :
    Calls Tryz.prog 160 #[.agg #[.int .i64 n]] w fun e w' => e = .returned (.bool true) ∧ Below w.heap.size w w' := by
  go_enter Tryz.func160, Tryz.ntmps160
  go_wp2_with (go_at_call 175; refine (among_yes _ _ _ (by omega) (by omega)).mono ?_; rintro e w' ⟨rfl, rfl⟩)
  go_ret
  exact ⟨rfl, (Below.refl _ _).alloc (Nat.le_refl _) _⟩
set_option maxHeartbeats 400000 in
theorem minute_no (n : Int) (w : World) (h : n < 0 ∨ 52596000 ≤ n) :
    Calls Tryz.prog 160 #[.agg #[.int .i64 n]] w fun e w' => e = .returned (.bool false) ∧ Below w.heap.size w w' := by
  have H := hide h
  clear h
  go_enter Tryz.func160, Tryz.ntmps160
  go_wp2_with (go_at_call 175; refine (among_no _ _ _ H.out).mono ?_; rintro e w' ⟨rfl, rfl⟩)
  go_ret
  exact ⟨rfl, (Below.refl _ _).alloc (Nat.le_refl _) _⟩

end Go.Proofs.YtlmdceeeahnkcaaGreatDoor
namespace Go.Proofs.YtlmdceeeahnkcaaGreatDoor
open Go.RowKit

set_option maxHeartbeats 400000 in
theorem clock_in (n : Int) (w : World) (h1 : 0 ≤ n) (h2 : n < 52596000) :
    Calls Tryz.prog 161 #[.agg #[.int .i64 n]] w fun e w' => e = .returned (.tuple #[.agg #[.int .i64 (n / 1440)], .int .i64 (n % 1440 / 60), .int .i64 (n % 60)]) ∧ Below w.heap.size w w' := by
  go_enter Tryz.func161, Tryz.ntmps161
  go_wp2_with fail
  refine (split_day n _ (by unfold I64; omega)).mono ?_
  rintro e w1 ⟨rfl, q, rfl⟩
  go_wp2_with fail
  refine bodyPost_ret (v := .tuple #[.agg #[.int .i64 (n / 1440)], .int .i64 (n % 1440 / 60), .int .i64 (n % 60)]) (by simp [results, Tryz.results161, go_sem]) rfl ⟨rfl, ?_⟩
  repeat (first | exact Below.refl _ _ | refine below_drewN ?_ _ | refine Below.setCell ?_ (by simp) _ | refine Below.alloc ?_ (by simp) _)

set_option maxHeartbeats 400000 in
theorem Clock_no (n : Int) (w : World) (h : n < 0 ∨ 52596000 ≤ n) :
    Calls Tryz.prog 140 #[.int .i64 n] w fun e w' => e = .returned (.tuple #[.agg #[.int .i64 0, .int .i64 0, .int .i64 0], .int .i64 0, .int .i64 0, .int .i64 10]) ∧ Below w.heap.size w w' := by
  have H := hide h
  clear h
  go_enter Tryz.func140, Tryz.ntmps140
  go_wp2_with fail
  refine (minute_no n _ H.out).mono ?_
  rintro e w1 ⟨rfl, hb1⟩
  obtain ⟨hc, hf⟩ := bcell hb1
  go_wp2_with fail
  have e0 : w1.cell? ⟨w.heap.size, 0, none⟩ = some (.int .i64 0) := by rw [hc _ _ (by simp; omega)]; simp
  have e1 : w1.cell? ⟨w.heap.size, 1, none⟩ = some (.int .i64 0) := by rw [hc _ _ (by simp; omega)]; simp
  have e2 : w1.cell? ⟨w.heap.size, 2, none⟩ = some (.int .i64 0) := by rw [hc _ _ (by simp; omega)]; simp
  refine bodyPost_ret (v := .tuple #[.agg #[.int .i64 0, .int .i64 0, .int .i64 0], .int .i64 0, .int .i64 0, .int .i64 10]) (by simp [results, Tryz.results140, go_sem, e0, e1, e2]) rfl ⟨rfl, ?_⟩
  repeat (first | exact Below.refl _ _ | refine Below.trans ?_ (hb1.mono (by simp; omega)) | refine below_drewN ?_ _ | refine Below.setCell ?_ (by simp) _ | refine Below.alloc ?_ (by simp) _)

set_option maxHeartbeats 1000000 in
theorem Clock_yes (n : Int) (w : World) (h1 : 0 ≤ n) (h2 : n < 52596000) :
    Calls Tryz.prog 140 #[.int .i64 n] w fun e w' => e = .returned (.tuple #[.agg #[.int .i64 (Cal.yOf (n / 1440)), .int .i64 (Cal.mOf (n / 1440)), .int .i64 (Cal.dOf (n / 1440))], .int .i64 (n % 1440 / 60), .int .i64 (n % 60), .int .i64 0]) ∧ Below w.heap.size w w' := by
  have hd1 : 0 ≤ n / 1440 := by omega
  have hd2 : n / 1440 < 36525 := by omega
  go_enter Tryz.func140, Tryz.ntmps140
  go_wp2_with fail
  refine (minute_yes n _ h1 h2).mono ?_
  rintro e w1 ⟨rfl, hb1⟩
  obtain ⟨hc, hf⟩ := bcell hb1
  have hz0 : w.heap.size < w1.heap.size := by have := hb1.size; simp at this; omega
  have hz1 : w.heap.size + 1 < w1.heap.size := by have := hb1.size; simp at this; omega
  go_wp2_with fail
  refine (clock_in n _ h1 h2).mono ?_
  rintro e w2 ⟨rfl, hb2⟩
  obtain ⟨hc2, hf2⟩ := bcell hb2
  have hz20 : w.heap.size < w2.heap.size := by have := hb2.size; omega
  go_wp2_with fail
  refine (date_any (n / 1440) _ hd1 hd2).mono ?_
  rintro e w3 ⟨rfl, hb3⟩
  obtain ⟨hc3, hf3⟩ := bcell hb3
  go_wp2_with fail
  have hz30 : w.heap.size < w3.heap.size := by have := hb3.size; simp at this; omega
  have e0 : w3.cell? ⟨w.heap.size, 0, none⟩ = some (.int .i64 0) := by rw [hc3 _ _ (by simp; omega), World.cell?_alloc_past _ _ _ hz20, hc2 _ _ hz0, hc _ _ (by simp; omega)]; simp
  have e1 : w3.cell? ⟨w.heap.size, 1, none⟩ = some (.int .i64 0) := by rw [hc3 _ _ (by simp; omega), World.cell?_alloc_past _ _ _ hz20, hc2 _ _ hz0, hc _ _ (by simp; omega)]; simp
  have e2 : w3.cell? ⟨w.heap.size, 2, none⟩ = some (.int .i64 0) := by rw [hc3 _ _ (by simp; omega), World.cell?_alloc_past _ _ _ hz20, hc2 _ _ hz0, hc _ _ (by simp; omega)]; simp
  refine bodyPost_ret (v := .tuple #[.agg #[.int .i64 (Cal.yOf (n / 1440)), .int .i64 (Cal.mOf (n / 1440)), .int .i64 (Cal.dOf (n / 1440))], .int .i64 (n % 1440 / 60), .int .i64 (n % 60), .int .i64 0]) (by simp [results, Tryz.results140, go_sem, e0, e1, e2]) rfl ⟨rfl, ?_⟩
  repeat (first | exact Below.refl _ _ | refine Below.trans ?_ (hb3.mono (by simp; omega)) | refine Below.trans ?_ (hb2.mono (by omega)) | refine Below.trans ?_ (hb1.mono (by simp; omega)) | refine below_drewN ?_ _ | refine Below.setCell ?_ (by simp) _ | refine Below.alloc ?_ (by first | (simp; done) | omega) _)

end Go.Proofs.YtlmdceeeahnkcaaGreatDoor

/- CivilSteps walked: the next day is the next of its month, or the first of the next one; weekdays go round. -/
import Derived.Test.YtbohogaopfkmlaaDoorCivMonths
namespace Go.Proofs.YtbohogaopfkmlaaDoor
open Go.RowKit

theorem next_day (n : Int) (h1 : 0 ≤ n) (h2 : n < 36524) :
    (Cal.dOf n < Cal.dim (Cal.yOf n) (Cal.mOf n) ∧ Cal.yOf (n + 1) = Cal.yOf n ∧ Cal.mOf (n + 1) = Cal.mOf n ∧ Cal.dOf (n + 1) = Cal.dOf n + 1) ∨
    (¬ Cal.dOf n < Cal.dim (Cal.yOf n) (Cal.mOf n) ∧ Cal.mOf n < 12 ∧ Cal.yOf (n + 1) = Cal.yOf n ∧ Cal.mOf (n + 1) = Cal.mOf n + 1 ∧ Cal.dOf (n + 1) = 1) ∨
    (¬ Cal.dOf n < Cal.dim (Cal.yOf n) (Cal.mOf n) ∧ ¬ Cal.mOf n < 12 ∧ Cal.yOf (n + 1) = Cal.yOf n + 1 ∧ Cal.mOf (n + 1) = 1 ∧ Cal.dOf (n + 1) = 1) := by
  have hy := Cal.yOf_bd n h1 (by omega)
  have hm := Cal.mOf_bd n
  have hi := Cal.of_is n h1 (by omega)
  have hn := Cal.of_num n
  generalize Cal.yOf n = y at *
  generalize Cal.mOf n = m at *
  generalize Cal.dOf n = d at *
  rw [Cal.isB_iff] at hi
  have hs := Cal.cum_succ y m hm.1 hm.2
  have hp := Cal.dim_pos y m hm.1 hm.2
  by_cases hd : d < Cal.dim y m
  · have u := Cal.of_unique (n + 1) y m (d + 1) hy.1 hy.2 (by rw [Cal.isB_iff]; omega) (by unfold Cal.num at *; omega)
    exact .inl ⟨hd, u.1, u.2.1, u.2.2⟩
  · by_cases h12 : m < 12
    · have hp2 := Cal.dim_pos y (m + 1) (by omega) (by omega)
      have u := Cal.of_unique (n + 1) y (m + 1) 1 hy.1 hy.2 (by rw [Cal.isB_iff]; omega) (by unfold Cal.num at *; omega)
      exact .inr (.inl ⟨hd, h12, u.1, u.2.1, u.2.2⟩)
    · obtain rfl : m = 12 := by omega
      have e3 : Cal.cum y (12 + 1) = Cal.cum y 13 := rfl
      have hys := Cal.yst_succ y hy.1 hy.2
      have hlast : y ≤ 2098 := by
        have : Cal.yst (y + 1) = n + 1 := by unfold Cal.num at hn; omega
        unfold Cal.yst at this
        omega
      have hp2 := Cal.dim_pos (y + 1) 1 (by omega) (by omega)
      have u := Cal.of_unique (n + 1) (y + 1) 1 1 (by omega) (by omega) (by rw [Cal.isB_iff]; omega) (by unfold Cal.num at *; rw [Cal.cum_one]; omega)
      exact .inr (.inr ⟨hd, h12, u.1, u.2.1, u.2.2⟩)

theorem keep {W W' : World} (hb : Below W.heap.size W W') {b o : Nat} {v : Value} (h : W.cell? ⟨b, o, none⟩ = some v) (hl : b < W.heap.size) : W'.cell? ⟨b, o, none⟩ = some v := by
  rw [(bcell hb).1 b o hl, h]
theorem keep_alloc {W : World} (x : Obj) {b o : Nat} {v : Value} (h : W.cell? ⟨b, o, none⟩ = some v) (hl : b < W.heap.size) : (W.alloc x).cell? ⟨b, o, none⟩ = some v := by
  rw [World.cell?_alloc_past _ _ _ hl, h]

theorem date_at (n y m d : Int) (w : World) (h1 : 0 ≤ n) (h2 : n < 36525) (h : Cal.yOf n = y ∧ Cal.mOf n = m ∧ Cal.dOf n = d) :
    Calls Tryd.prog 14 #[.int .i64 n] w fun e w' => e = .returned (.tuple #[.agg #[.int .i64 y, .int .i64 m, .int .i64 d], .int .i64 0]) ∧ Below w.heap.size w w' := by
  obtain ⟨rfl, rfl, rfl⟩ := h
  exact Date_yes n w h1 h2
theorem weekday_at (n v : Int) (w : World) (hn : I64 n) (h : Cal.wday n = v) :
    Calls Tryd.prog 25 #[.int .i64 n] w fun e w' => e = .returned (.int .i64 v) ∧ Below w.heap.size w w' := by
  subst h; exact weekday_any n w hn

set_option maxRecDepth 100000 in
set_option maxHeartbeats 2000000 in
theorem steps_core (a f n y m d y' m' d' D v : Int) (w : World) (ht : Tab w) (a1 : 0 ≤ a) (a2 : a ≤ 65535) (f1 : -32768 ≤ f) (f2 : f ≤ 32767) (hn : a % 36524 = n) (n1 : 0 ≤ n) (n2 : n < 36524)
    (hx : Cal.yOf n = y ∧ Cal.mOf n = m ∧ Cal.dOf n = d) (hx' : Cal.yOf (n + 1) = y' ∧ Cal.mOf (n + 1) = m' ∧ Cal.dOf (n + 1) = d') (hD : Cal.dim y m = D) (v1 : 0 ≤ v) (v2 : v ≤ 6)
    (hv : Cal.wday n = v) (hv' : Cal.wday (n + 1) = (v + 1) % 7) (hvf : Cal.wday (n + 7 * f) = v) (y1 : 2000 ≤ y) (y2 : y ≤ 2099) (m1 : 1 ≤ m) (m2 : m ≤ 12) (d1 : 1 ≤ d) (d2 : d ≤ 31)
    (hcase : (d < D ∧ y' = y ∧ m' = m ∧ d' = d + 1) ∨ (¬ d < D ∧ m < 12 ∧ y' = y ∧ m' = m + 1 ∧ d' = 1) ∨ (¬ d < D ∧ ¬ m < 12 ∧ y' = y + 1 ∧ m' = 1 ∧ d' = 1)) :
    Calls Tryd.prog 6 #[.int .u16 a, .int .i16 f] w fun e w' => e = .returned (.bool true) ∧ Below w.heap.size w w' := by
  have HT := hide ht
  have HN := hide hn
  have HX := hide hx
  have HX' := hide hx'
  have HD := hide hD
  have HV := hide hv
  have HV' := hide hv'
  have HVF := hide hvf
  have HC := hide hcase
  have hna : 0 ≤ a % 36524 ∧ a % 36524 ≤ 36523 := by omega
  clear ht hn hx hx' hD hv hv' hvf hcase
  go_enter Tryd.func6, Tryd.ntmps6
  go_wp2_with fail
  refine (known_any _ HT.out).mono ?_
  rintro e w1 ⟨rfl, hb1⟩
  go_wp2_with fail
  rw [HN.out]
  refine (date_at n y m d _ n1 (by omega) HX.out).mono ?_
  rintro e w2 ⟨rfl, hb2⟩
  go_wp2_with fail
  refine (date_at (n + 1) y' m' d' _ (by omega) (by omega) HX'.out).mono ?_
  rintro e w3 ⟨rfl, hb3⟩
  go_wp2_with fail
  refine (weekday_at (n + 1) _ _ (by unfold I64; omega) HV'.out).mono ?_
  rintro e w4 ⟨rfl, hb4⟩
  go_wp2_with fail
  refine (weekday_at n v _ (by unfold I64; omega) HV.out).mono ?_
  rintro e w5 ⟨rfl, hb5⟩
  go_wp2_with fail
  refine (weekday_at (n + 7 * f) v _ (by unfold I64; omega) HVF.out).mono ?_
  rintro e w6 ⟨rfl, hb6⟩
  go_wp2_with fail
  refine (weekday_at n v _ (by unfold I64; omega) HV.out).mono ?_
  rintro e w7 ⟨rfl, hb7⟩
  go_wp2_with fail
  have s2 := hb2.size
  have s3 : w2.heap.size < w3.heap.size := by have := hb3.size; simp at this; omega
  have s4 : w3.heap.size < w4.heap.size := by have := hb4.size; simp at this; omega
  have s5 := hb5.size
  have s6 := hb6.size
  have x0 : w7.cell? ⟨w2.heap.size, 0, none⟩ = some (.int .i64 y) := keep hb7 (keep hb6 (keep hb5 (keep hb4 (keep_alloc _ (keep hb3 (by simp) (by simp)) s3) (by simp; omega)) (by omega)) (by omega)) (by omega)
  have x1 : w7.cell? ⟨w2.heap.size, 1, none⟩ = some (.int .i64 m) := keep hb7 (keep hb6 (keep hb5 (keep hb4 (keep_alloc _ (keep hb3 (by simp) (by simp)) s3) (by simp; omega)) (by omega)) (by omega)) (by omega)
  have x2 : w7.cell? ⟨w2.heap.size, 2, none⟩ = some (.int .i64 d) := keep hb7 (keep hb6 (keep hb5 (keep hb4 (keep_alloc _ (keep hb3 (by simp) (by simp)) s3) (by simp; omega)) (by omega)) (by omega)) (by omega)
  have z0 : w7.cell? ⟨w3.heap.size, 0, none⟩ = some (.int .i64 y') := keep hb7 (keep hb6 (keep hb5 (keep hb4 (by simp) (by simp)) (by omega)) (by omega)) (by omega)
  have z1 : w7.cell? ⟨w3.heap.size, 1, none⟩ = some (.int .i64 m') := keep hb7 (keep hb6 (keep hb5 (keep hb4 (by simp) (by simp)) (by omega)) (by omega)) (by omega)
  have z2 : w7.cell? ⟨w3.heap.size, 2, none⟩ = some (.int .i64 d') := keep hb7 (keep hb6 (keep hb5 (keep hb4 (by simp) (by simp)) (by omega)) (by omega)) (by omega)
  have hbel : Below w.heap.size w w7 := by
    have b3 : Below w.heap.size w w3 := ((hb1.trans (hb2.mono hb1.size)).alloc (by have := hb1.size; omega) _).trans (hb3.mono (by have := hb1.size; simp; omega))
    have b4 : Below w.heap.size w w4 := (b3.alloc (by have := b3.size; omega) _).trans (hb4.mono (by have := b3.size; simp; omega))
    exact ((b4.trans (hb5.mono b4.size)).trans (hb6.mono (by have := b4.size; omega))).trans (hb7.mono (by have := b4.size; omega))
  rcases HC.out with ⟨c1, e1, e2, e3⟩ | ⟨c1, c2, e1, e2, e3⟩ | ⟨c1, c2, e1, e2, e3⟩
  · subst e1 e2 e3
    go_quiet ((go_at_call 23; exact quiet_left (length_at y' m' D _ HD.out)))
    go_wp2_with fail
    go_ret
    exact ⟨rfl, below_drewN hbel _⟩
  · subst e1 e2 e3
    go_quiet ((go_at_call 23; exact quiet_left (length_at y' m D _ HD.out)))
    go_wp2_with fail
    go_ret
    exact ⟨rfl, below_drewN hbel _⟩
  · subst e1 e2 e3
    go_quiet ((go_at_call 23; exact quiet_left (length_at y m D _ HD.out)))
    go_wp2_with fail
    go_ret
    exact ⟨rfl, below_drewN hbel _⟩

theorem wday_next (n : Int) : Cal.wday (n + 1) = (Cal.wday n + 1) % 7 := by unfold Cal.wday; omega
theorem wday_weeks (n f : Int) : Cal.wday (n + 7 * f) = Cal.wday n := by unfold Cal.wday; omega

theorem steps_walk (a f : Int) (w : World) (ht : Tab w) (a1 : 0 ≤ a) (a2 : a ≤ 65535) (f1 : -32768 ≤ f) (f2 : f ≤ 32767) :
    Calls Tryd.prog 6 #[.int .u16 a, .int .i16 f] w fun e w' => e = .returned (.bool true) ∧ Below w.heap.size w w' := by
  generalize hn : a % 36524 = n
  have n1 : 0 ≤ n := by omega
  have n2 : n < 36524 := by omega
  have hy := Cal.yOf_bd n n1 (by omega)
  have hm := Cal.mOf_bd n
  have hd := Cal.dOf_bd n n1 (by omega)
  have hv := Cal.wday_bd n
  exact steps_core a f n _ _ _ _ _ _ _ _ w ht a1 a2 f1 f2 hn n1 n2 ⟨rfl, rfl, rfl⟩ ⟨rfl, rfl, rfl⟩ rfl hv.1 hv.2 rfl (wday_next n) (wday_weeks n f) hy.1 hy.2 hm.1 hm.2 hd.1 hd.2 (next_day n n1 n2)

end Go.Proofs.YtbohogaopfkmlaaDoor

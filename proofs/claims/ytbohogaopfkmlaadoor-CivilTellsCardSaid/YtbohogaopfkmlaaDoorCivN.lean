/- The laws' common head over package civil: 'known' answers true. -/
import Derived.Test.YtbohogaopfkmlaaDoorCivM
namespace Go.Proofs.YtbohogaopfkmlaaDoor
open Go.RowKit

theorem n_2000_3_1 : numE 2000 3 1 = (60, 0) := by decide +kernel
theorem n_2001_2_29 : numE 2001 2 29 = (0, 11) := by decide +kernel
theorem n_1999_2_1 : numE 1999 2 1 = (0, 10) := by decide +kernel
theorem d_59 : Cal.yOf 59 = 2000 ∧ Cal.mOf 59 = 2 ∧ Cal.dOf 59 = 29 := by decide +kernel
theorem p_90 : parseE [50, 48, 48, 48, 48, 49, 48, 49, 84, 48, 49, 51, 48, 48, 48] = (90, 0) := by decide +kernel
theorem p_2000 : parseE [50, 48, 48, 48] = (0, 14) := by decide +kernel
theorem t_90 : str (textOf 90) = ⟨#[50, 48, 48, 48, 48, 49, 48, 49, 84, 48, 49, 51, 48, 48, 48]⟩ := by
  have h : textOf 90 = [50, 48, 48, 48, 48, 49, 48, 49, 84, 48, 49, 51, 48, 48, 48] := by decide +kernel
  rw [h]; rfl
theorem lp_2000 : Cal.lpB 2000 = true := by decide +kernel
theorem dim_2001 : Cal.dim 2001 2 = 28 := by decide +kernel
theorem wd_0 : Cal.wday 0 = 5 := by decide
theorem wd_m1 : Cal.wday (-1) = 4 := by decide

theorem k_Date (w : World) :
    Calls Tryd.prog 14 #[.int .i64 59] w fun e w' => e = .returned (.tuple #[.agg #[.int .i64 2000, .int .i64 2, .int .i64 29], .int .i64 0]) ∧ Below w.heap.size w w' := by
  have := Date_yes 59 w (by decide) (by decide)
  rw [d_59.1, d_59.2.1, d_59.2.2] at this
  exact this
theorem k_Parse (w : World) :
    Calls Tryd.prog 29 #[.string ⟨#[50, 48, 48, 48, 48, 49, 48, 49, 84, 48, 49, 51, 48, 48, 48]⟩] w fun e w' => e = .returned (.tuple #[.int .i64 90, .int .i64 0]) ∧ Below w.heap.size w w' := by
  have := Parse_any ⟨#[50, 48, 48, 48, 48, 49, 48, 49, 84, 48, 49, 51, 48, 48, 48]⟩ w
  rw [p_90] at this
  exact this
theorem k_Parse2 (w : World) :
    Calls Tryd.prog 29 #[.string ⟨#[50, 48, 48, 48]⟩] w fun e w' => e = .returned (.tuple #[.int .i64 0, .int .i64 14]) ∧ Below w.heap.size w w' := by
  have := Parse_any ⟨#[50, 48, 48, 48]⟩ w
  rw [p_2000] at this
  exact this
theorem k_Text (w : World) (ht : Tab w) :
    Calls Tryd.prog 27 #[.int .i64 90] w fun e w' => e = .returned (.string ⟨#[50, 48, 48, 48, 48, 49, 48, 49, 84, 48, 49, 51, 48, 48, 48]⟩) ∧ Below w.heap.size w w' := by
  have := Text_any 90 w ht
  rw [t_90] at this
  exact this
theorem k_Weekday0 (w : World) :
    Calls Tryd.prog 25 #[.int .i64 0] w fun e w' => e = .returned (.int .i64 5) ∧ Below w.heap.size w w' := by
  have := weekday_any 0 w (by unfold I64; omega)
  rw [wd_0] at this
  exact this
theorem k_Weekdaym (w : World) :
    Calls Tryd.prog 25 #[.int .i64 (-1)] w fun e w' => e = .returned (.int .i64 4) ∧ Below w.heap.size w w' := by
  have := weekday_any (-1) w (by unfold I64; omega)
  rw [wd_m1] at this
  exact this
theorem k_Leap (w : World) :
    Calls Tryd.prog 21 #[.int .i64 2000] w fun e w' => e = .returned (.bool true) ∧ w = w' := by
  have := leap_any 2000 w
  rw [lp_2000] at this
  exact this
theorem k_Length (w : World) :
    Calls Tryd.prog 23 #[.int .i64 2001, .int .i64 2] w fun e w' => e = .returned (.int .i64 28) ∧ w = w' := by
  have := length_any 2001 2 w
  rw [dim_2001] at this
  exact this

set_option maxRecDepth 100000 in
set_option maxHeartbeats 1000000 in
theorem known_any (w : World) (ht : Tab w) :
    Calls Tryd.prog 11 #[] w fun e w' => e = .returned (.bool true) ∧ Below w.heap.size w w' := by
  have HT := hide ht
  clear ht
  go_enter Tryd.func11, Tryd.ntmps11
  go_wp2_with fail
  refine (number_is 2000 3 1 60 0 _ n_2000_3_1).mono ?_
  rintro e w1 ⟨rfl, hb1⟩
  go_wp2_with fail
  refine (number_is 2001 2 29 0 11 _ n_2001_2_29).mono ?_
  rintro e w2 ⟨rfl, hb2⟩
  go_wp2_with fail
  refine (number_is 1999 2 1 0 10 _ n_1999_2_1).mono ?_
  rintro e w3 ⟨rfl, hb3⟩
  go_wp2_with fail
  refine (k_Date _).mono ?_
  rintro e w4 ⟨rfl, hb4⟩
  go_wp2_with fail
  refine (k_Parse _).mono ?_
  rintro e w5 ⟨rfl, hb5⟩
  go_wp2_with fail
  refine (k_Parse2 _).mono ?_
  rintro e w6 ⟨rfl, hb6⟩
  have l5 : w4.heap.size < w5.heap.size := by have := hb5.size; simp at this; omega
  have c0 : w6.cell? ⟨w4.heap.size, 0, none⟩ = some (.int .i64 2000) := by rw [(bcell hb6).1 _ _ l5, (bcell hb5).1 _ _ (by simp)]; simp
  have c1 : w6.cell? ⟨w4.heap.size, 1, none⟩ = some (.int .i64 2) := by rw [(bcell hb6).1 _ _ l5, (bcell hb5).1 _ _ (by simp)]; simp
  have c2 : w6.cell? ⟨w4.heap.size, 2, none⟩ = some (.int .i64 29) := by rw [(bcell hb6).1 _ _ l5, (bcell hb5).1 _ _ (by simp)]; simp
  have HT6 := hide ((((((HT.out.below hb1 (Nat.le_refl _)).below hb2 (Nat.le_refl _)).below hb3 (Nat.le_refl _)).below hb4 (Nat.le_refl _)).alloc _ |>.below hb5 (Nat.le_refl _)).below hb6 (Nat.le_refl _))
  go_wp2_with fail
  refine (k_Weekday0 _).mono ?_
  rintro e w7 ⟨rfl, hb7⟩
  go_wp2_with fail
  refine (k_Weekdaym _).mono ?_
  rintro e w8 ⟨rfl, hb8⟩
  go_wp2_with fail
  refine (k_Text _ ((HT6.out.below hb7 (Nat.le_refl _)).below hb8 (Nat.le_refl _))).mono ?_
  rintro e w9 ⟨rfl, hb9⟩
  go_wp2_with fail
  refine (k_Leap _).mono ?_
  rintro e w10 ⟨rfl, rfl⟩
  go_wp2_with fail
  refine (k_Length _).mono ?_
  rintro e w10 ⟨rfl, rfl⟩
  go_wp2_with fail
  go_ret
  have s1 := hb1.size
  have s2 := hb2.size
  have s3 := hb3.size
  have s4 := hb4.size
  have s6 := hb6.size
  have s7 := hb7.size
  have s8 := hb8.size
  refine ⟨rfl, ?_⟩
  have a4 : Below w.heap.size w w4 := ((hb1.trans (hb2.mono s1)).trans (hb3.mono (by omega))).trans (hb4.mono (by omega))
  have a6 : Below w.heap.size w w6 := ((a4.alloc (by omega) _).trans (hb5.mono (by simp; omega))).trans (hb6.mono (by omega))
  exact ((a6.trans (hb7.mono (by omega))).trans (hb8.mono (by omega))).trans (hb9.mono (by omega))

end Go.Proofs.YtbohogaopfkmlaaDoor

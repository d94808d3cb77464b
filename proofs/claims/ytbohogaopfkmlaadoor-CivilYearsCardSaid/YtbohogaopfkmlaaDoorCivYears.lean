/- CivilYears walked: from the first of a month to the first of it a year later there are a year's days. -/
import Derived.Test.YtbohogaopfkmlaaDoorCivMonths
namespace Go.Proofs.YtbohogaopfkmlaaDoor
open Go.RowKit

theorem first_is (y m : Int) (hm1 : 1 ≤ m) (hm2 : m ≤ 12) : Cal.isB y m 1 = true := by
  rw [Cal.isB_iff]
  have := Cal.dim_pos y m hm1 hm2
  omega
theorem first_num (y m : Int) : Cal.num y m 1 = Cal.yst y + Cal.cum y m := by unfold Cal.num; omega
theorem last_is (y m : Int) (hm1 : 1 ≤ m) (hm2 : m ≤ 12) : Cal.isB y m (Cal.dim y m) = true := by
  rw [Cal.isB_iff]
  have := Cal.dim_pos y m hm1 hm2
  omega
/-- the days before a month hang on the year by its leap day alone. -/
theorem cum_year (y y' m : Int) (hm1 : 1 ≤ m) (hm2 : m ≤ 12) : Cal.cum y' m = Cal.cum y m + (if m ≤ 2 then 0 else Cal.dim y' 2 - Cal.dim y 2) := by
  unfold Cal.cum
  by_cases h : m ≤ 2
  · rw [if_pos h, if_neg (by omega : ¬ 2 < m), if_neg (by omega : ¬ 2 < m)]; omega
  · rw [if_neg h, if_pos (by omega : 2 < m), if_pos (by omega : 2 < m)]; omega
theorem next_year (y m : Int) (h1 : 2000 ≤ y) (h2 : y ≤ 2098) (hm1 : 1 ≤ m) (hm2 : m ≤ 12) :
    Cal.num (y + 1) m 1 = Cal.num y m 1 + (if (if m ≤ 2 then Cal.lpB y else Cal.lpB (y + 1)) then 366 else 365) := by
  rw [first_num, first_num, cum_year y (y + 1) m hm1 hm2, Cal.yst_succ y h1 (by omega), Cal.cum_13, Cal.dim2_in y h1 (by omega), Cal.dim2_in (y + 1) (by omega) (by omega), Cal.lp_in y h1 (by omega), Cal.lp_in (y + 1) (by omega) (by omega)]
  by_cases h : m ≤ 2
  · rw [if_pos h, if_pos h]
    by_cases g : y % 4 = 0
    · simp [g]; omega
    · simp [g]; omega
  · rw [if_neg h, if_neg h]
    by_cases g : y % 4 = 0
    · have g' : ¬ (y + 1) % 4 = 0 := by omega
      simp [g, g']; omega
    · by_cases g' : (y + 1) % 4 = 0
      · simp [g, g']; omega
      · simp [g, g']; omega
theorem four_years (y m : Int) (h1 : 2000 ≤ y) (h2 : y ≤ 2095) (hm1 : 1 ≤ m) (hm2 : m ≤ 12) : Cal.num (y + 4) m 1 = Cal.num y m 1 + 1461 := by
  have hd : Cal.dim (y + 4) 2 = Cal.dim y 2 := by
    rw [Cal.dim2_in y h1 (by omega), Cal.dim2_in (y + 4) (by omega) (by omega)]
    have : (y + 4) % 4 = y % 4 := by omega
    rw [this]
  rw [first_num, first_num, cum_year y (y + 4) m hm1 hm2, hd]
  have : Cal.yst (y + 4) = Cal.yst y + 1461 := by unfold Cal.yst; omega
  rw [this]
  split <;> omega

set_option maxRecDepth 100000 in
set_option maxHeartbeats 2000000 in
theorem years_core (a b y m A D : Int) (lp : Bool) (w : World) (ht : Tab w) (h1 : 0 ≤ a) (h2 : a ≤ 255) (g1 : 0 ≤ b) (g2 : b ≤ 255) (hy : 2000 + a % 95 = y) (hm : b % 12 + 1 = m) (hy1 : 2000 ≤ y) (hy2 : y ≤ 2094) (hm1 : 1 ≤ m) (hm2 : m ≤ 12)
    (_hA1 : 0 ≤ A) (_hA2 : A ≤ 36525) (hD1 : 28 ≤ D) (hD2 : D ≤ 31) (hdim : Cal.dim y m = D) (hlp : (if m ≤ 2 then Cal.lpB y else Cal.lpB (y + 1)) = lp)
    (n1 : numE y m 1 = (A, 0)) (n2 : numE (y + 1) m 1 = (A + (if lp then 366 else 365), 0)) (n3 : numE (y + 4) m 1 = (A + 1461, 0)) (n4 : numE y m D = (A + (D - 1), 0)) :
    Calls Tryd.prog 8 #[.int .u8 a, .int .u8 b] w fun e w' => e = .returned (.bool true) ∧ Below w.heap.size w w' := by
  have HT := hide ht
  have HY := hide hy
  have HM := hide hm
  have HDI := hide hdim
  have N1 := hide n1
  have N3 := hide n3
  have N4 := hide n4
  have ha : 0 ≤ a % 95 ∧ a % 95 ≤ 94 := by omega
  have hb : 0 ≤ b % 12 ∧ b % 12 ≤ 11 := by omega
  clear ht hy hm hdim n1 n3 n4
  by_cases hm3 : m ≤ 2
  all_goals
    first | rw [if_pos hm3] at hlp | rw [if_neg hm3] at hlp
    cases lp
    all_goals
      first | rw [if_pos rfl] at n2 | rw [if_neg (by decide)] at n2
      have N2 := hide n2
      have HL := hide hlp
      clear n2 hlp
      go_enter Tryd.func8, Tryd.ntmps8
      go_wp2_with fail
      refine (known_any _ HT.out).mono ?_
      rintro e w1 ⟨rfl, hb1⟩
      go_wp2_with fail
      rw [HY.out, HM.out]
      refine (number_is y m 1 A 0 _ N1.out).mono ?_
      rintro e w2 ⟨rfl, hb2⟩
      go_wp2_with fail
      refine (number_is (y + 1) m 1 _ 0 _ N2.out).mono ?_
      rintro e w3 ⟨rfl, hb3⟩
      go_wp2_with fail
      refine (number_is (y + 4) m 1 (A + 1461) 0 _ N3.out).mono ?_
      rintro e w4 ⟨rfl, hb4⟩
      go_wp2_with fail
      refine (length_at y m D _ HDI.out).mono ?_
      rintro e w5 ⟨rfl, rfl⟩
      go_wp2_with fail
      refine (number_is y m D (A + (D - 1)) 0 _ N4.out).mono ?_
      rintro e w5 ⟨rfl, hb5⟩
      go_wp2_with fail
      first | (with_reducible refine (leap_at y _ _ HL.out).mono ?_) | (with_reducible refine (leap_at (y + 1) _ _ HL.out).mono ?_)
      rintro e w6 ⟨rfl, rfl⟩
      go_wp2_with fail
      refine (length_at y m D _ HDI.out).mono ?_
      rintro e w6 ⟨rfl, rfl⟩
      go_wp2_with fail
      go_ret
      have s1 := hb1.size
      have s2 := hb2.size
      have s3 := hb3.size
      have s4 := hb4.size
      exact ⟨ret_bool (by rw [beq_iff_eq]; omega), (((hb1.trans (hb2.mono s1)).trans (hb3.mono (by omega))).trans (hb4.mono (by omega))).trans (hb5.mono (by omega))⟩

theorem years_walk (a b : Int) (w : World) (ht : Tab w) (h1 : 0 ≤ a) (h2 : a ≤ 255) (g1 : 0 ≤ b) (g2 : b ≤ 255) :
    Calls Tryd.prog 8 #[.int .u8 a, .int .u8 b] w fun e w' => e = .returned (.bool true) ∧ Below w.heap.size w w' := by
  generalize hy : 2000 + a % 95 = y
  generalize hm : b % 12 + 1 = m
  have hy1 : 2000 ≤ y := by omega
  have hy2 : y ≤ 2094 := by omega
  have hm1 : 1 ≤ m := by omega
  have hm2 : m ≤ 12 := by omega
  have hA := Cal.num_bd y m 1 hy1 (by omega) (first_is y m hm1 hm2)
  have hD1 := Cal.dim_pos y m hm1 hm2
  have hD2 := (Cal.dim_bd y m).2
  have hD2' : Cal.dim y m ≤ 31 := hD2
  refine years_core a b y m (Cal.num y m 1) (Cal.dim y m) _ w ht h1 h2 g1 g2 hy hm hy1 hy2 hm1 hm2 hA.1 (by omega) hD1 hD2' rfl rfl ?_ ?_ ?_ ?_
  · exact numE_0 y m 1 (first_is y m hm1 hm2) hy1 (by omega)
  · rw [numE_0 (y + 1) m 1 (first_is (y + 1) m hm1 hm2) (by omega) (by omega), next_year y m hy1 (by omega) hm1 hm2]
  · rw [numE_0 (y + 4) m 1 (first_is (y + 4) m hm1 hm2) (by omega) (by omega), four_years y m hy1 (by omega) hm1 hm2]
  · rw [numE_0 y m _ (last_is y m hm1 hm2) hy1 (by omega)]
    have : Cal.num y m (Cal.dim y m) = Cal.num y m 1 + (Cal.dim y m - 1) := by unfold Cal.num; omega
    rw [this]

end Go.Proofs.YtbohogaopfkmlaaDoor

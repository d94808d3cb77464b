/- Plain mathematics of dates: leap years, lengths of months, days before a month and before a year. No Go in sight. -/
import Derived.Below
namespace Go.Proofs.YtojhajlhbhkddaaDoor
namespace Cal

/-- a leap year, in Go's own spelling of the remainder. -/
def lpB (y : Int) : Bool := (y.tmod 4 == 0 && y.tmod 100 != 0) || y.tmod 400 == 0
/-- the days of a month; 0 where there is no such month. -/
def dim (y m : Int) : Int :=
  if m = 1 ∨ m = 3 ∨ m = 5 ∨ m = 7 ∨ m = 8 ∨ m = 10 ∨ m = 12 then 31
  else if m = 4 ∨ m = 6 ∨ m = 9 ∨ m = 11 then 30
  else if m = 2 then (if lpB y then 29 else 28)
  else 0
/-- the days of the months before month m. -/
def cum (y m : Int) : Int :=
  (if 1 < m then 31 else 0) + (if 2 < m then dim y 2 else 0) + (if 3 < m then 31 else 0) + (if 4 < m then 30 else 0) + (if 5 < m then 31 else 0) + (if 6 < m then 30 else 0)
   + (if 7 < m then 31 else 0) + (if 8 < m then 31 else 0) + (if 9 < m then 30 else 0) + (if 10 < m then 31 else 0) + (if 11 < m then 30 else 0) + (if 12 < m then 31 else 0)
/-- the day of the first of January of a year from 2000 on. -/
def yst (y : Int) : Int := (y - 2000) * 365 + (y - 2000 + 3) / 4
/-- the number of a day. -/
def num (y m d : Int) : Int := yst y + cum y m + (d - 1)
/-- is there such a date? -/
def isB (y m d : Int) : Bool := decide (1 ≤ d) && decide (d ≤ dim y m)

theorem dim2 (y : Int) : dim y 2 = 28 ∨ dim y 2 = 29 := by
  have h : dim y 2 = if lpB y then 29 else 28 := by simp [dim]
  rw [h]
  split <;> simp
theorem dim_cases (y m : Int) : dim y m = 31 ∨ dim y m = 30 ∨ dim y m = 29 ∨ dim y m = 28 ∨ dim y m = 0 := by
  unfold dim
  repeat' split
  all_goals simp
theorem dim_bd (y m : Int) : 0 ≤ dim y m ∧ dim y m ≤ 31 := by
  rcases dim_cases y m with h | h | h | h | h <;> rw [h] <;> decide
theorem dim_pos (y m : Int) (h1 : 1 ≤ m) (h2 : m ≤ 12) : 28 ≤ dim y m := by
  have h : m = 1 ∨ m = 2 ∨ m = 3 ∨ m = 4 ∨ m = 5 ∨ m = 6 ∨ m = 7 ∨ m = 8 ∨ m = 9 ∨ m = 10 ∨ m = 11 ∨ m = 12 := by omega
  have h2 := dim2 y
  rcases h with h | h | h | h | h | h | h | h | h | h | h | h <;> subst h <;> first | (simp [dim]; done) | omega
theorem dim_out (y m : Int) (h : m < 1 ∨ 12 < m) : dim y m = 0 := by
  unfold dim
  rw [if_neg (by omega), if_neg (by omega), if_neg (by omega)]
theorem dim_in (y m : Int) (h : 0 < dim y m) : 1 ≤ m ∧ m ≤ 12 := by
  by_cases g : m < 1 ∨ 12 < m
  · rw [dim_out y m g] at h; omega
  · omega
theorem isB_iff (y m d : Int) : isB y m d = true ↔ 1 ≤ d ∧ d ≤ dim y m := by simp [isB]
theorem isB_month {y m d : Int} (h : isB y m d = true) : 1 ≤ m ∧ m ≤ 12 := by
  rw [isB_iff] at h
  exact dim_in y m (by omega)

theorem cum_one (y : Int) : cum y 1 = 0 := by simp [cum]
theorem cum_succ (y m : Int) (h1 : 1 ≤ m) (h2 : m ≤ 12) : cum y (m + 1) = cum y m + dim y m := by
  have h : m = 1 ∨ m = 2 ∨ m = 3 ∨ m = 4 ∨ m = 5 ∨ m = 6 ∨ m = 7 ∨ m = 8 ∨ m = 9 ∨ m = 10 ∨ m = 11 ∨ m = 12 := by omega
  rcases h with h | h | h | h | h | h | h | h | h | h | h | h <;> subst h <;> simp [cum, dim] <;> omega
theorem cum_bd (y m : Int) (h1 : 1 ≤ m) (h2 : m ≤ 13) : 0 ≤ cum y m ∧ cum y m ≤ 366 := by
  have h : m = 1 ∨ m = 2 ∨ m = 3 ∨ m = 4 ∨ m = 5 ∨ m = 6 ∨ m = 7 ∨ m = 8 ∨ m = 9 ∨ m = 10 ∨ m = 11 ∨ m = 12 ∨ m = 13 := by omega
  have h2 := dim2 y
  rcases h with h | h | h | h | h | h | h | h | h | h | h | h | h <;> subst h <;> simp [cum] <;> omega
theorem cum_13 (y : Int) : cum y 13 = 337 + dim y 2 := by simp [cum]; omega
theorem cum_mono (y m : Int) (h1 : 1 ≤ m) (h2 : m ≤ 12) : cum y m + dim y m ≤ cum y 13 := by
  have h : m = 1 ∨ m = 2 ∨ m = 3 ∨ m = 4 ∨ m = 5 ∨ m = 6 ∨ m = 7 ∨ m = 8 ∨ m = 9 ∨ m = 10 ∨ m = 11 ∨ m = 12 := by omega
  have h2 := dim2 y
  rcases h with h | h | h | h | h | h | h | h | h | h | h | h <;> subst h <;> simp [cum, dim] <;> (try split) <;> omega

/-- between 2000 and 2099 the leap years are those that four divides. -/
theorem lp_in (y : Int) (h1 : 2000 ≤ y) (h2 : y ≤ 2099) : lpB y = decide (y % 4 = 0) := by
  unfold lpB
  rw [Int.tmod_eq_emod_of_nonneg (by omega), Int.tmod_eq_emod_of_nonneg (by omega), Int.tmod_eq_emod_of_nonneg (by omega)]
  rw [Bool.eq_iff_iff]
  simp
  omega
theorem dim2_in (y : Int) (h1 : 2000 ≤ y) (h2 : y ≤ 2099) : dim y 2 = if y % 4 = 0 then 29 else 28 := by
  have h : dim y 2 = if lpB y then 29 else 28 := by simp [dim]
  rw [h, lp_in y h1 h2]
  simp
theorem yst_succ (y : Int) (h1 : 2000 ≤ y) (h2 : y ≤ 2099) : yst (y + 1) = yst y + cum y 13 := by
  rw [cum_13, dim2_in y h1 h2]
  unfold yst
  split <;> omega
theorem yst_bd (y : Int) (h1 : 2000 ≤ y) (h2 : y ≤ 2099) : 0 ≤ yst y ∧ yst y ≤ 36160 := by unfold yst; omega
theorem num_bd (y m d : Int) (h1 : 2000 ≤ y) (h2 : y ≤ 2099) (h : isB y m d = true) : 0 ≤ num y m d ∧ num y m d < 36525 := by
  have hm := isB_month h
  rw [isB_iff] at h
  have hc := cum_mono y m hm.1 hm.2
  have hb := cum_bd y m hm.1 (by omega)
  have hy := yst_succ y h1 h2
  have hs : yst (y + 1) ≤ 36525 := by unfold yst; omega
  have hb2 := yst_bd y h1 h2
  unfold num
  omega


theorem cum_mono' (y : Int) (k : Nat) (m : Int) (h1 : 1 ≤ m) (h2 : m + k ≤ 13) : cum y m ≤ cum y (m + k) := by
  induction k with
  | zero => simp
  | succ k ih =>
    have h := cum_succ y (m + k) (by omega) (by omega)
    have hd := dim_bd y (m + k)
    have := ih (by omega)
    have e : m + ((k + 1 : Nat) : Int) = m + k + 1 := by omega
    rw [e]
    omega
theorem cum_le (y m m' : Int) (h1 : 1 ≤ m) (h : m ≤ m') (h2 : m' ≤ 13) : cum y m ≤ cum y m' := by
  have := cum_mono' y (m' - m).toNat m h1 (by omega)
  rw [show m + (((m' - m).toNat : Nat) : Int) = m' from by omega] at this
  exact this
theorem yst_le (y y' : Int) (h : y ≤ y') : yst y ≤ yst y' := by unfold yst; omega
theorem num_lt (y m d : Int) (h1 : 2000 ≤ y) (h2 : y ≤ 2099) (h : isB y m d = true) : yst y ≤ num y m d ∧ num y m d < yst (y + 1) := by
  have hm := isB_month h
  rw [isB_iff] at h
  have hc := cum_mono y m hm.1 hm.2
  have hb := cum_bd y m hm.1 (by omega)
  have hy := yst_succ y h1 h2
  unfold num
  omega
theorem num_inj (y m d y' m' d' : Int) (h1 : 2000 ≤ y) (h2 : y ≤ 2099) (h : isB y m d = true) (h1' : 2000 ≤ y') (h2' : y' ≤ 2099) (h' : isB y' m' d' = true) (e : num y m d = num y' m' d') :
    y = y' ∧ m = m' ∧ d = d' := by
  have a := num_lt y m d h1 h2 h
  have a' := num_lt y' m' d' h1' h2' h'
  have hyy : y = y' := by
    rcases Int.lt_trichotomy y y' with g | g | g
    · have := yst_le (y + 1) y' (by omega); omega
    · exact g
    · have := yst_le (y' + 1) y (by omega); omega
  subst hyy
  have hm := isB_month h
  have hm' := isB_month h'
  rw [isB_iff] at h h'
  unfold num at e
  have hmm : m = m' := by
    rcases Int.lt_trichotomy m m' with g | g | g
    · have := cum_le y (m + 1) m' (by omega) (by omega) (by omega); have := cum_succ y m hm.1 hm.2; omega
    · exact g
    · have := cum_le y (m' + 1) m (by omega) (by omega) (by omega); have := cum_succ y m' hm'.1 hm'.2; omega
  subst hmm
  exact ⟨rfl, rfl, by omega⟩

/-- the year of a day, its month, its day of the month. -/
def yOf (n : Int) : Int := 2000 + n * 4 / 1461
def mAt (y r : Int) : Int :=
  if r < cum y 2 then 1 else if r < cum y 3 then 2 else if r < cum y 4 then 3 else if r < cum y 5 then 4 else if r < cum y 6 then 5 else if r < cum y 7 then 6
  else if r < cum y 8 then 7 else if r < cum y 9 then 8 else if r < cum y 10 then 9 else if r < cum y 11 then 10 else if r < cum y 12 then 11 else 12
def mOf (n : Int) : Int := mAt (yOf n) (n - yst (yOf n))
def dOf (n : Int) : Int := n - yst (yOf n) - cum (yOf n) (mOf n) + 1

theorem yOf_bd (n : Int) (h1 : 0 ≤ n) (h2 : n < 36525) : 2000 ≤ yOf n ∧ yOf n ≤ 2099 := by unfold yOf; omega
theorem yOf_yst (n : Int) (_h1 : 0 ≤ n) (_h2 : n < 36525) : yst (yOf n) ≤ n ∧ n < yst (yOf n + 1) := by unfold yst yOf; omega
theorem mAt_bd (y r : Int) : 1 ≤ mAt y r ∧ mAt y r ≤ 12 := by
  unfold mAt
  repeat' split
  all_goals omega
theorem mAt_cum (y r : Int) (h1 : 0 ≤ r) (h2 : r < cum y 13) : cum y (mAt y r) ≤ r ∧ r < cum y (mAt y r + 1) := by
  unfold mAt
  have h0 := cum_one y
  repeat' split
  all_goals (constructor <;> (try simp only [Int.reduceAdd]) <;> omega)
theorem mAt_of (y r m : Int) (hm1 : 1 ≤ m) (hm2 : m ≤ 12) (h1 : cum y m ≤ r) (h2 : r < cum y (m + 1)) : mAt y r = m := by
  have hb := mAt_bd y r
  have h13 := cum_le y (m + 1) 13 (by omega) (by omega) (by omega)
  have h01 := cum_le y 1 m (by omega) (by omega) (by omega)
  have h0 := cum_one y
  have hc := mAt_cum y r (by omega) (by omega)
  rcases Int.lt_trichotomy (mAt y r) m with g | g | g
  · have := cum_le y (mAt y r + 1) m (by omega) (by omega) (by omega); omega
  · exact g
  · have := cum_le y (m + 1) (mAt y r) (by omega) (by omega) (by omega); omega
theorem of_is (n : Int) (h1 : 0 ≤ n) (h2 : n < 36525) : isB (yOf n) (mOf n) (dOf n) = true := by
  have hy := yOf_yst n h1 h2
  have hb := yOf_bd n h1 h2
  have hs := yst_succ (yOf n) hb.1 hb.2
  have hm := mAt_bd (yOf n) (n - yst (yOf n))
  have hc := mAt_cum (yOf n) (n - yst (yOf n)) (by omega) (by omega)
  have hcs := cum_succ (yOf n) (mOf n) hm.1 hm.2
  rw [isB_iff]
  unfold dOf
  change cum (yOf n) (mOf n) ≤ _ ∧ _ < cum (yOf n) (mOf n + 1) at hc
  omega
theorem of_num (n : Int) : num (yOf n) (mOf n) (dOf n) = n := by unfold num dOf; omega
theorem of_unique (n y m d : Int) (h1 : 2000 ≤ y) (h2 : y ≤ 2099) (h : isB y m d = true) (e : num y m d = n) : yOf n = y ∧ mOf n = m ∧ dOf n = d := by
  have hb := num_bd y m d h1 h2 h
  rw [e] at hb
  have hy := yOf_bd n hb.1 hb.2
  exact num_inj _ _ _ _ _ _ hy.1 hy.2 (of_is n hb.1 hb.2) h1 h2 h (by rw [of_num, e])
theorem dOf_bd (n : Int) (h1 : 0 ≤ n) (h2 : n < 36525) : 1 ≤ dOf n ∧ dOf n ≤ 31 := by
  have := of_is n h1 h2
  rw [isB_iff] at this
  have := dim_bd (yOf n) (mOf n)
  omega
theorem mOf_bd (n : Int) : 1 ≤ mOf n ∧ mOf n ≤ 12 := mAt_bd _ _

/-- the weekday of a day, 0 the Monday. -/
def wday (n : Int) : Int := (5 + n % 7) % 7
theorem wday_bd (n : Int) : 0 ≤ wday n ∧ wday n ≤ 6 := by unfold wday; omega

end Cal
end Go.Proofs.YtojhajlhbhkddaaDoor

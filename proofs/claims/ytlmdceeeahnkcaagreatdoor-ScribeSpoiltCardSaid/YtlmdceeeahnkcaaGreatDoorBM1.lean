/- CivMath; RuMath; CivS; RtNum; RtCut; RtList; EvMath; EvMathD of the recipes, what is needed of them. -/
import Derived.Below
import Derived.WalkKit
import Derived.Lib.ItoaNum
import Derived.Lib.AtoiAllCases
import Derived.Lib.Split
import Derived.Lib.SplitLaws
import Derived.Lib.Join
namespace Go.Proofs.YtlmdceeeahnkcaaGreatDoor
namespace Cal

/-- a leap year, in Go's own spelling of the remainder. -/
def lpB (y : Int) : Bool := (y.tmod 4 == 0 && y.tmod 100 != 0) || y.tmod 400 == 0
/-- the days of a month; 0 where there is no such month. -/
def dim (y m : Int) : Int :=
  if m = 1 ∨ m = 3 ∨ m = 5 ∨ m = 7 ∨ m = 8 ∨ m = 10 ∨ m = 12 then 31
  else if m = 4 ∨ m = 6 ∨ m = 9 ∨ m = 11 then 30
  else if m = 2 then (if lpB y then 29 else 28)
  else 0
/-- the days of the months before month m. -/
def cum (y m : Int) : Int :=
  (if 1 < m then 31 else 0) + (if 2 < m then dim y 2 else 0) + (if 3 < m then 31 else 0) + (if 4 < m then 30 else 0) + (if 5 < m then 31 else 0) + (if 6 < m then 30 else 0)
   + (if 7 < m then 31 else 0) + (if 8 < m then 31 else 0) + (if 9 < m then 30 else 0) + (if 10 < m then 31 else 0) + (if 11 < m then 30 else 0) + (if 12 < m then 31 else 0)
/-- the day of the first of January of a year from 2000 on. -/
def yst (y : Int) : Int := (y - 2000) * 365 + (y - 2000 + 3) / 4
/-- is there such a date? -/
def isB (y m d : Int) : Bool := decide (1 ≤ d) && decide (d ≤ dim y m)

theorem dim2 (y : Int) : dim y 2 = 28 ∨ dim y 2 = 29 := by
  have h : dim y 2 = if lpB y then 29 else 28 := by simp [dim]
  rw [h]
  split <;> simp
theorem dim_cases (y m : Int) : dim y m = 31 ∨ dim y m = 30 ∨ dim y m = 29 ∨ dim y m = 28 ∨ dim y m = 0 := by
  unfold dim
  repeat' split
  all_goals simp
theorem dim_bd (y m : Int) : 0 ≤ dim y m ∧ dim y m ≤ 31 := by
  rcases dim_cases y m with h | h | h | h | h <;> rw [h] <;> decide
theorem dim_out (y m : Int) (h : m < 1 ∨ 12 < m) : dim y m = 0 := by
  unfold dim
  rw [if_neg (by omega), if_neg (by omega), if_neg (by omega)]
theorem cum_one (y : Int) : cum y 1 = 0 := by simp [cum]
theorem cum_succ (y m : Int) (h1 : 1 ≤ m) (h2 : m ≤ 12) : cum y (m + 1) = cum y m + dim y m := by
  have h : m = 1 ∨ m = 2 ∨ m = 3 ∨ m = 4 ∨ m = 5 ∨ m = 6 ∨ m = 7 ∨ m = 8 ∨ m = 9 ∨ m = 10 ∨ m = 11 ∨ m = 12 := by omega
  rcases h with h | h | h | h | h | h | h | h | h | h | h | h <;> subst h <;> simp [cum, dim] <;> omega
theorem cum_bd (y m : Int) (h1 : 1 ≤ m) (h2 : m ≤ 13) : 0 ≤ cum y m ∧ cum y m ≤ 366 := by
  have h : m = 1 ∨ m = 2 ∨ m = 3 ∨ m = 4 ∨ m = 5 ∨ m = 6 ∨ m = 7 ∨ m = 8 ∨ m = 9 ∨ m = 10 ∨ m = 11 ∨ m = 12 ∨ m = 13 := by omega
  have h2 := dim2 y
  rcases h with h | h | h | h | h | h | h | h | h | h | h | h | h <;> subst h <;> simp [cum] <;> omega
theorem cum_13 (y : Int) : cum y 13 = 337 + dim y 2 := by simp [cum]; omega
/-- between 2000 and 2099 the leap years are those that four divides. -/
theorem lp_in (y : Int) (h1 : 2000 ≤ y) (h2 : y ≤ 2099) : lpB y = decide (y % 4 = 0) := by
  unfold lpB
  rw [Int.tmod_eq_emod_of_nonneg (by omega), Int.tmod_eq_emod_of_nonneg (by omega), Int.tmod_eq_emod_of_nonneg (by omega)]
  rw [Bool.eq_iff_iff]
  simp
  omega
theorem dim2_in (y : Int) (h1 : 2000 ≤ y) (h2 : y ≤ 2099) : dim y 2 = if y % 4 = 0 then 29 else 28 := by
  have h : dim y 2 = if lpB y then 29 else 28 := by simp [dim]
  rw [h, lp_in y h1 h2]
  simp
theorem yst_succ (y : Int) (h1 : 2000 ≤ y) (h2 : y ≤ 2099) : yst (y + 1) = yst y + cum y 13 := by
  rw [cum_13, dim2_in y h1 h2]
  unfold yst
  split <;> omega
theorem yst_bd (y : Int) (h1 : 2000 ≤ y) (h2 : y ≤ 2099) : 0 ≤ yst y ∧ yst y ≤ 36160 := by unfold yst; omega
theorem cum_mono' (y : Int) (k : Nat) (m : Int) (h1 : 1 ≤ m) (h2 : m + k ≤ 13) : cum y m ≤ cum y (m + k) := by
  induction k with
  | zero => simp
  | succ k ih =>
    have h := cum_succ y (m + k) (by omega) (by omega)
    have hd := dim_bd y (m + k)
    have := ih (by omega)
    have e : m + ((k + 1 : Nat) : Int) = m + k + 1 := by omega
    rw [e]
    omega
theorem cum_le (y m m' : Int) (h1 : 1 ≤ m) (h : m ≤ m') (h2 : m' ≤ 13) : cum y m ≤ cum y m' := by
  have := cum_mono' y (m' - m).toNat m h1 (by omega)
  rw [show m + (((m' - m).toNat : Nat) : Int) = m' from by omega] at this
  exact this
/-- the year of a day, its month, its day of the month. -/
def yOf (n : Int) : Int := 2000 + n * 4 / 1461
def mAt (y r : Int) : Int :=
  if r < cum y 2 then 1 else if r < cum y 3 then 2 else if r < cum y 4 then 3 else if r < cum y 5 then 4 else if r < cum y 6 then 5 else if r < cum y 7 then 6
  else if r < cum y 8 then 7 else if r < cum y 9 then 8 else if r < cum y 10 then 9 else if r < cum y 11 then 10 else if r < cum y 12 then 11 else 12
def mOf (n : Int) : Int := mAt (yOf n) (n - yst (yOf n))
def dOf (n : Int) : Int := n - yst (yOf n) - cum (yOf n) (mOf n) + 1

theorem yOf_bd (n : Int) (h1 : 0 ≤ n) (h2 : n < 36525) : 2000 ≤ yOf n ∧ yOf n ≤ 2099 := by unfold yOf; omega
theorem yOf_yst (n : Int) (_h1 : 0 ≤ n) (_h2 : n < 36525) : yst (yOf n) ≤ n ∧ n < yst (yOf n + 1) := by unfold yst yOf; omega
theorem mAt_bd (y r : Int) : 1 ≤ mAt y r ∧ mAt y r ≤ 12 := by
  unfold mAt
  repeat' split
  all_goals omega
theorem mAt_cum (y r : Int) (h1 : 0 ≤ r) (h2 : r < cum y 13) : cum y (mAt y r) ≤ r ∧ r < cum y (mAt y r + 1) := by
  unfold mAt
  have h0 := cum_one y
  repeat' split
  all_goals (constructor <;> (try simp only [Int.reduceAdd]) <;> omega)
theorem mAt_of (y r m : Int) (hm1 : 1 ≤ m) (hm2 : m ≤ 12) (h1 : cum y m ≤ r) (h2 : r < cum y (m + 1)) : mAt y r = m := by
  have hb := mAt_bd y r
  have h13 := cum_le y (m + 1) 13 (by omega) (by omega) (by omega)
  have h01 := cum_le y 1 m (by omega) (by omega) (by omega)
  have h0 := cum_one y
  have hc := mAt_cum y r (by omega) (by omega)
  rcases Int.lt_trichotomy (mAt y r) m with g | g | g
  · have := cum_le y (mAt y r + 1) m (by omega) (by omega) (by omega); omega
  · exact g
  · have := cum_le y (m + 1) (mAt y r) (by omega) (by omega) (by omega); omega
end Cal
end Go.Proofs.YtlmdceeeahnkcaaGreatDoor
namespace Go.Proofs.YtlmdceeeahnkcaaGreatDoor.Rul
open Go.Proofs.YtlmdceeeahnkcaaGreatDoor

abbrev Wd := Int × Int
structure T where
  fr : Int
  ev : Int
  ct : Int
  un : Int
  ds : List Wd
  ms : List Int
  ys : List Int

def btw (a x b : Int) : Bool := decide (a ≤ x) && decide (x ≤ b)
theorem btw_iff (a x b : Int) : btw a x b = true ↔ a ≤ x ∧ x ≤ b := by simp [btw]
theorem btw_not (a x b : Int) : btw a x b = false ↔ ¬ (a ≤ x ∧ x ≤ b) := by rw [← Bool.not_eq_true, btw_iff]

section
variable {α : Type}
/-- the i-th of a list is possible, and behind the one ahead of it. -/
def stepB (p : α → Bool) (lt : α → α → Bool) (d : α) (l : List α) (i : Nat) : Bool := p (l.getD i d) && (i == 0 || lt (l.getD (i - 1) d) (l.getD i d))
def ascB (p : α → Bool) (lt : α → α → Bool) (d : α) (l : List α) : Bool := (List.range l.length).all (stepB p lt d l)
def listB (p : α → Bool) (lt : α → α → Bool) (d : α) (l : List α) : Bool := decide (l.length ≤ 12) && ascB p lt d l
theorem ascB_iff (p : α → Bool) (lt : α → α → Bool) (d : α) (l : List α) : ascB p lt d l = true ↔ ∀ i, i < l.length → stepB p lt d l i = true := by
  unfold ascB; rw [List.all_eq_true]; simp only [List.mem_range]
theorem ascB_no (p : α → Bool) (lt : α → α → Bool) (d : α) (l : List α) (i : Nat) (hi : i < l.length) (h : stepB p lt d l i = false) : ascB p lt d l = false := by
  rw [Bool.eq_false_iff]; intro hc
  rw [(ascB_iff p lt d l).1 hc i hi] at h; cases h
theorem listB_no (p : α → Bool) (lt : α → α → Bool) (d : α) (l : List α) (i : Nat) (hi : i < l.length) (h : stepB p lt d l i = false) : listB p lt d l = false := by
  unfold listB; rw [ascB_no p lt d l i hi h, Bool.and_false]
theorem listB_long (p : α → Bool) (lt : α → α → Bool) (d : α) (l : List α) (h : 12 < l.length) : listB p lt d l = false := by
  unfold listB; rw [decide_eq_false (by omega), Bool.false_and]
theorem listB_yes (p : α → Bool) (lt : α → α → Bool) (d : α) (l : List α) (h : l.length ≤ 12) (ha : ∀ i, i < l.length → stepB p lt d l i = true) : listB p lt d l = true := by
  unfold listB; rw [decide_eq_true h, (ascB_iff p lt d l).2 ha]; rfl
theorem getD_at (d : α) (l : List α) (i : Nat) (hi : i < l.length) : l.getD i d = l[i] := by simp [List.getD, hi]
theorem stepB_get (p : α → Bool) (lt : α → α → Bool) (d : α) (l : List α) (i : Nat) (hi : i < l.length) : stepB p lt d l i = (p l[i] && (i == 0 || lt (l.getD (i - 1) d) l[i])) := by
  unfold stepB; rw [getD_at d l i hi]
theorem stepB_p (p : α → Bool) (lt : α → α → Bool) (d : α) (l : List α) (i : Nat) (hi : i < l.length) (h : p l[i] = false) : stepB p lt d l i = false := by
  rw [stepB_get _ _ _ _ _ hi, h]; rfl
theorem stepB_0 (p : α → Bool) (lt : α → α → Bool) (d : α) (l : List α) (hi : 0 < l.length) : stepB p lt d l 0 = p l[0] := by
  rw [stepB_get _ _ _ _ _ hi]; simp
theorem stepB_succ (p : α → Bool) (lt : α → α → Bool) (d : α) (l : List α) (i : Nat) (hi : i + 1 < l.length) : stepB p lt d l (i + 1) = (p l[i + 1] && lt l[i] l[i + 1]) := by
  rw [stepB_get _ _ _ _ _ hi]; rw [show i + 1 - 1 = i from rfl, getD_at d l i (Nat.lt_of_succ_lt hi)]; simp
theorem listB_congr (p q : α → Bool) (lt : α → α → Bool) (d : α) (l : List α) (h : ∀ x, p x = q x) : listB p lt d l = listB q lt d l := by
  rw [show p = q from funext h]
theorem any_at (p : α → Bool) (l : List α) (i : Nat) (hi : i < l.length) (h : p l[i] = true) : l.any p = true := by
  rw [List.any_eq_true]; exact ⟨l[i], List.getElem_mem _, h⟩
theorem any_none (p : α → Bool) (l : List α) (h : ∀ i (hi : i < l.length), p l[i] = false) : l.any p = false := by
  rw [List.any_eq_false]; intro x hx
  rw [List.mem_iff_getElem] at hx
  obtain ⟨i, hi, rfl⟩ := hx
  simp [h i hi]
end

def wdOk (w : Wd) : Bool := btw (-5) w.1 5 && btw 0 w.2 6
def wdLt (a b : Wd) : Bool := decide (a.1 < b.1 ∨ a.1 = b.1 ∧ a.2 < b.2)
def mdOk (n : Int) : Bool := (n != 0) && btw (-31) n 31
def moOk (n : Int) : Bool := btw 1 n 12
def inLt (a b : Int) : Bool := decide (a < b)
def posB (w : Wd) : Bool := w.1 != 0

def rangeB (r : T) : Bool := btw 1 r.fr 4 && (btw 1 r.ev 100 && (btw 0 r.ct 40 && (btw (-1) r.un 52595999 && (decide (r.ct = 0) || decide (r.un = -1)))))
def wellB (r : T) : Bool := listB wdOk wdLt (0, 0) r.ds && (listB mdOk inLt 0 r.ms && listB moOk inLt 0 r.ys)
def suitB (r : T) : Bool :=
  if r.fr = 1 then !r.ds.any posB
  else if r.fr = 2 then !r.ds.any posB && decide (r.ms.length = 0)
  else if r.fr = 4 then decide (0 < r.ys.length) || (decide (r.ds.length = 0) && decide (r.ms.length = 0))
  else true
def recB (r : T) : Bool := rangeB r && (wellB r && suitB r)
def numB (r q : T) : Bool := decide (r.fr = q.fr ∧ r.ev = q.ev ∧ r.ct = q.ct ∧ r.un = q.un)
def eqlB (r q : T) : Bool := decide (r.ds = q.ds) && (decide (r.ms = q.ms) && decide (r.ys = q.ys))
def sameB (r q : T) : Bool := numB r q && eqlB r q
def once : T := ⟨0, 0, 0, -1, [], [], []⟩
def isB (r : T) : Bool := sameB r once || recB r

theorem rangeB_fr (r : T) (h : rangeB r = true) : 1 ≤ r.fr ∧ r.fr ≤ 4 := by
  unfold rangeB at h; rw [Bool.and_eq_true, btw_iff] at h; exact h.1
theorem recB_fr (r : T) (h : recB r = true) : 1 ≤ r.fr ∧ r.fr ≤ 4 := by
  unfold recB at h; rw [Bool.and_eq_true] at h; exact rangeB_fr r h.1
theorem sameB_fr (r q : T) (h : sameB r q = true) : r.fr = q.fr := by
  unfold sameB numB at h; rw [Bool.and_eq_true, decide_eq_true_eq] at h; exact h.1.1
theorem sameB_iff (r q : T) : sameB r q = true ↔ r = q := by
  obtain ⟨a, b, c, d, x, y, z⟩ := r
  obtain ⟨a', b', c', d', x', y', z'⟩ := q
  simp [sameB, numB, eqlB, and_assoc]
theorem isB_0 (r : T) (h : r.fr = 0) : isB r = sameB r once := by
  unfold isB
  have : recB r = false := by rw [Bool.eq_false_iff]; intro hc; have := recB_fr r hc; omega
  rw [this, Bool.or_false]
theorem isB_1 (r : T) (h : r.fr ≠ 0) : isB r = recB r := by
  unfold isB
  have : sameB r once = false := by rw [Bool.eq_false_iff]; intro hc; have := sameB_fr r once hc; exact h this
  rw [this, Bool.false_or]

/-- what the reference asks of weekdays. -/
def byDayB (ds : List Wd) (b : Bool) : Bool := listB (fun w => wdOk w && (b || decide (w.1 = 0))) wdLt (0, 0) ds
def risB (l : List Int) (lo hi : Int) : Bool := listB (fun n => btw lo n hi && (n != 0)) inLt 0 l
def isR (r : T) : Bool :=
  if r.fr = 0 then sameB r once
  else if rangeB r = false then false
  else if (byDayB r.ds (decide (3 ≤ r.fr)) && (risB r.ms (-31) 31 && risB r.ys 1 12)) = false then false
  else if r.fr = 2 ∧ 0 < r.ms.length then false
  else decide (r.fr ≠ 4) || (decide (0 < r.ys.length) || decide (r.ds.length + r.ms.length = 0))

theorem byDayB_pos (ds : List Wd) : byDayB ds true = listB wdOk wdLt (0, 0) ds := by
  unfold byDayB; exact listB_congr _ _ _ _ _ fun x => by simp
theorem byDayB_neg (ds : List Wd) : byDayB ds false = (listB wdOk wdLt (0, 0) ds && !ds.any posB) := by
  rw [Bool.eq_iff_iff]
  unfold byDayB listB
  simp only [Bool.and_eq_true, decide_eq_true_eq, ascB_iff, Bool.not_eq_true', List.any_eq_false]
  constructor
  · rintro ⟨h1, h2⟩
    refine ⟨⟨h1, fun i hi => ?_⟩, fun x hx => ?_⟩
    · have := h2 i hi
      rw [stepB_get _ _ _ _ _ hi] at this ⊢
      simp only [Bool.and_eq_true, Bool.false_or] at this ⊢
      exact ⟨this.1.1, this.2⟩
    · rw [List.mem_iff_getElem] at hx
      obtain ⟨i, hi, rfl⟩ := hx
      have := h2 i hi
      rw [stepB_get _ _ _ _ _ hi] at this
      simp only [Bool.and_eq_true, Bool.false_or, decide_eq_true_eq] at this
      simp [posB, this.1.2]
  · rintro ⟨⟨h1, h2⟩, h3⟩
    refine ⟨h1, fun i hi => ?_⟩
    have := h2 i hi
    have h4 := h3 ds[i] (List.getElem_mem _)
    rw [stepB_get _ _ _ _ _ hi] at this ⊢
    simp only [Bool.and_eq_true, Bool.false_or, decide_eq_true_eq] at this ⊢
    refine ⟨⟨this.1, ?_⟩, this.2⟩
    simpa [posB] using h4
theorem risB_ms (l : List Int) : risB l (-31) 31 = listB mdOk inLt 0 l := by
  unfold risB; exact listB_congr _ _ _ _ _ fun x => by unfold mdOk; rw [Bool.and_comm]
theorem risB_ys (l : List Int) : risB l 1 12 = listB moOk inLt 0 l := by
  unfold risB; refine listB_congr _ _ _ _ _ fun x => ?_
  unfold moOk
  rw [Bool.eq_iff_iff, Bool.and_eq_true, btw_iff, bne_iff_ne]
  constructor
  · exact fun h => h.1
  · intro h; exact ⟨h, by omega⟩
theorem isR_eq (r : T) : isR r = isB r := by
  unfold isR
  by_cases h0 : r.fr = 0
  · rw [if_pos h0, isB_0 r h0]
  rw [if_neg h0, isB_1 r h0]
  unfold recB
  cases hr : rangeB r
  · rw [if_pos rfl]; rfl
  have hf := rangeB_fr r hr
  rw [if_neg (by simp), Bool.true_and, risB_ms, risB_ys]
  have h4 : r.fr = 1 ∨ r.fr = 2 ∨ r.fr = 3 ∨ r.fr = 4 := by omega
  unfold wellB
  cases hm : (listB mdOk inLt 0 r.ms && listB moOk inLt 0 r.ys)
  · simp
  rcases h4 with e | e | e | e
  · rw [decide_eq_false (by omega), byDayB_neg]
    simp [suitB, e]
  · rw [decide_eq_false (by omega), byDayB_neg]
    rcases Nat.eq_zero_or_pos r.ms.length with h | h
    · have : r.ms = [] := List.eq_nil_of_length_eq_zero h
      simp [suitB, e, this]
    · have h2 : r.ms ≠ [] := by intro hc; rw [hc] at h; simp at h
      simp [suitB, e, h, h2]
  · rw [decide_eq_true (by omega), byDayB_pos]
    simp [suitB, e]
  · rw [decide_eq_true (by omega), byDayB_pos]
    simp [suitB, e]

/-- the place of a day. -/
structure P where
  mo : Int
  dy : Int
  de : Int
  wd : Int
  po : Int
  pe : Int
end Go.Proofs.YtlmdceeeahnkcaaGreatDoor.Rul
namespace Go.Proofs.YtlmdceeeahnkcaaGreatDoor
open Go.RowKit

/-- a digit's byte; a text out of its bytes. -/
def dg (d : Nat) : UInt8 := UInt8.ofNat (48 + d)
def str (l : List UInt8) : ByteArray := ⟨l.toArray⟩
theorem str_size (l : List UInt8) : (str l).size = l.length := by simp [str, ByteArray.size]
theorem str_list (l : List UInt8) : (str l).data.toList = l := by simp [str]
/-- two digits of a number below a hundred. -/
def two (u : Nat) : List UInt8 := [dg (u / 10), dg (u % 10)]
theorem ret_str {a b : ByteArray} (h : a = b) : Ending.returned (.string a) = .returned (.string b) := by rw [h]
theorem str_tl (l : List UInt8) : (str l).toList = l := by rw [ByteArray.toList_eq]; simp [str]

end Go.Proofs.YtlmdceeeahnkcaaGreatDoor
namespace Go.Proofs.YtlmdceeeahnkcaaGreatDoor.Rt
open Go.Proofs.YtlmdceeeahnkcaaGreatDoor Rul

abbrev Tx := List UInt8
def dgt (c : UInt8) : Bool := decide (48 ≤ c.toNat ∧ c.toNat ≤ 57)
def vl (l : Tx) : Nat := l.foldl (fun a c => 10 * a + (c.toNat - 48)) 0
theorem vl_snoc (l : Tx) (c : UInt8) : vl (l ++ [c]) = 10 * vl l + (c.toNat - 48) := by simp [vl, List.foldl_append]
theorem dgt_iff (c : UInt8) : dgt c = true ↔ 48 ≤ c.toNat ∧ c.toNat ≤ 57 := by simp [dgt]
theorem byte_of (d : Nat) (h : d < 10) : (UInt8.ofNat (48 + d)).toNat = 48 + d := by rw [UInt8.toNat_ofNat']; omega
theorem dec_small (u : Nat) (h : u < 10) : Lib.decDigits u = [UInt8.ofNat (48 + u)] := by rw [Lib.decDigits, dif_pos h]
theorem dec_big (u : Nat) (h : ¬ u < 10) : Lib.decDigits u = Lib.decDigits (u / 10) ++ [UInt8.ofNat (48 + u % 10)] := by rw [Lib.decDigits, dif_neg h]
theorem dec_ne (u : Nat) : Lib.decDigits u ≠ [] := by
  by_cases h : u < 10
  · rw [dec_small u h]; simp
  · rw [dec_big u h]; simp
theorem dec_all : ∀ u : Nat, (Lib.decDigits u).all dgt = true
  | u => by
    by_cases h : u < 10
    · rw [dec_small u h]; simp [dgt_iff]; omega
    · rw [dec_big u h, List.all_append, dec_all (u / 10)]
      simp [dgt_iff]; omega
 termination_by u => u
 decreasing_by omega
theorem vl_dec : ∀ u : Nat, vl (Lib.decDigits u) = u
  | u => by
    by_cases h : u < 10
    · rw [dec_small u h]
      show 10 * 0 + ((UInt8.ofNat (48 + u)).toNat - 48) = u
      rw [byte_of u h]; omega
    · rw [dec_big u h, vl_snoc, vl_dec (u / 10), byte_of _ (by omega)]; omega
 termination_by u => u
 decreasing_by omega
theorem vl_lt : ∀ (k : Nat) (l : Tx), l.length = k → l.all dgt = true → vl l < 10 ^ k
  | 0, l, hk, _ => by rw [List.eq_nil_of_length_eq_zero hk]; decide
  | k + 1, l, hk, h => by
    rcases List.eq_nil_or_concat l with rfl | ⟨m, c, rfl⟩
    · simp at hk
    rw [List.concat_eq_append] at *
    rw [List.all_append, Bool.and_eq_true] at h
    have hc : dgt c = true := by simpa using h.2
    have hcb := (dgt_iff c).1 hc
    have ih := vl_lt k m (by simpa using hk) h.1
    rw [vl_snoc, Nat.pow_succ]; omega
theorem dec_len : ∀ (k u : Nat), u < 10 ^ (k + 1) → (Lib.decDigits u).length ≤ k + 1
  | 0, u, h => by rw [dec_small u (by simpa using h)]; simp
  | k + 1, u, h => by
    by_cases hu : u < 10
    · rw [dec_small u hu]; simp
    · rw [dec_big u hu, List.length_append]
      have := dec_len k (u / 10) (by rw [Nat.pow_succ] at h; omega)
      simp only [List.length_cons, List.length_nil]; omega

/-- the bytes of a number's text. -/
def numc (c : UInt8) : Bool := dgt c || c == 45
theorem itoa_nn (u : Nat) : Lib.itoa (u : Int) = Lib.decDigits u := by unfold Lib.itoa; rw [if_neg (by omega)]; simp
theorem itoa_ng (n : Int) (h : n < 0) : Lib.itoa n = 45 :: Lib.decDigits n.natAbs := by unfold Lib.itoa; rw [if_pos h]
theorem itoa_pos (n : Int) (h : 0 ≤ n) : Lib.itoa n = Lib.decDigits n.toNat := by unfold Lib.itoa; rw [if_neg (by omega)]
theorem itoa_ne (n : Int) : Lib.itoa n ≠ [] := by unfold Lib.itoa; split; simp; exact dec_ne _
theorem itoa_chars (n : Int) : (Lib.itoa n).all numc = true := by
  have h : ∀ u, (Lib.decDigits u).all numc = true := fun u => by
    rw [List.all_eq_true]; intro c hc
    have := List.all_eq_true.1 (dec_all u) c hc
    simp [numc, this]
  unfold Lib.itoa; split
  · rw [List.all_cons, h]; rfl
  · exact h _
theorem dgt_45 (c : UInt8) (h : dgt c = true) : c ≠ 45 := by intro e; subst e; revert h; decide
theorem itoa_inj (n m : Int) (h : Lib.itoa n = Lib.itoa m) : n = m := by
  have hd : ∀ (u : Nat) (r : Tx), Lib.decDigits u ≠ 45 :: r := fun u r e => by
    have := dec_all u
    rw [e, List.all_cons, Bool.and_eq_true] at this
    exact dgt_45 45 this.1 rfl
  unfold Lib.itoa at h
  by_cases h1 : n < 0 <;> by_cases h2 : m < 0
  · rw [if_pos h1, if_pos h2] at h
    injection h with _ h
    have e1 := vl_dec n.natAbs
    rw [h, vl_dec] at e1; omega
  · rw [if_pos h1, if_neg h2] at h; exact absurd h.symm (hd _ _)
  · rw [if_neg h1, if_pos h2] at h; exact absurd h (hd _ _)
  · rw [if_neg h1, if_neg h2] at h
    have e1 := vl_dec n.toNat
    rw [h, vl_dec] at e1; omega

def in64 (n : Int) : Prop := -9223372036854775808 ≤ n ∧ n ≤ 9223372036854775807
theorem uint_ok : ∀ (l : Tx) (a : Nat), l.all dgt = true → l.foldl (fun a c => 10 * a + (c.toNat - 48)) a < 18446744073709551616 → Lib.parseUint10 a l = .ok (l.foldl (fun a c => 10 * a + (c.toNat - 48)) a)
  | [], a, _, _ => rfl
  | c :: r, a, h, hl => by
    rw [List.all_cons, Bool.and_eq_true] at h
    have hc := (dgt_iff c).1 h.1
    have hmono : ∀ (l : Tx) (a : Nat), a ≤ l.foldl (fun a c => 10 * a + (c.toNat - 48)) a := fun l => by
      induction l with
      | nil => intro a; exact Nat.le_refl _
      | cons d l ih => intro a; have := ih (10 * a + (d.toNat - 48)); rw [List.foldl_cons]; omega
    have hm := hmono r (10 * a + (c.toNat - 48))
    rw [List.foldl_cons] at hl ⊢
    unfold Lib.parseUint10
    rw [if_pos hc, if_neg (by omega), if_neg (by omega), Nat.mul_comm a 10]
    exact uint_ok r _ h.2 hl
theorem mag_dec (u : Nat) (h : u < 18446744073709551616) : Lib.parseMag (Lib.decDigits u) = .ok u := by
  unfold Lib.parseMag
  rw [if_neg (dec_ne u)]
  have e : (Lib.decDigits u).foldl (fun a c => 10 * a + (c.toNat - 48)) 0 = u := vl_dec u
  have := uint_ok (Lib.decDigits u) 0 (dec_all u) (by rw [e]; exact h)
  rw [e] at this
  exact this
theorem atoi_itoa (n : Int) (h : in64 n) : Lib.atoiAll (Lib.itoa n) = .ok n := by
  obtain ⟨h1, h2⟩ := h
  by_cases hn : n < 0
  · rw [itoa_ng n hn, Lib.atoiAll_minus, mag_dec _ (by omega)]
    simp only [Lib.signed]
    rw [if_neg (by omega)]
    congr 1; omega
  · rw [itoa_pos n (by omega)]
    obtain ⟨c, r, e⟩ : ∃ c r, Lib.decDigits n.toNat = c :: r := List.exists_cons_of_ne_nil (dec_ne _)
    have ha := dec_all n.toNat
    rw [e, List.all_cons, Bool.and_eq_true] at ha
    have hc := (dgt_iff c).1 ha.1
    rw [e, Lib.atoiAll_plain c r (by omega) (by omega), ← e, mag_dec _ (by omega)]
    simp only [Lib.signless]
    rw [if_neg (by omega)]
    congr 1; omega
end Go.Proofs.YtlmdceeeahnkcaaGreatDoor.Rt
namespace Go.Proofs.YtlmdceeeahnkcaaGreatDoor.Rt
open Go.Proofs.YtlmdceeeahnkcaaGreatDoor Rul

/-- what is put together of pieces without c is cut into them. -/
def joinAt (c : UInt8) : List Tx → Tx
  | [] => []
  | [p] => p
  | p :: q :: r => p ++ c :: joinAt c (q :: r)
theorem joinAt_cons (c : UInt8) (p : Tx) (r : List Tx) (h : r ≠ []) : joinAt c (p :: r) = p ++ c :: joinAt c r := by
  cases r with
  | nil => exact absurd rfl h
  | cons q r => rfl
theorem join_lib (c : UInt8) : ∀ ps : List Tx, Lib.join ps [c] = joinAt c ps
  | [] => rfl
  | [p] => Lib.join_one p _
  | p :: q :: r => by
    rw [joinAt, ← join_lib c (q :: r), Lib.join_cons, Lib.join_cons]
    simp [Lib.joinTail]
theorem join_snoc (c : UInt8) (p : Tx) : ∀ ps : List Tx, ps ≠ [] → joinAt c (ps ++ [p]) = joinAt c ps ++ c :: p
  | [], h => absurd rfl h
  | [q], _ => rfl
  | q :: x :: r, _ => by
    rw [List.cons_append, joinAt_cons c q _ (by simp), join_snoc c p (x :: r) (by simp), joinAt]; simp

/-- the library's words. -/
theorem index_hit (c : UInt8) (q : Tx) : ∀ p : Tx, c ∉ p → Lib.index (p ++ c :: q) [c] = (p.length : Int)
  | [], _ => by rw [List.nil_append, Lib.index]; simp [List.isPrefixOf]
  | b :: p, h => by
    have hb : b ≠ c := fun e => h (e ▸ List.mem_cons_self)
    have hp : ([c] : Tx).isPrefixOf (b :: (p ++ c :: q)) = false := by simp [List.isPrefixOf, Ne.symm hb]
    have ih := index_hit c q p fun g => h (List.mem_cons_of_mem _ g)
    rw [List.cons_append, Lib.index, hp, ih]
    simp only [Bool.false_eq_true, if_false]
    rw [if_neg (by rw [beq_iff_eq]; omega)]
    simp
theorem index_miss (c : UInt8) : ∀ l : Tx, c ∉ l → Lib.index l [c] = -1
  | [], _ => by simp [Lib.index]
  | b :: l, h => by
    have hb : b ≠ c := fun e => h (e ▸ List.mem_cons_self)
    have hp : ([c] : Tx).isPrefixOf (b :: l) = false := by simp [List.isPrefixOf, Ne.symm hb]
    rw [Lib.index, hp, index_miss c l fun g => h (List.mem_cons_of_mem _ g)]
    simp
theorem split_at (c : UInt8) : ∀ l : Tx, c ∈ l → ∃ p q, l = p ++ c :: q ∧ c ∉ p
  | [], h => by simp at h
  | b :: l, h => by
    by_cases hb : b = c
    · exact ⟨[], l, by rw [hb]; rfl, by simp⟩
    · obtain ⟨p, q, e, hp⟩ := split_at c l (by rcases List.mem_cons.1 h with g | g; exact absurd g.symm hb; exact g)
      exact ⟨b :: p, q, by rw [e]; rfl, by intro g; rcases List.mem_cons.1 g with g | g; exact hb g.symm; exact hp g⟩
theorem cut_hit (c : UInt8) (p q : Tx) (h : c ∉ p) : Lib.cut (p ++ c :: q) [c] = (p, q, true) := by
  unfold Lib.cut
  rw [index_hit c q p h, if_pos (by omega), Int.toNat_natCast]
  simp
theorem cut_miss (c : UInt8) (l : Tx) (h : c ∉ l) : Lib.cut l [c] = (l, [], false) := by
  unfold Lib.cut
  rw [index_miss c l h, if_neg (by omega)]
end Go.Proofs.YtlmdceeeahnkcaaGreatDoor.Rt
namespace Go.Proofs.YtlmdceeeahnkcaaGreatDoor.Rt
open Go.Proofs.YtlmdceeeahnkcaaGreatDoor Rul

section
variable {α β : Type}
/-- an order in which no two unlike ones are alike. -/
structure Ord (lt : α → α → Bool) : Prop where
  irr : ∀ a, lt a a = false
  tr : ∀ a b c, lt a b = true → lt b c = true → lt a c = true
  tot : ∀ a b, lt a b = false → lt b a = false → a = b
def strict (lt : α → α → Bool) (l : List α) : Prop := l.Pairwise fun a b => lt a b = true
/-- what a rule asks of a list. -/
theorem listB_iff {p : α → Bool} {lt : α → α → Bool} (o : Ord lt) (d : α) (l : List α) : listB p lt d l = true ↔ l.length ≤ 12 ∧ (∀ x ∈ l, p x = true) ∧ strict lt l := by
  unfold listB
  rw [Bool.and_eq_true, decide_eq_true_eq, ascB_iff]
  constructor
  · rintro ⟨h1, h2⟩
    have hp : ∀ x ∈ l, p x = true := fun x hx => by
      obtain ⟨i, hi, rfl⟩ := List.mem_iff_getElem.1 hx
      have := h2 i hi
      rw [stepB_get _ _ _ _ _ hi, Bool.and_eq_true] at this
      exact this.1
    have hs : ∀ i (hi : i + 1 < l.length), lt l[i] l[i + 1] = true := fun i hi => by
      have := h2 (i + 1) hi
      rw [stepB_succ _ _ _ _ _ hi, Bool.and_eq_true] at this
      exact this.2
    refine ⟨h1, hp, List.pairwise_iff_getElem.2 fun i j hi hj hij => ?_⟩
    obtain ⟨k, rfl⟩ : ∃ k, j = i + 1 + k := ⟨j - (i + 1), by omega⟩
    clear hij
    induction k with
    | zero => exact hs i hj
    | succ k ih => exact o.tr _ _ _ (ih (by omega)) (hs (i + 1 + k) hj)
  · rintro ⟨h1, h2, h3⟩
    refine ⟨h1, fun i hi => ?_⟩
    rw [stepB_get _ _ _ _ _ hi, h2 _ (List.getElem_mem _), Bool.true_and]
    cases i with
    | zero => rfl
    | succ i =>
      have := List.pairwise_iff_getElem.1 h3 i (i + 1) (by omega) hi (by omega)
      rw [show i + 1 - 1 = i from rfl, getD_at d l i (by omega), this]; simp
end

theorem ordI : Ord inLt where
  irr a := by simp [inLt]
  tr a b c h k := by simp only [inLt, decide_eq_true_eq] at *; omega
  tot a b h k := by simp only [inLt, decide_eq_false_iff_not] at *; omega
end Go.Proofs.YtlmdceeeahnkcaaGreatDoor.Rt
namespace Go.Proofs.YtlmdceeeahnkcaaGreatDoor.Ev
open Go.Proofs.YtlmdceeeahnkcaaGreatDoor Rul Rt

/-- an event. -/
structure E where
  uid : Tx
  text : Tx
  st : Int
  lg : Int
  rooms : List Int
  r : Rul.T
  ex : List Int

def uidI (x : Int) : Bool := btw 97 x 122 || (btw 65 x 90 || (btw 48 x 57 || x == 45))
def textI (x : Int) : Bool := btw 32 x 126 || x == 10
def uidC (c : UInt8) : Bool := uidI (c.toNat : Int)
def textC (c : UInt8) : Bool := textI (c.toNat : Int)
def uidB (s : Tx) : Bool := decide (1 ≤ s.length ∧ s.length ≤ 12) && s.all uidC
def textB (s : Tx) : Bool := decide (s.length ≤ 40) && s.all textC
def minB (n : Int) : Bool := decide (0 ≤ n ∧ n < 52596000)
def lgB (n : Int) : Bool := btw 1 n 10080
def roomB (n : Int) : Bool := btw 0 n 7
def roomsB (l : List Int) : Bool := decide (1 ≤ l.length ∧ l.length ≤ 4) && ascB roomB inLt 0 l
def exB (l : List Int) : Bool := listB minB inLt 0 l
def wordsB (e : E) : Bool := uidB e.uid && textB e.text
def freeB (e : E) : Bool := decide (e.ex.length = 0) || !sameB e.r once
def timesB (e : E) : Bool := minB e.st && (lgB e.lg && (isB e.r && (exB e.ex && freeB e)))
def isE (e : E) : Bool := wordsB e && (timesB e && roomsB e.rooms)
def sameE (a b : E) : Bool := decide (a.uid = b.uid) && (decide (a.text = b.text) && (decide (a.st = b.st) && (decide (a.lg = b.lg) && (sameB a.r b.r && (decide (a.ex = b.ex) && decide (a.rooms = b.rooms))))))
theorem sameE_iff (a b : E) : sameE a b = true ↔ a = b := by
  obtain ⟨u, t, s, l, o, r, x⟩ := a
  obtain ⟨u', t', s', l', o', r', x'⟩ := b
  simp only [sameE, Bool.and_eq_true, decide_eq_true_eq, sameB_iff, E.mk.injEq]
  exact ⟨fun ⟨a, b, c, d, e, f, g⟩ => ⟨a, b, c, d, g, e, f⟩, fun ⟨a, b, c, d, g, e, f⟩ => ⟨a, b, c, d, e, f, g⟩⟩
theorem sameE_self (a : E) : sameE a a = true := (sameE_iff a a).2 rfl
theorem sameE_no {a b : E} (h : a ≠ b) : sameE a b = false := by
  rw [Bool.eq_false_iff]; exact fun g => h ((sameE_iff a b).1 g)

/-- what is asked of an event that is one, part by part. -/
structure Is (e : E) : Prop where
  uid : uidB e.uid = true
  text : textB e.text = true
  st : minB e.st = true
  lg : lgB e.lg = true
  r : isB e.r = true
  ex : exB e.ex = true
  free : e.ex = [] ∨ e.r ≠ once
  rooms : roomsB e.rooms = true
theorem isE_iff (e : E) : isE e = true ↔ Is e := by
  have hf : freeB e = true ↔ (e.ex = [] ∨ e.r ≠ once) := by
    unfold freeB
    rw [Bool.or_eq_true, decide_eq_true_eq, List.length_eq_zero_iff, Bool.not_eq_true', ← Bool.not_eq_true, sameB_iff]
  unfold isE wordsB timesB
  simp only [Bool.and_eq_true, hf]
  exact ⟨fun ⟨⟨a, b⟩, ⟨c, d, e, f, g⟩, h⟩ => ⟨a, b, c, d, e, f, g, h⟩, fun h => ⟨⟨h.uid, h.text⟩, ⟨h.st, h.lg, h.r, h.ex, h.free⟩, h.rooms⟩⟩

theorem uidB_len {s : Tx} (h : uidB s = true) : 1 ≤ s.length ∧ s.length ≤ 12 := by
  unfold uidB at h; rw [Bool.and_eq_true, decide_eq_true_eq] at h; exact h.1
theorem textB_len {s : Tx} (h : textB s = true) : s.length ≤ 40 := by
  unfold textB at h; rw [Bool.and_eq_true, decide_eq_true_eq] at h; exact h.1
theorem minB_iff (n : Int) : minB n = true ↔ 0 ≤ n ∧ n < 52596000 := by unfold minB; exact decide_eq_true_iff
theorem asc_iff (p : Int → Bool) (l : List Int) (h : l.length ≤ 12) : ascB p inLt 0 l = true ↔ (∀ x ∈ l, p x = true) ∧ strict inLt l := by
  have := listB_iff (p := p) ordI 0 l
  unfold listB at this
  rw [decide_eq_true h, Bool.true_and] at this
  rw [this]
  exact ⟨fun g => g.2, fun g => ⟨h, g⟩⟩
theorem roomsB_iff (l : List Int) : roomsB l = true ↔ (1 ≤ l.length ∧ l.length ≤ 4) ∧ (∀ x ∈ l, roomB x = true) ∧ strict inLt l := by
  unfold roomsB
  rw [Bool.and_eq_true, decide_eq_true_eq]
  constructor
  · rintro ⟨h, g⟩; exact ⟨h, (asc_iff roomB l (by omega)).1 g⟩
  · rintro ⟨h, g⟩; exact ⟨h, (asc_iff roomB l (by omega)).2 g⟩

def e0 : E := ⟨[], [], 0, 0, [], once, []⟩
end Go.Proofs.YtlmdceeeahnkcaaGreatDoor.Ev
namespace Go.Proofs.YtlmdceeeahnkcaaGreatDoor.Ev
open Go.Proofs.YtlmdceeeahnkcaaGreatDoor Rul Rt

theorem no_of {e : E} (h : ¬ Is e) : isE e = false := by rw [Bool.eq_false_iff]; exact fun g => h ((isE_iff e).1 g)
end Go.Proofs.YtlmdceeeahnkcaaGreatDoor.Ev

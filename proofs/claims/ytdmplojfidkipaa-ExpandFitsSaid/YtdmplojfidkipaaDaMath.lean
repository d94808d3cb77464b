/- Plain facts of the periods of a rule and of its days: no word of a program. -/
import Derived.Test.YtdmplojfidkipaaRuMath
namespace Go.Proofs.Ytdmplojfidkipaa.Rul
open Go.Proofs.Ytdmplojfidkipaa

/-- the first day of a month from 2000 on; behind all days where there is none. -/
def fE (y m : Int) : Int := if y ≤ 2099 then Cal.num y m 1 else 36525
theorem isB_first (y m : Int) (h1 : 1 ≤ m) (h2 : m ≤ 12) : Cal.isB y m 1 = true := by
  have := Cal.dim_pos y m h1 h2
  rw [Cal.isB_iff]; omega
theorem fE_in (y m : Int) (h : y ≤ 2099) : fE y m = Cal.num y m 1 := by unfold fE; rw [if_pos h]
theorem fE_out (y m : Int) (h : 2099 < y) : fE y m = 36525 := by unfold fE; rw [if_neg (by omega)]
theorem fE_lt (y m : Int) (h0 : 2000 ≤ y) (h : y ≤ 2099) (h1 : 1 ≤ m) (h2 : m ≤ 12) : 0 ≤ fE y m ∧ fE y m < 36525 := by
  rw [fE_in y m h]; exact Cal.num_bd y m 1 h0 h (isB_first y m h1 h2)
theorem fE_bd (y m : Int) (h0 : 2000 ≤ y) (h1 : 1 ≤ m) (h2 : m ≤ 12) : 0 ≤ fE y m ∧ fE y m ≤ 36525 := by
  by_cases h : y ≤ 2099
  · have := fE_lt y m h0 h h1 h2; omega
  · rw [fE_out y m (by omega)]; omega
theorem fE_year_in (y m : Int) (_h0 : 2000 ≤ y) (_h1 : 1 ≤ m) (_h2 : m ≤ 12) (h : fE y m < 36525) : y ≤ 2099 := by
  by_cases g : y ≤ 2099
  · exact g
  · rw [fE_out y m (by omega)] at h; omega
theorem fE_next (y m : Int) (h : y ≤ 2099) (h1 : 1 ≤ m) (h2 : m ≤ 11) : fE y (m + 1) = fE y m + Cal.dim y m := by
  rw [fE_in y m h, fE_in y (m + 1) h]
  have := Cal.cum_succ y m h1 (by omega)
  unfold Cal.num; omega
theorem fE_jan0 (y : Int) (_h0 : 2000 ≤ y) (h : y ≤ 2099) : fE (y + 1) 1 = Cal.yst (y + 1) := by
  by_cases g : y ≤ 2098
  · rw [fE_in _ _ (by omega)]; unfold Cal.num; rw [Cal.cum_one]; omega
  · obtain rfl : y = 2099 := by omega
    rw [fE_out _ _ (by omega)]; decide +kernel
theorem fE_jan (y : Int) (h0 : 2000 ≤ y) (h : y ≤ 2099) : fE (y + 1) 1 = fE y 12 + Cal.dim y 12 := by
  rw [fE_jan0 y h0 h, Cal.yst_succ y h0 h, fE_in y 12 h]
  have := Cal.cum_succ y 12 (by omega) (by omega)
  rw [show (12 : Int) + 1 = 13 from rfl] at this
  unfold Cal.num; omega
theorem fE_year (y : Int) (h0 : 2000 ≤ y) (h : y ≤ 2099) : fE (y + 1) 1 = fE y 1 + (if Cal.lpB y then 366 else 365) := by
  rw [fE_jan0 y h0 h, Cal.yst_succ y h0 h, fE_in y 1 h, Cal.cum_13]
  have e : Cal.dim y 2 = if Cal.lpB y then 29 else 28 := by simp [Cal.dim]
  rw [e]
  unfold Cal.num; rw [Cal.cum_one]
  cases Cal.lpB y <;> simp <;> omega

/-- the first day of a month, so many behind the first one. -/
def fst (m : Int) : Int := fE (2000 + m / 12) (m % 12 + 1)
theorem fst_lt (m : Int) (h0 : 0 ≤ m) (h : m < 1200) : 0 ≤ fst m ∧ fst m < 36525 := fE_lt _ _ (by omega) (by omega) (by omega) (by omega)
theorem fst_out (m : Int) (h : 1200 ≤ m) : fst m = 36525 := fE_out _ _ (by omega)
theorem fst_bd (m : Int) (h0 : 0 ≤ m) : 0 ≤ fst m ∧ fst m ≤ 36525 := fE_bd _ _ (by omega) (by omega) (by omega)
theorem fst_in (m : Int) (_h0 : 0 ≤ m) (h : fst m < 36525) : m < 1200 := by
  by_cases g : m < 1200
  · exact g
  · rw [fst_out m (by omega)] at h; omega
theorem fst_next (m : Int) (h0 : 0 ≤ m) (h : m < 1200) : fst (m + 1) = fst m + Cal.dim (2000 + m / 12) (m % 12 + 1) := by
  unfold fst
  by_cases g : m % 12 < 11
  · rw [show (m + 1) / 12 = m / 12 by omega, show (m + 1) % 12 + 1 = m % 12 + 1 + 1 by omega]
    exact fE_next _ _ (by omega) (by omega) (by omega)
  · rw [show (2000 + (m + 1) / 12 : Int) = 2000 + m / 12 + 1 by omega, show (m + 1) % 12 + 1 = 1 by omega, show m % 12 + 1 = 12 by omega]
    exact fE_jan _ (by omega) (by omega)
theorem fst_jan (j : Int) : fst (12 * j) = fE (2000 + j) 1 := by
  unfold fst; rw [show (12 * j) / 12 = j by omega, show (12 * j) % 12 + 1 = 1 by omega]
theorem fst_step (m : Int) (h0 : 0 ≤ m) : fst m ≤ fst (m + 1) := by
  by_cases h : m < 1200
  · rw [fst_next m h0 h]; have := Cal.dim_bd (2000 + m / 12) (m % 12 + 1); omega
  · rw [fst_out m (by omega), fst_out (m + 1) (by omega)]; exact Int.le_refl _
theorem fst_up (m : Int) (h0 : 0 ≤ m) (k : Nat) : fst m ≤ fst (m + k) := by
  induction k with
  | zero => simp
  | succ k ih =>
    have := fst_step (m + k) (by omega)
    rw [show m + ((k + 1 : Nat) : Int) = m + k + 1 by omega]
    omega
theorem fst_mono (m m' : Int) (h0 : 0 ≤ m) (h : m ≤ m') : fst m ≤ fst m' := by
  have := fst_up m h0 (m' - m).toNat
  rw [show m + (((m' - m).toNat : Nat) : Int) = m' by omega] at this
  exact this

/-- a period's first day, the day behind its last one: not cut. -/
def pA (fr s n : Int) : Int :=
  if fr = 1 then s + n else if fr = 2 then s - Cal.wday s + n * 7 else if fr = 3 then fst (12 * (Cal.yOf s - 2000) + (Cal.mOf s - 1) + n) else fst (12 * (Cal.yOf s - 2000 + n))
def pB (fr s n : Int) : Int :=
  if fr = 1 then s + n + 1 else if fr = 2 then s - Cal.wday s + n * 7 + 7 else if fr = 3 then fst (12 * (Cal.yOf s - 2000) + (Cal.mOf s - 1) + n + 1) else fst (12 * (Cal.yOf s - 2000 + n) + 12)
theorem pA_1 (s n : Int) : pA 1 s n = s + n := by simp [pA]
theorem pA_2 (s n : Int) : pA 2 s n = s - Cal.wday s + n * 7 := by simp [pA]
theorem pA_3 (s n : Int) : pA 3 s n = fst (12 * (Cal.yOf s - 2000) + (Cal.mOf s - 1) + n) := by simp [pA]
theorem pA_4 (s n : Int) : pA 4 s n = fst (12 * (Cal.yOf s - 2000 + n)) := by simp [pA]
theorem pB_1 (s n : Int) : pB 1 s n = s + n + 1 := by simp [pB]
theorem pB_2 (s n : Int) : pB 2 s n = s - Cal.wday s + n * 7 + 7 := by simp [pB]
theorem pB_3 (s n : Int) : pB 3 s n = fst (12 * (Cal.yOf s - 2000) + (Cal.mOf s - 1) + n + 1) := by simp [pB]
theorem pB_4 (s n : Int) : pB 4 s n = fst (12 * (Cal.yOf s - 2000 + n) + 12) := by simp [pB]
theorem fr_cases (fr : Int) (h1 : 1 ≤ fr) (h2 : fr ≤ 4) : fr = 1 ∨ fr = 2 ∨ fr = 3 ∨ fr = 4 := by omega
theorem mS (s : Int) (h0 : 0 ≤ s) (h : s < 36525) : 0 ≤ 12 * (Cal.yOf s - 2000) + (Cal.mOf s - 1) ∧ 12 * (Cal.yOf s - 2000) + (Cal.mOf s - 1) < 1200 ∧ 0 ≤ Cal.yOf s - 2000 := by
  have a := Cal.yOf_bd s h0 h
  have b := Cal.mOf_bd s
  omega
theorem pB_next (fr s n : Int) (h1 : 1 ≤ fr) (h2 : fr ≤ 4) : pB fr s n = pA fr s (n + 1) := by
  rcases fr_cases fr h1 h2 with rfl | rfl | rfl | rfl
  · rw [pB_1, pA_1]; omega
  · rw [pB_2, pA_2]; omega
  · rw [pB_3, pA_3]; congr 1; omega
  · rw [pB_4, pA_4]; congr 1; omega
theorem pA_mono (fr s n n' : Int) (h1 : 1 ≤ fr) (h2 : fr ≤ 4) (s0 : 0 ≤ s) (s1 : s < 36525) (n0 : 0 ≤ n) (h : n ≤ n') : pA fr s n ≤ pA fr s n' := by
  have m := mS s s0 s1
  rcases fr_cases fr h1 h2 with rfl | rfl | rfl | rfl
  · rw [pA_1, pA_1]; omega
  · rw [pA_2, pA_2]; omega
  · rw [pA_3, pA_3]; exact fst_mono _ _ (by omega) (by omega)
  · rw [pA_4, pA_4]; exact fst_mono _ _ (by omega) (by omega)
theorem pA_lo (fr s n : Int) (h1 : 1 ≤ fr) (h2 : fr ≤ 4) (s0 : 0 ≤ s) (s1 : s < 36525) (n0 : 0 ≤ n) : -6 ≤ pA fr s n := by
  have m := mS s s0 s1
  have w := Cal.wday_bd s
  rcases fr_cases fr h1 h2 with rfl | rfl | rfl | rfl
  · rw [pA_1]; omega
  · rw [pA_2]; omega
  · rw [pA_3]; have := fst_bd (12 * (Cal.yOf s - 2000) + (Cal.mOf s - 1) + n) (by omega); omega
  · rw [pA_4]; have := fst_bd (12 * (Cal.yOf s - 2000 + n)) (by omega); omega
theorem pA_hi (fr s n : Int) (h1 : 1 ≤ fr) (h2 : fr ≤ 4) (s0 : 0 ≤ s) (s1 : s < 36525) (n0 : 0 ≤ n) (n1 : n ≤ 4000000) : pA fr s n ≤ 30000000 := by
  have m := mS s s0 s1
  have w := Cal.wday_bd s
  rcases fr_cases fr h1 h2 with rfl | rfl | rfl | rfl
  · rw [pA_1]; omega
  · rw [pA_2]; omega
  · rw [pA_3]; have := fst_bd (12 * (Cal.yOf s - 2000) + (Cal.mOf s - 1) + n) (by omega); omega
  · rw [pA_4]; have := fst_bd (12 * (Cal.yOf s - 2000 + n)) (by omega); omega
theorem fst_jan_next (j : Int) (h0 : 0 ≤ j) (h : fst (12 * j) < 36525) : fst (12 * j + 12) = fst (12 * j) + (if Cal.lpB (2000 + j) then 366 else 365) := by
  have := fst_in _ (by omega) h
  rw [show 12 * j + 12 = 12 * (j + 1) by omega, fst_jan, fst_jan, show 2000 + (j + 1) = 2000 + j + 1 by omega]
  exact fE_year _ (by omega) (by omega)
/-- how long a period is. -/
theorem pB_bd (fr s n : Int) (h1 : 1 ≤ fr) (h2 : fr ≤ 4) (s0 : 0 ≤ s) (s1 : s < 36525) (n0 : 0 ≤ n) (h : pA fr s n < 36525) : pA fr s n < pB fr s n ∧ pB fr s n ≤ pA fr s n + 366 ∧ 1 ≤ pB fr s n := by
  have m := mS s s0 s1
  have w := Cal.wday_bd s
  rcases fr_cases fr h1 h2 with rfl | rfl | rfl | rfl
  · rw [pA_1, pB_1]; omega
  · rw [pA_2, pB_2]; omega
  · rw [pA_3] at h ⊢; rw [pB_3]
    have b := fst_bd (12 * (Cal.yOf s - 2000) + (Cal.mOf s - 1) + n) (by omega)
    have i := fst_in _ (by omega) h
    rw [fst_next _ (by omega) i]
    have d := Cal.dim_pos (2000 + (12 * (Cal.yOf s - 2000) + (Cal.mOf s - 1) + n) / 12) ((12 * (Cal.yOf s - 2000) + (Cal.mOf s - 1) + n) % 12 + 1) (by omega) (by omega)
    have d2 := Cal.dim_bd (2000 + (12 * (Cal.yOf s - 2000) + (Cal.mOf s - 1) + n) / 12) ((12 * (Cal.yOf s - 2000) + (Cal.mOf s - 1) + n) % 12 + 1)
    omega
  · rw [pA_4] at h ⊢; rw [pB_4]
    have b := fst_bd (12 * (Cal.yOf s - 2000 + n)) (by omega)
    rw [fst_jan_next _ (by omega) h]
    split <;> omega

/-- is there such a period? Its first day, the day behind its last one. -/
def perK (r : T) (s k : Int) : Bool := dayB s && (recB r && (decide (0 ≤ k ∧ k < 36525) && decide (pA r.fr s (r.ev * k) < 36525)))
def perA (r : T) (s k : Int) : Int := if perK r s k then max (pA r.fr s (r.ev * k)) 0 else 0
def perB (r : T) (s k : Int) : Int := if perK r s k then min (pB r.fr s (r.ev * k)) 36525 else 0
theorem recB_ev (r : T) (h : recB r = true) : 1 ≤ r.ev ∧ r.ev ≤ 100 := by
  unfold recB rangeB at h
  simp only [Bool.and_eq_true, btw_iff] at h
  exact h.1.2.1
theorem perK_iff (r : T) (s k : Int) : perK r s k = true ↔ (0 ≤ s ∧ s < 36525) ∧ recB r = true ∧ (0 ≤ k ∧ k < 36525) ∧ pA r.fr s (r.ev * k) < 36525 := by
  unfold perK dayB; simp only [Bool.and_eq_true, decide_eq_true_eq]
theorem ev_mul (ev k : Int) (h1 : 1 ≤ ev) (h2 : ev ≤ 100) (k0 : 0 ≤ k) (k1 : k < 36525) : 0 ≤ ev * k ∧ ev * k ≤ 3652400 ∧ k ≤ ev * k := by
  have a : 0 ≤ ev * k := Int.mul_nonneg (by omega) k0
  have b : ev * k ≤ 100 * k := Int.mul_le_mul_of_nonneg_right h2 k0
  have c : 1 * k ≤ ev * k := Int.mul_le_mul_of_nonneg_right h1 k0
  omega
/-- what a period's bounds are. -/
theorem per_bd (r : T) (s k : Int) (h : perK r s k = true) : 0 ≤ perA r s k ∧ perA r s k < perB r s k ∧ perB r s k ≤ 36525 ∧ perB r s k ≤ perA r s k + 366 := by
  obtain ⟨hs, hr, hk, ha⟩ := (perK_iff r s k).1 h
  have f := recB_fr r hr
  have e := recB_ev r hr
  have n := ev_mul r.ev k e.1 e.2 hk.1 hk.2
  have b := pB_bd r.fr s (r.ev * k) f.1 f.2 hs.1 hs.2 n.1 ha
  unfold perA perB
  rw [if_pos h, if_pos h]
  omega

/-- all days from one up to another. -/
def upto (a b : Int) : List Int := (List.range (b - a).toNat).map fun i => a + (i : Nat)
theorem upto_nil (a : Int) : upto a a = [] := by unfold upto; simp
theorem upto_succ (a b : Int) (h : a ≤ b) : upto a (b + 1) = upto a b ++ [b] := by
  unfold upto
  rw [show (b + 1 - a).toNat = (b - a).toNat + 1 by omega, List.range_succ, List.map_append]
  simp; omega
theorem upto_len (a b : Int) : (upto a b).length = (b - a).toNat := by unfold upto; simp
theorem upto_mem (a b x : Int) : x ∈ upto a b ↔ a ≤ x ∧ x < b := by
  unfold upto; simp only [List.mem_map, List.mem_range]
  constructor
  · rintro ⟨i, h, rfl⟩; omega
  · intro h; exact ⟨(x - a).toNat, by omega, by omega⟩
theorem upto_split (a m b : Int) (h1 : a ≤ m) (h2 : m ≤ b) : upto a b = upto a m ++ upto m b := by
  have : ∀ k : Nat, upto a (m + k) = upto a m ++ upto m (m + k) := by
    intro k
    induction k with
    | zero => simp [upto_nil]
    | succ k ih => rw [show m + ((k + 1 : Nat) : Int) = m + k + 1 by omega, upto_succ _ _ (by omega), upto_succ _ _ (by omega), ih, List.append_assoc]
  have h := this (b - m).toNat
  rwa [show m + (((b - m).toNat : Nat) : Int) = b by omega] at h
theorem upto_rise (a b : Int) : (upto a b).Pairwise (· < ·) := by
  unfold upto
  rw [List.pairwise_map]
  exact List.pairwise_lt_range.imp fun h => by omega

/-- what is asked of a day: the weekday, the day of the month, the month; -1: nothing. -/
def hasB (wk dy mo d : Int) : Bool := ((wk == -1) || (wk == Cal.wday d)) && (((dy == -1) || (dy == Cal.dOf d)) && ((mo == -1) || (mo == Cal.mOf d)))
def wkA (r : T) (s : Int) : Int := if 0 < r.ds.length then -1 else if r.fr = 2 then Cal.wday s else -1
def dyA (r : T) (s : Int) : Int := if 0 < r.ds.length then -1 else if 0 < r.ms.length then -1 else if r.fr = 3 ∨ r.fr = 4 then Cal.dOf s else -1
def moA (r : T) (s : Int) : Int := if 0 < r.ds.length then -1 else if 0 < r.ms.length then -1 else if r.fr = 4 ∧ r.ys.length = 0 then Cal.mOf s else -1
def ofB (r : T) (s d : Int) : Bool := hasB (wkA r s) (dyA r s) (moA r s) d && fitsB r d
def daysL (r : T) (s k : Int) : List Int := if perK r s k then (upto (perA r s k) (perB r s k)).filter (ofB r s) else []
theorem daysL_no (r : T) (s k : Int) (h : perK r s k = false) : daysL r s k = [] := by unfold daysL; rw [h]; rfl
theorem daysL_yes (r : T) (s k : Int) (h : perK r s k = true) : daysL r s k = (upto (perA r s k) (perB r s k)).filter (ofB r s) := by unfold daysL; rw [if_pos h]
theorem daysL_len (r : T) (s k : Int) : (daysL r s k).length ≤ 366 := by
  cases h : perK r s k
  · rw [daysL_no r s k h]; simp
  · rw [daysL_yes r s k h]
    have a := List.length_filter_le (ofB r s) (upto (perA r s k) (perB r s k))
    rw [upto_len] at a
    have := per_bd r s k h
    omega
theorem filter_step (p : Int → Bool) (l : List Int) (j : Nat) (h : j < l.length) : (l.take (j + 1)).filter p = (l.take j).filter p ++ (if p l[j] then [l[j]] else []) := by
  rw [List.take_succ_eq_append_getElem h, List.filter_append]
  congr 1
  cases hp : p l[j] <;> simp [hp]
theorem filter_upto (p : Int → Bool) (a b : Int) (h : a ≤ b) : (upto a (b + 1)).filter p = (upto a b).filter p ++ (if p b then [b] else []) := by
  rw [upto_succ a b h, List.filter_append]
  congr 1
  cases hp : p b <;> simp [hp]

/-- what the reference asks of a day. -/
def refB (r : T) (s d : Int) : Bool :=
  if r.fr = 2 then fitsB r d && (decide (0 < r.ds.length) || (Cal.wday d == Cal.wday s))
  else if r.fr = 3 then fitsB r d && (!(decide (r.ds.length = 0) && decide (r.ms.length = 0)) || (Cal.dOf d == Cal.dOf s))
  else if r.fr = 4 then (fitsB r d && (!(decide (r.ds.length = 0) && decide (r.ms.length = 0)) || (Cal.dOf d == Cal.dOf s))) && (decide (0 < r.ys.length) || (Cal.mOf d == Cal.mOf s))
  else fitsB r d
theorem refB_eq (r : T) (s d : Int) (hr : recB r = true) (h0 : 0 ≤ s) (h1 : s < 36525) : refB r s d = ofB r s d := by
  have f := recB_fr r hr
  have hw := Cal.wday_bd s
  have hd := Cal.dOf_bd s h0 h1
  have hm := Cal.mOf_bd s
  have e1 : (Cal.wday s == -1) = false := by rw [beq_eq_false_iff_ne]; omega
  have e2 : (Cal.dOf s == -1) = false := by rw [beq_eq_false_iff_ne]; omega
  have e3 : (Cal.mOf s == -1) = false := by rw [beq_eq_false_iff_ne]; omega
  have c1 : (Cal.wday d == Cal.wday s) = (Cal.wday s == Cal.wday d) := Bool.beq_comm
  have c2 : (Cal.dOf d == Cal.dOf s) = (Cal.dOf s == Cal.dOf d) := Bool.beq_comm
  have c3 : (Cal.mOf d == Cal.mOf s) = (Cal.mOf s == Cal.mOf d) := Bool.beq_comm
  have hsuit : suitB r = true := by unfold recB at hr; simp only [Bool.and_eq_true] at hr; exact hr.2.2
  unfold refB ofB hasB wkA dyA moA
  rw [c1, c2, c3]
  rcases fr_cases r.fr f.1 f.2 with e | e | e | e
  · simp [e]
  · have hms : r.ms.length = 0 := by unfold suitB at hsuit; simp [e] at hsuit; simp [hsuit.2]
    rcases Nat.eq_zero_or_pos r.ds.length with g | g
    · simp [e, g, hms, e1, Bool.and_comm]
    · simp [e, g]
  · rcases Nat.eq_zero_or_pos r.ds.length with g | g
    · rcases Nat.eq_zero_or_pos r.ms.length with g2 | g2
      · simp [e, g, g2, e2, Bool.and_comm]
      · have g3 : r.ms ≠ [] := by intro hc; rw [hc] at g2; simp at g2
        simp [e, g, g2, g3]
    · have g3 : r.ds ≠ [] := by intro hc; rw [hc] at g; simp at g
      simp [e, g, g3]
  · rcases Nat.eq_zero_or_pos r.ys.length with gy | gy
    · have hb : r.ds.length = 0 ∧ r.ms.length = 0 := by
        unfold suitB at hsuit; have hy : r.ys = [] := List.eq_nil_of_length_eq_zero gy
        simp [e, hy] at hsuit; simp [hsuit.1, hsuit.2]
      simp [e, gy, hb.1, hb.2, e2, e3]
      cases fitsB r d <;> simp
    · have gy3 : r.ys ≠ [] := by intro hc; rw [hc] at gy; simp at gy
      rcases Nat.eq_zero_or_pos r.ds.length with g | g
      · rcases Nat.eq_zero_or_pos r.ms.length with g2 | g2
        · simp [e, g, g2, gy, gy3, e2, Bool.and_comm]
        · have g3 : r.ms ≠ [] := by intro hc; rw [hc] at g2; simp at g2
          simp [e, g, g2, g3, gy]
      · have g3 : r.ds ≠ [] := by intro hc; rw [hc] at g; simp at g
        simp [e, g, g3, gy]

end Go.Proofs.Ytdmplojfidkipaa.Rul

/- DaMath; DaPerM; ExMath; ExMathE of the recipes, what is needed of them. -/
import Derived.Test.YtgihekokbgggcaaGreatZBM1
namespace Go.Proofs.YtgihekokbgggcaaGreat.Rul
open Go.Proofs.YtgihekokbgggcaaGreat
def fE (y m : Int) : Int:=if y <= 2099 then Cal.num y m 1 else 36525
theorem isB_first (y m : Int) (h1 : 1 <= m) (h2 : m <= 12) : Cal.isB y m 1 = true:=by
 have:=Cal.dim_pos y m h1 h2
 rw [Cal.isB_iff]; omega
theorem fE_in (y m : Int) (h : y <= 2099) : fE y m = Cal.num y m 1:=by unfold fE; rw [if_pos h]
theorem fE_out (y m : Int) (h : 2099 < y) : fE y m = 36525:=by unfold fE; rw [if_neg (by omega)]
theorem fE_lt (y m : Int) (h0 : 2000 <= y) (h : y <= 2099) (h1 : 1 <= m) (h2 : m <= 12) : 0 <= fE y m /\ fE y m < 36525:=by
 rw [fE_in y m h]; exact Cal.num_bd y m 1 h0 h (isB_first y m h1 h2)
theorem fE_bd (y m : Int) (h0 : 2000 <= y) (h1 : 1 <= m) (h2 : m <= 12) : 0 <= fE y m /\ fE y m <= 36525:=by
 by_cases h : y <= 2099
 ·have:=fE_lt y m h0 h h1 h2; omega
 ·rw [fE_out y m (by omega)]; omega
theorem fE_next (y m : Int) (h : y <= 2099) (h1 : 1 <= m) (h2 : m <= 11) : fE y (m + 1) = fE y m + Cal.dim y m:=by
 rw [fE_in y m h,fE_in y (m + 1) h]
 have:=Cal.cum_succ y m h1 (by omega)
 unfold Cal.num; omega
theorem fE_jan0 (y : Int) (_h0 : 2000 <= y) (h : y <= 2099) : fE (y + 1) 1 = Cal.yst (y + 1):=by
 by_cases g : y <= 2098
 ·rw [fE_in _ _ (by omega)]; unfold Cal.num; rw [Cal.cum_one]; omega
 ·obtain rfl : y = 2099:=by omega
  rw [fE_out _ _ (by omega)]; decide +kernel
theorem fE_jan (y : Int) (h0 : 2000 <= y) (h : y <= 2099) : fE (y + 1) 1 = fE y 12 + Cal.dim y 12:=by
 rw [fE_jan0 y h0 h,Cal.yst_succ y h0 h,fE_in y 12 h]
 have:=Cal.cum_succ y 12 (by omega) (by omega)
 rw [show (12 : Int) + 1 = 13 from rfl] at this
 unfold Cal.num; omega
theorem fE_year (y : Int) (h0 : 2000 <= y) (h : y <= 2099) : fE (y + 1) 1 = fE y 1 + (if Cal.lpB y then 366 else 365):=by
 rw [fE_jan0 y h0 h,Cal.yst_succ y h0 h,fE_in y 1 h,Cal.cum_13]
 have e : Cal.dim y 2 = if Cal.lpB y then 29 else 28:=by simp [Cal.dim]
 rw [e]
 unfold Cal.num; rw [Cal.cum_one]
 cases Cal.lpB y <;> simp <;> omega
def fst (m : Int) : Int:=fE (2000 + m / 12) (m % 12 + 1)
theorem fst_out (m : Int) (h : 1200 <= m) : fst m = 36525:=fE_out _ _ (by omega)
theorem fst_bd (m : Int) (h0 : 0 <= m) : 0 <= fst m /\ fst m <= 36525:=fE_bd _ _ (by omega) (by omega) (by omega)
theorem fst_in (m : Int) (_h0 : 0 <= m) (h : fst m < 36525) : m < 1200:=by
 by_cases g : m < 1200
 ·exact g
 ·rw [fst_out m (by omega)] at h; omega
theorem fst_next (m : Int) (h0 : 0 <= m) (h : m < 1200) : fst (m + 1) = fst m + Cal.dim (2000 + m / 12) (m % 12 + 1):=by
 unfold fst
 by_cases g : m % 12 < 11
 ·rw [show (m + 1) / 12 = m / 12 by omega,show (m + 1) % 12 + 1 = m % 12 + 1 + 1 by omega]
  exact fE_next _ _ (by omega) (by omega) (by omega)
 ·rw [show (2000 + (m + 1) / 12 : Int) = 2000 + m / 12 + 1 by omega,show (m + 1) % 12 + 1 = 1 by omega,show m % 12 + 1 = 12 by omega]
  exact fE_jan _ (by omega) (by omega)
theorem fst_jan (j : Int) : fst (12 * j) = fE (2000 + j) 1:=by
 unfold fst; rw [show (12 * j) / 12 = j by omega,show (12 * j) % 12 + 1 = 1 by omega]
theorem fst_step (m : Int) (h0 : 0 <= m) : fst m <= fst (m + 1):=by
 by_cases h : m < 1200
 ·rw [fst_next m h0 h]; have:=Cal.dim_bd (2000 + m / 12) (m % 12 + 1); omega
 ·rw [fst_out m (by omega),fst_out (m + 1) (by omega)]; exact Int.le_refl _
theorem fst_up (m : Int) (h0 : 0 <= m) (k : Nat) : fst m <= fst (m + k):=by
 induction k with
 | zero => simp
 | succ k ih =>
  have:=fst_step (m + k) (by omega)
  rw [show m + ((k + 1 : Nat) : Int) = m + k + 1 by omega]
  omega
theorem fst_mono (m m' : Int) (h0 : 0 <= m) (h : m <= m') : fst m <= fst m':=by
 have:=fst_up m h0 (m' - m).toNat
 rw [show m + (((m' - m).toNat : Nat) : Int) = m' by omega] at this
 exact this
def pA (fr s n : Int) : Int :=
 if fr = 1 then s + n else if fr = 2 then s - Cal.wday s + n * 7 else if fr = 3 then fst (12 * (Cal.yOf s - 2000) + (Cal.mOf s - 1) + n) else fst (12 * (Cal.yOf s - 2000 + n))
def pB (fr s n : Int) : Int :=
 if fr = 1 then s + n + 1 else if fr = 2 then s - Cal.wday s + n * 7 + 7 else if fr = 3 then fst (12 * (Cal.yOf s - 2000) + (Cal.mOf s - 1) + n + 1) else fst (12 * (Cal.yOf s - 2000 + n) + 12)
theorem pA_1 (s n : Int) : pA 1 s n = s + n:=by simp [pA]
theorem pA_2 (s n : Int) : pA 2 s n = s - Cal.wday s + n * 7:=by simp [pA]
theorem pA_3 (s n : Int) : pA 3 s n = fst (12 * (Cal.yOf s - 2000) + (Cal.mOf s - 1) + n):=by simp [pA]
theorem pA_4 (s n : Int) : pA 4 s n = fst (12 * (Cal.yOf s - 2000 + n)):=by simp [pA]
theorem pB_1 (s n : Int) : pB 1 s n = s + n + 1:=by simp [pB]
theorem pB_2 (s n : Int) : pB 2 s n = s - Cal.wday s + n * 7 + 7:=by simp [pB]
theorem pB_3 (s n : Int) : pB 3 s n = fst (12 * (Cal.yOf s - 2000) + (Cal.mOf s - 1) + n + 1):=by simp [pB]
theorem pB_4 (s n : Int) : pB 4 s n = fst (12 * (Cal.yOf s - 2000 + n) + 12):=by simp [pB]
theorem fr_cases (fr : Int) (h1 : 1 <= fr) (h2 : fr <= 4) : fr = 1 ∨ fr = 2 ∨ fr = 3 ∨ fr = 4:=by omega
theorem mS (s : Int) (h0 : 0 <= s) (h : s < 36525) : 0 <= 12 * (Cal.yOf s - 2000) + (Cal.mOf s - 1) /\ 12 * (Cal.yOf s - 2000) + (Cal.mOf s - 1) < 1200 /\ 0 <= Cal.yOf s - 2000:=by
 have a:=Cal.yOf_bd s h0 h
 have b:=Cal.mOf_bd s
 omega
theorem pB_next (fr s n : Int) (h1 : 1 <= fr) (h2 : fr <= 4) : pB fr s n = pA fr s (n + 1):=by
 rcases fr_cases fr h1 h2 with rfl | rfl | rfl | rfl
 ·rw [pB_1,pA_1]; omega
 ·rw [pB_2,pA_2]; omega
 ·rw [pB_3,pA_3]; congr 1; omega
 ·rw [pB_4,pA_4]; congr 1; omega
theorem pA_mono (fr s n n' : Int) (h1 : 1 <= fr) (h2 : fr <= 4) (s0 : 0 <= s) (s1 : s < 36525) (n0 : 0 <= n) (h : n <= n') : pA fr s n <= pA fr s n':=by
 have m:=mS s s0 s1
 rcases fr_cases fr h1 h2 with rfl | rfl | rfl | rfl
 ·rw [pA_1,pA_1]; omega
 ·rw [pA_2,pA_2]; omega
 ·rw [pA_3,pA_3]; exact fst_mono _ _ (by omega) (by omega)
 ·rw [pA_4,pA_4]; exact fst_mono _ _ (by omega) (by omega)
theorem pA_lo (fr s n : Int) (h1 : 1 <= fr) (h2 : fr <= 4) (s0 : 0 <= s) (s1 : s < 36525) (n0 : 0 <= n) : -6 <= pA fr s n:=by
 have m:=mS s s0 s1
 have w:=Cal.wday_bd s
 rcases fr_cases fr h1 h2 with rfl | rfl | rfl | rfl
 ·rw [pA_1]; omega
 ·rw [pA_2]; omega
 ·rw [pA_3]; have:=fst_bd (12 * (Cal.yOf s - 2000) + (Cal.mOf s - 1) + n) (by omega); omega
 ·rw [pA_4]; have:=fst_bd (12 * (Cal.yOf s - 2000 + n)) (by omega); omega
theorem pA_hi (fr s n : Int) (h1 : 1 <= fr) (h2 : fr <= 4) (s0 : 0 <= s) (s1 : s < 36525) (n0 : 0 <= n) (n1 : n <= 4000000) : pA fr s n <= 30000000:=by
 have m:=mS s s0 s1
 have w:=Cal.wday_bd s
 rcases fr_cases fr h1 h2 with rfl | rfl | rfl | rfl
 ·rw [pA_1]; omega
 ·rw [pA_2]; omega
 ·rw [pA_3]; have:=fst_bd (12 * (Cal.yOf s - 2000) + (Cal.mOf s - 1) + n) (by omega); omega
 ·rw [pA_4]; have:=fst_bd (12 * (Cal.yOf s - 2000 + n)) (by omega); omega
theorem fst_jan_next (j : Int) (h0 : 0 <= j) (h : fst (12 * j) < 36525) : fst (12 * j + 12) = fst (12 * j) + (if Cal.lpB (2000 + j) then 366 else 365):=by
 have:=fst_in _ (by omega) h
 rw [show 12 * j + 12 = 12 * (j + 1) by omega,fst_jan,fst_jan,show 2000 + (j + 1) = 2000 + j + 1 by omega]
 exact fE_year _ (by omega) (by omega)
theorem pB_bd (fr s n : Int) (h1 : 1 <= fr) (h2 : fr <= 4) (s0 : 0 <= s) (s1 : s < 36525) (n0 : 0 <= n) (h : pA fr s n < 36525) : pA fr s n < pB fr s n /\ pB fr s n <= pA fr s n + 366 /\ 1 <= pB fr s n:=by
 have m:=mS s s0 s1
 have w:=Cal.wday_bd s
 rcases fr_cases fr h1 h2 with rfl | rfl | rfl | rfl
 ·rw [pA_1,pB_1]; omega
 ·rw [pA_2,pB_2]; omega
 ·rw [pA_3] at h ⊢; rw [pB_3]
  have b:=fst_bd (12 * (Cal.yOf s - 2000) + (Cal.mOf s - 1) + n) (by omega)
  have i:=fst_in _ (by omega) h
  rw [fst_next _ (by omega) i]
  have d:=Cal.dim_pos (2000 + (12 * (Cal.yOf s - 2000) + (Cal.mOf s - 1) + n) / 12) ((12 * (Cal.yOf s - 2000) + (Cal.mOf s - 1) + n) % 12 + 1) (by omega) (by omega)
  have d2:=Cal.dim_bd (2000 + (12 * (Cal.yOf s - 2000) + (Cal.mOf s - 1) + n) / 12) ((12 * (Cal.yOf s - 2000) + (Cal.mOf s - 1) + n) % 12 + 1)
  omega
 ·rw [pA_4] at h ⊢; rw [pB_4]
  have b:=fst_bd (12 * (Cal.yOf s - 2000 + n)) (by omega)
  rw [fst_jan_next _ (by omega) h]
  split <;> omega
def perK (r : T) (s k : Int) : Bool:=dayB s && (recB r && (decide (0 <= k /\ k < 36525) && decide (pA r.fr s (r.ev * k) < 36525)))
def perA (r : T) (s k : Int) : Int:=if perK r s k then max (pA r.fr s (r.ev * k)) 0 else 0
def perB (r : T) (s k : Int) : Int:=if perK r s k then min (pB r.fr s (r.ev * k)) 36525 else 0
theorem recB_ev (r : T) (h : recB r = true) : 1 <= r.ev /\ r.ev <= 100:=by
 unfold recB rangeB at h
 simp only [Bool.and_eq_true,btw_iff] at h
 exact h.1.2.1
theorem perK_iff (r : T) (s k : Int) : perK r s k = true ↔ (0 <= s /\ s < 36525) /\ recB r = true /\ (0 <= k /\ k < 36525) /\ pA r.fr s (r.ev * k) < 36525:=by
 unfold perK dayB; simp only [Bool.and_eq_true,decide_eq_true_eq]
theorem ev_mul (ev k : Int) (h1 : 1 <= ev) (h2 : ev <= 100) (k0 : 0 <= k) (k1 : k < 36525) : 0 <= ev * k /\ ev * k <= 3652400 /\ k <= ev * k:=by
 have a : 0 <= ev * k:=Int.mul_nonneg (by omega) k0
 have b : ev * k <= 100 * k:=Int.mul_le_mul_of_nonneg_right h2 k0
 have c : 1 * k <= ev * k:=Int.mul_le_mul_of_nonneg_right h1 k0
 omega
theorem per_bd (r : T) (s k : Int) (h : perK r s k = true) : 0 <= perA r s k /\ perA r s k < perB r s k /\ perB r s k <= 36525 /\ perB r s k <= perA r s k + 366:=by
 obtain ⟨hs,hr,hk,ha⟩:=(perK_iff r s k).1 h
 have f:=recB_fr r hr
 have e:=recB_ev r hr
 have n:=ev_mul r.ev k e.1 e.2 hk.1 hk.2
 have b:=pB_bd r.fr s (r.ev * k) f.1 f.2 hs.1 hs.2 n.1 ha
 unfold perA perB
 rw [if_pos h,if_pos h]
 omega
def upto (a b : Int) : List Int:=(List.range (b - a).toNat).map fun i => a + (i : Nat)
theorem upto_nil (a : Int) : upto a a = []:=by unfold upto; simp
theorem upto_succ (a b : Int) (h : a <= b) : upto a (b + 1) = upto a b ++ [b]:=by
 unfold upto
 rw [show (b + 1 - a).toNat = (b - a).toNat + 1 by omega,List.range_succ,List.map_append]
 simp; omega
theorem upto_len (a b : Int) : (upto a b).length = (b - a).toNat:=by unfold upto; simp
theorem upto_mem (a b x : Int) : x ∈ upto a b ↔ a <= x /\ x < b:=by
 unfold upto; simp only [List.mem_map,List.mem_range]
 constructor
 ·rintro ⟨i,h,rfl⟩; omega
 ·intro h; exact ⟨(x - a).toNat,by omega,by omega⟩
theorem upto_rise (a b : Int) : (upto a b).Pairwise (· < ·):=by
 unfold upto
 rw [List.pairwise_map]
 exact List.pairwise_lt_range.imp fun h => by omega
def hasB (wk dy mo d : Int) : Bool:=((wk == -1) || (wk == Cal.wday d)) && (((dy == -1) || (dy == Cal.dOf d)) && ((mo == -1) || (mo == Cal.mOf d)))
def wkA (r : T) (s : Int) : Int:=if 0 < r.ds.length then -1 else if r.fr = 2 then Cal.wday s else -1
def dyA (r : T) (s : Int) : Int:=if 0 < r.ds.length then -1 else if 0 < r.ms.length then -1 else if r.fr = 3 ∨ r.fr = 4 then Cal.dOf s else -1
def moA (r : T) (s : Int) : Int:=if 0 < r.ds.length then -1 else if 0 < r.ms.length then -1 else if r.fr = 4 /\ r.ys.length = 0 then Cal.mOf s else -1
def ofB (r : T) (s d : Int) : Bool:=hasB (wkA r s) (dyA r s) (moA r s) d && fitsB r d
def daysL (r : T) (s k : Int) : List Int:=if perK r s k then (upto (perA r s k) (perB r s k)).filter (ofB r s) else []
theorem daysL_no (r : T) (s k : Int) (h : perK r s k = false) : daysL r s k = []:=by unfold daysL; rw [h]; rfl
theorem daysL_yes (r : T) (s k : Int) (h : perK r s k = true) : daysL r s k = (upto (perA r s k) (perB r s k)).filter (ofB r s):=by unfold daysL; rw [if_pos h]
theorem daysL_len (r : T) (s k : Int) : (daysL r s k).length <= 366:=by
 cases h : perK r s k
 ·rw [daysL_no r s k h]; simp
 ·rw [daysL_yes r s k h]
  have a:=List.length_filter_le (ofB r s) (upto (perA r s k) (perB r s k))
  rw [upto_len] at a
  have:=per_bd r s k h
  omega
theorem filter_step (p : Int -> Bool) (l : List Int) (j : Nat) (h : j < l.length) : (l.take (j + 1)).filter p = (l.take j).filter p ++ (if p l[j] then [l[j]] else []):=by
 rw [List.take_succ_eq_append_getElem h,List.filter_append]
 congr 1
 cases hp : p l[j] <;> simp [hp]
theorem filter_upto (p : Int -> Bool) (a b : Int) (h : a <= b) : (upto a (b + 1)).filter p = (upto a b).filter p ++ (if p b then [b] else []):=by
 rw [upto_succ a b h,List.filter_append]
 congr 1
 cases hp : p b <;> simp [hp]
def refB (r : T) (s d : Int) : Bool :=
 if r.fr = 2 then fitsB r d && (decide (0 < r.ds.length) || (Cal.wday d == Cal.wday s))
 else if r.fr = 3 then fitsB r d && (!(decide (r.ds.length = 0) && decide (r.ms.length = 0)) || (Cal.dOf d == Cal.dOf s))
 else if r.fr = 4 then (fitsB r d && (!(decide (r.ds.length = 0) && decide (r.ms.length = 0)) || (Cal.dOf d == Cal.dOf s))) && (decide (0 < r.ys.length) || (Cal.mOf d == Cal.mOf s))
 else fitsB r d
theorem refB_eq (r : T) (s d : Int) (hr : recB r = true) (h0 : 0 <= s) (h1 : s < 36525) : refB r s d = ofB r s d:=by
 have f:=recB_fr r hr
 have hw:=Cal.wday_bd s
 have hd:=Cal.dOf_bd s h0 h1
 have hm:=Cal.mOf_bd s
 have e1 : (Cal.wday s == -1) = false:=by rw [beq_eq_false_iff_ne]; omega
 have e2 : (Cal.dOf s == -1) = false:=by rw [beq_eq_false_iff_ne]; omega
 have e3 : (Cal.mOf s == -1) = false:=by rw [beq_eq_false_iff_ne]; omega
 have c1 : (Cal.wday d == Cal.wday s) = (Cal.wday s == Cal.wday d):=Bool.beq_comm
 have c2 : (Cal.dOf d == Cal.dOf s) = (Cal.dOf s == Cal.dOf d):=Bool.beq_comm
 have c3 : (Cal.mOf d == Cal.mOf s) = (Cal.mOf s == Cal.mOf d):=Bool.beq_comm
 have hsuit : suitB r = true:=by unfold recB at hr; simp only [Bool.and_eq_true] at hr; exact hr.2.2
 unfold refB ofB hasB wkA dyA moA
 rw [c1,c2,c3]
 rcases fr_cases r.fr f.1 f.2 with e | e | e | e
 ·simp [e]
 ·have hms : r.ms.length = 0:=by unfold suitB at hsuit; simp [e] at hsuit; simp [hsuit.2]
  rcases Nat.eq_zero_or_pos r.ds.length with g | g
  ·simp [e,g,hms,e1,Bool.and_comm]
  ·simp [e,g]
 ·rcases Nat.eq_zero_or_pos r.ds.length with g | g
  ·rcases Nat.eq_zero_or_pos r.ms.length with g2 | g2
   ·simp [e,g,g2,e2,Bool.and_comm]
   ·have g3 : r.ms ≠ []:=by intro hc; rw [hc] at g2; simp at g2
    simp [e,g,g2,g3]
  ·have g3 : r.ds ≠ []:=by intro hc; rw [hc] at g; simp at g
   simp [e,g,g3]
 ·rcases Nat.eq_zero_or_pos r.ys.length with gy | gy
  ·have hb : r.ds.length = 0 /\ r.ms.length = 0:=by
    unfold suitB at hsuit; have hy : r.ys = []:=List.eq_nil_of_length_eq_zero gy
    simp [e,hy] at hsuit; simp [hsuit.1,hsuit.2]
   simp [e,gy,hb.1,hb.2,e2,e3]
   cases fitsB r d <;> simp
  ·have gy3 : r.ys ≠ []:=by intro hc; rw [hc] at gy; simp at gy
   rcases Nat.eq_zero_or_pos r.ds.length with g | g
   ·rcases Nat.eq_zero_or_pos r.ms.length with g2 | g2
    ·simp [e,g,g2,gy,gy3,e2,Bool.and_comm]
    ·have g3 : r.ms ≠ []:=by intro hc; rw [hc] at g2; simp at g2
     simp [e,g,g2,g3,gy]
   ·have g3 : r.ds ≠ []:=by intro hc; rw [hc] at g; simp at g
    simp [e,g,g3,gy]
end Go.Proofs.YtgihekokbgggcaaGreat.Rul
namespace Go.Proofs.YtgihekokbgggcaaGreat
open Go.RowKit Rul
theorem per_more (r : Rul.T) (s k : Int) (k0 : 0 <= k) (h : perK r s (k + 1) = true) : perK r s k = true /\ perB r s k <= perA r s (k + 1):=by
 obtain ⟨hs,hr,hk,ha⟩:=(perK_iff r s (k + 1)).1 h
 have f:=recB_fr r hr
 have e:=recB_ev r hr
 have n:=ev_mul r.ev k e.1 e.2 k0 (by omega)
 rw [show r.ev * (k + 1) = r.ev * k + r.ev by rw [Int.mul_add,Int.mul_one]] at ha
 have m1:=pA_mono r.fr s (r.ev * k) (r.ev * k + r.ev) f.1 f.2 hs.1 hs.2 n.1 (by omega)
 have m2:=pA_mono r.fr s (r.ev * k + 1) (r.ev * k + r.ev) f.1 f.2 hs.1 hs.2 (by omega) (by omega)
 rw [<- pB_next r.fr s _ f.1 f.2] at m2
 have hK : perK r s k = true:=(perK_iff r s k).2 ⟨hs,hr,⟨k0,by omega⟩,by omega⟩
 refine ⟨hK,?_⟩
 unfold perA perB
 rw [if_pos h,if_pos hK,show r.ev * (k + 1) = r.ev * k + r.ev by rw [Int.mul_add,Int.mul_one]]
 omega
theorem daysL_in (r : Rul.T) (s k : Int) (i : Nat) (h : i < (daysL r s k).length) : perA r s k <= (daysL r s k)[i] /\ (daysL r s k)[i] < perB r s k /\ fitsB r (daysL r s k)[i] = true:=by
 cases hK : perK r s k
 ·have:=h; rw [daysL_no r s k hK] at this; exact absurd this (Nat.not_lt_zero _)
 ·have hm : (daysL r s k)[i] ∈ daysL r s k:=List.getElem_mem _
  generalize (daysL r s k)[i] = d at hm ⊢
  rw [daysL_yes r s k hK,List.mem_filter,upto_mem] at hm
  obtain ⟨⟨h1,h2⟩,h3⟩:=hm
  unfold ofB at h3
  rw [Bool.and_eq_true] at h3
  exact ⟨h1,h2,h3.2⟩
end Go.Proofs.YtgihekokbgggcaaGreat
namespace Go.Proofs.YtgihekokbgggcaaGreat.Rul
open Go.Proofs.YtgihekokbgggcaaGreat
def candK (r : T) (s : Int) (k : Nat) : List Int:=((daysL r (s / 1440) k).map fun d => d * 1440 + s % 1440).filter fun m => decide (s <= m)
def candT (r : T) (s : Int) (k : Nat) : List Int:=(List.range k).flatMap (candK r s)
def cand (r : T) (s : Int) : List Int:=candT r s 36525
def keepU (r : T) (m : Int) : Bool:=decide (r.un < 0) || decide (m <= r.un)
def capN (r : T) : Nat:=if 0 < r.ct then r.ct.toNat else 41
def allL (r : T) (s : Int) : List Int:=((cand r s).filter (keepU r)).take (capN r)
theorem candT_succ (r : T) (s : Int) (k : Nat) : candT r s (k + 1) = candT r s k ++ candK r s k:=by
 unfold candT; rw [List.range_succ,List.flatMap_append]; simp
theorem candK_no (r : T) (s : Int) (k : Nat) (h : perK r (s / 1440) k = false) : candK r s k = []:=by
 unfold candK; rw [daysL_no _ _ _ h]; rfl
theorem candK_mem (r : T) (s m : Int) (k : Nat) (h : m ∈ candK r s k) : perK r (s / 1440) k = true /\ perA r (s / 1440) k <= m / 1440 /\ m / 1440 < perB r (s / 1440) k /\ m % 1440 = s % 1440 /\ s <= m /\ ofB r (s / 1440) (m / 1440) = true:=by
 cases hK : perK r (s / 1440) k
 ·rw [candK_no r s k hK] at h; cases h
 unfold candK at h
 rw [List.mem_filter,List.mem_map] at h
 obtain ⟨⟨d,hd,rfl⟩,h2⟩:=h
 rw [daysL_yes _ _ _ hK,List.mem_filter,upto_mem] at hd
 have e1 : (d * 1440 + s % 1440) / 1440 = d:=by omega
 have e2 : (d * 1440 + s % 1440) % 1440 = s % 1440:=by omega
 rw [e1,e2]
 exact ⟨rfl,hd.1.1,hd.1.2,rfl,by simpa using h2,hd.2⟩
theorem perK_down (r : T) (s : Int) (k : Nat) (h : perK r s k = false) (j : Nat) : perK r s ((k + j : Nat) : Int) = false:=by
 induction j with
 | zero => exact h
 | succ j ih =>
  rw [Bool.eq_false_iff]; intro hc
  rw [show ((k + (j + 1) : Nat) : Int) = ((k + j : Nat) : Int) + 1 by omega] at hc
  rw [(per_more r s _ (by omega) hc).1] at ih
  cases ih
theorem per_before (r : T) (s : Int) (i k : Nat) (hik : i < k) (h : perK r s k = true) : perB r s i <= perA r s k:=by
 induction k with
 | zero => omega
 | succ k ih =>
  have h1:=per_more r s k (by omega) h
  rcases Nat.lt_or_ge i k with g | g
  ·have:=ih g h1.1
   have b:=per_bd r s k h1.1
   have:=h1.2
   rw [show ((k + 1 : Nat) : Int) = (k : Int) + 1 by omega]
   omega
  ·obtain rfl : i = k:=by omega
   exact h1.2
theorem candT_mem (r : T) (s m : Int) (k : Nat) : m ∈ candT r s k ↔ ∃ i,i < k /\ m ∈ candK r s i:=by
 unfold candT; rw [List.mem_flatMap]; simp [List.mem_range]
theorem cand_split (r : T) (s : Int) (k : Nat) (h : k <= 36525) : ∃ t,cand r s = candT r s k ++ t /\ ∀ m ∈ t,∃ i,k <= i /\ m ∈ candK r s i:=by
 have : ∀ j : Nat,∃ t,candT r s (k + j) = candT r s k ++ t /\ ∀ m ∈ t,∃ i,k <= i /\ m ∈ candK r s i:=by
  intro j
  induction j with
  | zero => exact ⟨[],by simp,fun m h => by cases h⟩
  | succ j ih =>
   obtain ⟨t,e,ht⟩:=ih
   refine ⟨t ++ candK r s (k + j),by rw [show k + (j + 1) = k + j + 1 by omega,candT_succ,e,List.append_assoc],fun m hm => ?_⟩
   rcases List.mem_append.1 hm with g | g
   ·exact ht m g
   ·exact ⟨k + j,by omega,g⟩
 obtain ⟨t,e,ht⟩:=this (36525 - k)
 rw [show k + (36525 - k) = 36525 by omega] at e
 exact ⟨t,e,ht⟩
theorem cand_end (r : T) (s : Int) (k : Nat) (hk : k <= 36525) (h : perK r (s / 1440) k = false) : cand r s = candT r s k:=by
 obtain ⟨t,e,ht⟩:=cand_split r s k hk
 have : t = []:=by
  rcases List.eq_nil_or_concat t with g | ⟨u,m,g⟩
  ·exact g
  ·obtain ⟨i,hi,hm⟩:=ht m (by rw [g]; simp)
   have:=perK_down r (s / 1440) k h (i - k)
   rw [show k + (i - k) = i by omega] at this
   rw [candK_no r s i this] at hm
   cases hm
 rw [e,this,List.append_nil]
theorem all_is (r : T) (s : Int) (p t : List Int) (e : cand r s = p ++ t) (hp : ∀ m ∈ p,keepU r m = true) (hl : p.length <= capN r) (h : t = [] ∨ p.length = capN r ∨ ∀ m ∈ t,keepU r m = false) : allL r s = p:=by
 unfold allL
 rw [e,List.filter_append,show p.filter (keepU r) = p from List.filter_eq_self.2 hp]
 rcases h with g | g | g
 ·subst g; simp only [List.filter_nil,List.append_nil]; exact List.take_of_length_le hl
 ·rw [<- g]; simp
 ·rw [show t.filter (keepU r) = [] from List.filter_eq_nil_iff.2 fun m hm => by rw [g m hm]; simp,List.append_nil]
  exact List.take_of_length_le hl
theorem allL_sub (r : T) (s m : Int) (h : m ∈ allL r s) : m ∈ cand r s /\ keepU r m = true:=by
 unfold allL at h
 have:=List.mem_of_mem_take h
 rw [List.mem_filter] at this
 exact this
theorem allL_len (r : T) (s : Int) : (allL r s).length <= capN r:=by unfold allL; exact List.length_take_le _ _
def pre (r : T) (s : Int) (k i : Nat) : List Int:=candT r s k ++ ((((daysL r (s / 1440) k).take i).map fun d => d * 1440 + s % 1440).filter fun m => decide (s <= m))
theorem pre_0 (r : T) (s : Int) (k : Nat) : pre r s k 0 = candT r s k:=by unfold pre; simp
theorem pre_end (r : T) (s : Int) (k i : Nat) (h : i = (daysL r (s / 1440) k).length) : pre r s k i = candT r s (k + 1):=by
 subst h; unfold pre; rw [List.take_length,candT_succ]; rfl
theorem pre_skip (r : T) (s : Int) (k i : Nat) (h : i < (daysL r (s / 1440) k).length) (hm : (daysL r (s / 1440) k)[i] * 1440 + s % 1440 < s) : pre r s k (i + 1) = pre r s k i:=by
 unfold pre
 rw [List.take_succ_eq_append_getElem h,List.map_append,List.filter_append]
 have : decide (s <= (daysL r (s / 1440) k)[i] * 1440 + s % 1440) = false:=decide_eq_false (by omega)
 simp [this]
theorem pre_step (r : T) (s : Int) (k i : Nat) (h : i < (daysL r (s / 1440) k).length) (hm : s <= (daysL r (s / 1440) k)[i] * 1440 + s % 1440) : pre r s k (i + 1) = pre r s k i ++ [(daysL r (s / 1440) k)[i] * 1440 + s % 1440]:=by
 unfold pre
 rw [List.take_succ_eq_append_getElem h,List.map_append,List.filter_append]
 have : decide (s <= (daysL r (s / 1440) k)[i] * 1440 + s % 1440) = true:=decide_eq_true hm
 simp [this]
theorem pre_rest (r : T) (s : Int) (k i : Nat) (hk : k < 36525) (h : i < (daysL r (s / 1440) k).length) : ∃ t,cand r s = pre r s k i ++ t /\ ∀ x ∈ t,(daysL r (s / 1440) k)[i] * 1440 + s % 1440 <= x:=by
 obtain ⟨t,e,ht⟩:=cand_split r s (k + 1) (by omega)
 have hK : perK r (s / 1440) k = true:=by
  cases hc : perK r (s / 1440) k
  ·rw [daysL_no _ _ _ hc] at h; exact absurd h (Nat.not_lt_zero _)
  ·rfl
 have hp : (daysL r (s / 1440) k).Pairwise (· < ·):=by rw [daysL_yes _ _ _ hK]; exact (upto_rise _ _).filter _
 have hin:=daysL_in r (s / 1440) k i h
 refine ⟨((((daysL r (s / 1440) k).drop i).map fun d => d * 1440 + s % 1440).filter fun m => decide (s <= m)) ++ t,?_,fun x hx => ?_⟩
 ·rw [e,candT_succ]
  unfold pre candK
  have hs : ((daysL r (s / 1440) k).map fun d => d * 1440 + s % 1440).filter (fun m => decide (s <= m)) = ((((daysL r (s / 1440) k).take i).map fun d => d * 1440 + s % 1440).filter fun m => decide (s <= m)) ++ ((((daysL r (s / 1440) k).drop i).map fun d => d * 1440 + s % 1440).filter fun m => decide (s <= m)):=by
   rw [<- List.filter_append,<- List.map_append,List.take_append_drop]
  rw [hs]; simp only [List.append_assoc]
 ·rcases List.mem_append.1 hx with g | g
  ·rw [List.mem_filter,List.mem_map] at g
   obtain ⟨⟨d,hd,rfl⟩,_⟩:=g
   obtain ⟨j,hj,rfl⟩:=List.mem_iff_getElem.1 hd
   rw [List.getElem_drop]
   rcases Nat.eq_zero_or_pos j with z | z
   ·subst z; simp
   ·have:=List.pairwise_iff_getElem.1 hp i (i + j) h (by simp at hj; omega) (by omega)
    omega
  ·obtain ⟨q,hq,hm⟩:=ht x g
   have a:=candK_mem r s x q hm
   have:=per_before r (s / 1440) k q (by omega) a.1
   omega
theorem all_none (r : T) (s : Int) (k : Nat) (hk : k <= 36525) (h : perK r (s / 1440) k = false) (hp : ∀ m ∈ candT r s k,keepU r m = true) (hl : (candT r s k).length <= capN r) : allL r s = candT r s k :=
 all_is r s _ [] (by rw [cand_end r s k hk h,List.append_nil]) hp hl (Or.inl rfl)
theorem all_past (r : T) (s : Int) (k : Nat) (hk : k <= 36525) (h : perK r (s / 1440) k = true) (hu : 0 <= r.un) (hu2 : r.un < perA r (s / 1440) k * 1440) (hp : ∀ m ∈ candT r s k,keepU r m = true) (hl : (candT r s k).length <= capN r) : allL r s = candT r s k:=by
 obtain ⟨t,e,ht⟩:=cand_split r s k hk
 refine all_is r s _ t e hp hl (Or.inr (Or.inr fun m hm => ?_))
 obtain ⟨i,hi,hm⟩:=ht m hm
 have a:=candK_mem r s m i hm
 have b:=per_bd r (s / 1440) k h
 have c : perA r (s / 1440) k <= perA r (s / 1440) i:=by
  rcases Nat.lt_or_ge k i with g | g
  ·have:=per_before r (s / 1440) k i g a.1; omega
  ·obtain rfl : i = k:=by omega
   exact Int.le_refl _
 unfold keepU
 rw [Bool.or_eq_false_iff,decide_eq_false_iff_not,decide_eq_false_iff_not]
 omega
theorem all_until (r : T) (s : Int) (k i : Nat) (hk : k < 36525) (h : i < (daysL r (s / 1440) k).length) (hu : 0 <= r.un) (hu2 : r.un < (daysL r (s / 1440) k)[i] * 1440 + s % 1440) (hp : ∀ m ∈ pre r s k i,keepU r m = true) (hl : (pre r s k i).length <= capN r) : allL r s = pre r s k i:=by
 obtain ⟨t,e,ht⟩:=pre_rest r s k i hk h
 refine all_is r s _ t e hp hl (Or.inr (Or.inr fun m hm => ?_))
 have:=ht m hm
 unfold keepU
 rw [Bool.or_eq_false_iff,decide_eq_false_iff_not,decide_eq_false_iff_not]
 omega
theorem all_full (r : T) (s : Int) (k i : Nat) (hk : k < 36525) (h : i < (daysL r (s / 1440) k).length) (hp : ∀ m ∈ pre r s k i,keepU r m = true) (hl : (pre r s k i).length = capN r) : allL r s = pre r s k i:=by
 obtain ⟨t,e,ht⟩:=pre_rest r s k i hk h
 exact all_is r s _ t e hp (by omega) (Or.inr (Or.inl hl))
theorem keepU_lo (r : T) (m : Int) (h : r.un < 0) : keepU r m = true:=by unfold keepU; rw [decide_eq_true h]; rfl
theorem keepU_hi (r : T) (m : Int) (h : m <= r.un) : keepU r m = true:=by unfold keepU; rw [decide_eq_true h,Bool.or_true]
theorem capN_ct (r : T) (h : 0 < r.ct) : capN r = r.ct.toNat:=by unfold capN; rw [if_pos h]
theorem capN_0 (r : T) (h : ¬ 0 < r.ct) : capN r = 41:=by unfold capN; rw [if_neg h]
def outB (ex : List Int) (m : Int) : Bool:=ex.any fun x => x == m
def startsE (r : T) (s : Int) (ex : List Int) : List Int × Int :=
 if isB r = false then ([],12)
 else if s < 0 ∨ 52596000 <= s then ([],10)
 else if 40 < (if r.fr = 0 then [s] else allL r s).length then ([],13)
 else if ((if r.fr = 0 then [s] else allL r s).filter fun m => !outB ex m) = [] then ([],23)
 else ((if r.fr = 0 then [s] else allL r s).filter fun m => !outB ex m,0)
def spansE (r : T) (s long : Int) (ex : List Int) : List (Int × Int) × Int :=
 if isB r = false then ([],12)
 else if s < 0 ∨ 52596000 <= s then ([],10)
 else if long < 1 ∨ 10080 < long then ([],15)
 else if (startsE r s ex).2 ≠ 0 then ([],(startsE r s ex).2)
 else if ((startsE r s ex).1.all fun m => decide (m + long <= 52596000)) = false then ([],10)
 else ((startsE r s ex).1.map fun m => (m,m + long),0)
end Go.Proofs.YtgihekokbgggcaaGreat.Rul
namespace Go.Proofs.YtgihekokbgggcaaGreat.Rul
open Go.Proofs.YtgihekokbgggcaaGreat
def lstU (r : T) : Int:=if 0 <= r.un then r.un else 52595999
def fil (r : T) (s : Int) (k : Nat) : List Int:=(candT r s k).filter (keepU r)
theorem mostN_cap (r : T) : (if 0 < r.ct then r.ct else 41) = (capN r : Int):=by
 unfold capN; split <;> omega
theorem candK_le (r : T) (s m : Int) (k : Nat) (h : m ∈ candK r s k) : m <= 52595999:=by
 have a:=candK_mem r s m k h
 have b:=per_bd _ _ _ a.1
 omega
theorem keep_lst (r : T) (s m : Int) (k : Nat) (h : m ∈ candK r s k) : keepU r m = decide (m <= lstU r):=by
 have:=candK_le r s m k h
 unfold keepU lstU
 by_cases hu : 0 <= r.un
 ·rw [if_pos hu,decide_eq_false (by omega),Bool.false_or]
 ·rw [if_neg hu,decide_eq_true (by omega),Bool.true_or]
  exact (decide_eq_true this).symm
theorem fil_succ (r : T) (s : Int) (k : Nat) : fil r s (k + 1) = fil r s k ++ (((daysL r (s / 1440) k).map fun d => d * 1440 + s % 1440).filter fun m => decide (s <= m) && decide (m <= lstU r)):=by
 unfold fil
 rw [candT_succ,List.filter_append]
 congr 1
 rw [List.filter_congr (q:=fun m => decide (m <= lstU r)) fun m hm => keep_lst r s m k hm]
 unfold candK
 rw [List.filter_filter]
 congr 1
 funext m
 exact Bool.and_comm _ _
theorem fil_full (r : T) (s : Int) (k : Nat) (hk : k <= 36525) (h : capN r <= (fil r s k).length) : allL r s = (fil r s k).take (capN r):=by
 obtain ⟨t,e,_⟩:=cand_split r s k hk
 unfold allL
 rw [e,List.filter_append]
 exact List.take_append_of_le_length h
theorem fil_none (r : T) (s : Int) (k : Nat) (hk : k <= 36525) (h : perK r (s / 1440) k = false) : allL r s = (fil r s k).take (capN r):=by
 unfold allL; rw [cand_end r s k hk h]; rfl
theorem fil_past (r : T) (s : Int) (k : Nat) (hk : k <= 36525) (h : perK r (s / 1440) k = true) (hp : lstU r < perA r (s / 1440) k * 1440) : allL r s = (fil r s k).take (capN r):=by
 obtain ⟨t,e,ht⟩:=cand_split r s k hk
 unfold allL
 rw [e,List.filter_append,show t.filter (keepU r) = [] from List.filter_eq_nil_iff.2 fun m hm => ?_,List.append_nil]
 ·rfl
 ·obtain ⟨i,hi,hm⟩:=ht m hm
  have a:=candK_mem r s m i hm
  have b:=per_bd r (s / 1440) k h
  have c : perA r (s / 1440) k <= perA r (s / 1440) i:=by
   rcases Nat.lt_or_ge k i with g | g
   ·have:=per_before r (s / 1440) k i g a.1; omega
   ·obtain rfl : i = k:=by omega
    exact Int.le_refl _
  rw [keep_lst r s m i hm,decide_eq_false (by omega)]
  decide
theorem fil_cut (r : T) (s : Int) (k m : Nat) (h : allL r s = (fil r s k).take (capN r)) (hm : m = min (capN r) (fil r s k).length) : (fil r s k).take m = allL r s:=by
 rw [h,List.take_eq_take_iff]
 omega
end Go.Proofs.YtgihekokbgggcaaGreat.Rul

/- Plain facts of rules: what the document asks of lists, of rules, of days, with no word of a program. -/
import Derived.Test.YtojhajlhbhkddaaDoorCivMath
namespace Go.Proofs.YtojhajlhbhkddaaDoor.Rul
open Go.Proofs.YtojhajlhbhkddaaDoor

abbrev Wd := Int × Int
structure T where
  fr : Int
  ev : Int
  ct : Int
  un : Int
  ds : List Wd
  ms : List Int
  ys : List Int

def btw (a x b : Int) : Bool := decide (a ≤ x) && decide (x ≤ b)
theorem btw_iff (a x b : Int) : btw a x b = true ↔ a ≤ x ∧ x ≤ b := by simp [btw]
theorem btw_not (a x b : Int) : btw a x b = false ↔ ¬ (a ≤ x ∧ x ≤ b) := by rw [← Bool.not_eq_true, btw_iff]

section
variable {α : Type}
/-- the i-th of a list is possible, and behind the one ahead of it. -/
def stepB (p : α → Bool) (lt : α → α → Bool) (d : α) (l : List α) (i : Nat) : Bool := p (l.getD i d) && (i == 0 || lt (l.getD (i - 1) d) (l.getD i d))
def ascB (p : α → Bool) (lt : α → α → Bool) (d : α) (l : List α) : Bool := (List.range l.length).all (stepB p lt d l)
def listB (p : α → Bool) (lt : α → α → Bool) (d : α) (l : List α) : Bool := decide (l.length ≤ 12) && ascB p lt d l
theorem ascB_iff (p : α → Bool) (lt : α → α → Bool) (d : α) (l : List α) : ascB p lt d l = true ↔ ∀ i, i < l.length → stepB p lt d l i = true := by
  unfold ascB; rw [List.all_eq_true]; simp only [List.mem_range]
theorem ascB_no (p : α → Bool) (lt : α → α → Bool) (d : α) (l : List α) (i : Nat) (hi : i < l.length) (h : stepB p lt d l i = false) : ascB p lt d l = false := by
  rw [Bool.eq_false_iff]; intro hc
  rw [(ascB_iff p lt d l).1 hc i hi] at h; cases h
theorem listB_no (p : α → Bool) (lt : α → α → Bool) (d : α) (l : List α) (i : Nat) (hi : i < l.length) (h : stepB p lt d l i = false) : listB p lt d l = false := by
  unfold listB; rw [ascB_no p lt d l i hi h, Bool.and_false]
theorem listB_long (p : α → Bool) (lt : α → α → Bool) (d : α) (l : List α) (h : 12 < l.length) : listB p lt d l = false := by
  unfold listB; rw [decide_eq_false (by omega), Bool.false_and]
theorem listB_yes (p : α → Bool) (lt : α → α → Bool) (d : α) (l : List α) (h : l.length ≤ 12) (ha : ∀ i, i < l.length → stepB p lt d l i = true) : listB p lt d l = true := by
  unfold listB; rw [decide_eq_true h, (ascB_iff p lt d l).2 ha]; rfl
theorem getD_at (d : α) (l : List α) (i : Nat) (hi : i < l.length) : l.getD i d = l[i] := by simp [List.getD, hi]
theorem stepB_get (p : α → Bool) (lt : α → α → Bool) (d : α) (l : List α) (i : Nat) (hi : i < l.length) : stepB p lt d l i = (p l[i] && (i == 0 || lt (l.getD (i - 1) d) l[i])) := by
  unfold stepB; rw [getD_at d l i hi]
theorem stepB_p (p : α → Bool) (lt : α → α → Bool) (d : α) (l : List α) (i : Nat) (hi : i < l.length) (h : p l[i] = false) : stepB p lt d l i = false := by
  rw [stepB_get _ _ _ _ _ hi, h]; rfl
theorem stepB_0 (p : α → Bool) (lt : α → α → Bool) (d : α) (l : List α) (hi : 0 < l.length) : stepB p lt d l 0 = p l[0] := by
  rw [stepB_get _ _ _ _ _ hi]; simp
theorem stepB_succ (p : α → Bool) (lt : α → α → Bool) (d : α) (l : List α) (i : Nat) (hi : i + 1 < l.length) : stepB p lt d l (i + 1) = (p l[i + 1] && lt l[i] l[i + 1]) := by
  rw [stepB_get _ _ _ _ _ hi]; rw [show i + 1 - 1 = i from rfl, getD_at d l i (Nat.lt_of_succ_lt hi)]; simp
theorem listB_congr (p q : α → Bool) (lt : α → α → Bool) (d : α) (l : List α) (h : ∀ x, p x = q x) : listB p lt d l = listB q lt d l := by
  rw [show p = q from funext h]
/-- one of them, or none at all. -/
def emptyOr (p : α → Bool) (l : List α) : Bool := decide (l.length = 0) || l.any p
theorem emptyOr_nil (p : α → Bool) : emptyOr p [] = true := rfl
theorem emptyOr_any (p : α → Bool) (l : List α) (h : l ≠ []) : emptyOr p l = l.any p := by
  unfold emptyOr; cases l
  · exact absurd rfl h
  · simp
theorem any_at (p : α → Bool) (l : List α) (i : Nat) (hi : i < l.length) (h : p l[i] = true) : l.any p = true := by
  rw [List.any_eq_true]; exact ⟨l[i], List.getElem_mem _, h⟩
theorem any_none (p : α → Bool) (l : List α) (h : ∀ i (hi : i < l.length), p l[i] = false) : l.any p = false := by
  rw [List.any_eq_false]; intro x hx
  rw [List.mem_iff_getElem] at hx
  obtain ⟨i, hi, rfl⟩ := hx
  simp [h i hi]
end

def wdOk (w : Wd) : Bool := btw (-5) w.1 5 && btw 0 w.2 6
def wdLt (a b : Wd) : Bool := decide (a.1 < b.1 ∨ a.1 = b.1 ∧ a.2 < b.2)
def mdOk (n : Int) : Bool := (n != 0) && btw (-31) n 31
def moOk (n : Int) : Bool := btw 1 n 12
def inLt (a b : Int) : Bool := decide (a < b)
def posB (w : Wd) : Bool := w.1 != 0

def rangeB (r : T) : Bool := btw 1 r.fr 4 && (btw 1 r.ev 100 && (btw 0 r.ct 40 && (btw (-1) r.un 52595999 && (decide (r.ct = 0) || decide (r.un = -1)))))
def wellB (r : T) : Bool := listB wdOk wdLt (0, 0) r.ds && (listB mdOk inLt 0 r.ms && listB moOk inLt 0 r.ys)
def suitB (r : T) : Bool :=
  if r.fr = 1 then !r.ds.any posB
  else if r.fr = 2 then !r.ds.any posB && decide (r.ms.length = 0)
  else if r.fr = 4 then decide (0 < r.ys.length) || (decide (r.ds.length = 0) && decide (r.ms.length = 0))
  else true
def recB (r : T) : Bool := rangeB r && (wellB r && suitB r)
def numB (r q : T) : Bool := decide (r.fr = q.fr ∧ r.ev = q.ev ∧ r.ct = q.ct ∧ r.un = q.un)
def eqlB (r q : T) : Bool := decide (r.ds = q.ds) && (decide (r.ms = q.ms) && decide (r.ys = q.ys))
def sameB (r q : T) : Bool := numB r q && eqlB r q
def once : T := ⟨0, 0, 0, -1, [], [], []⟩
def isB (r : T) : Bool := sameB r once || recB r

theorem rangeB_fr (r : T) (h : rangeB r = true) : 1 ≤ r.fr ∧ r.fr ≤ 4 := by
  unfold rangeB at h; rw [Bool.and_eq_true, btw_iff] at h; exact h.1
theorem recB_fr (r : T) (h : recB r = true) : 1 ≤ r.fr ∧ r.fr ≤ 4 := by
  unfold recB at h; rw [Bool.and_eq_true] at h; exact rangeB_fr r h.1
theorem sameB_fr (r q : T) (h : sameB r q = true) : r.fr = q.fr := by
  unfold sameB numB at h; rw [Bool.and_eq_true, decide_eq_true_eq] at h; exact h.1.1
theorem sameB_iff (r q : T) : sameB r q = true ↔ r = q := by
  obtain ⟨a, b, c, d, x, y, z⟩ := r
  obtain ⟨a', b', c', d', x', y', z'⟩ := q
  simp [sameB, numB, eqlB, and_assoc]
theorem sameB_self (r : T) : sameB r r = true := (sameB_iff r r).2 rfl
theorem isB_0 (r : T) (h : r.fr = 0) : isB r = sameB r once := by
  unfold isB
  have : recB r = false := by rw [Bool.eq_false_iff]; intro hc; have := recB_fr r hc; omega
  rw [this, Bool.or_false]
theorem isB_1 (r : T) (h : r.fr ≠ 0) : isB r = recB r := by
  unfold isB
  have : sameB r once = false := by rw [Bool.eq_false_iff]; intro hc; have := sameB_fr r once hc; exact h this
  rw [this, Bool.false_or]

/-- what the reference asks of weekdays. -/
def byDayB (ds : List Wd) (b : Bool) : Bool := listB (fun w => wdOk w && (b || decide (w.1 = 0))) wdLt (0, 0) ds
def risB (l : List Int) (lo hi : Int) : Bool := listB (fun n => btw lo n hi && (n != 0)) inLt 0 l
def isR (r : T) : Bool :=
  if r.fr = 0 then sameB r once
  else if rangeB r = false then false
  else if (byDayB r.ds (decide (3 ≤ r.fr)) && (risB r.ms (-31) 31 && risB r.ys 1 12)) = false then false
  else if r.fr = 2 ∧ 0 < r.ms.length then false
  else decide (r.fr ≠ 4) || (decide (0 < r.ys.length) || decide (r.ds.length + r.ms.length = 0))

theorem byDayB_pos (ds : List Wd) : byDayB ds true = listB wdOk wdLt (0, 0) ds := by
  unfold byDayB; exact listB_congr _ _ _ _ _ fun x => by simp
theorem byDayB_neg (ds : List Wd) : byDayB ds false = (listB wdOk wdLt (0, 0) ds && !ds.any posB) := by
  rw [Bool.eq_iff_iff]
  unfold byDayB listB
  simp only [Bool.and_eq_true, decide_eq_true_eq, ascB_iff, Bool.not_eq_true', List.any_eq_false]
  constructor
  · rintro ⟨h1, h2⟩
    refine ⟨⟨h1, fun i hi => ?_⟩, fun x hx => ?_⟩
    · have := h2 i hi
      rw [stepB_get _ _ _ _ _ hi] at this ⊢
      simp only [Bool.and_eq_true, Bool.false_or] at this ⊢
      exact ⟨this.1.1, this.2⟩
    · rw [List.mem_iff_getElem] at hx
      obtain ⟨i, hi, rfl⟩ := hx
      have := h2 i hi
      rw [stepB_get _ _ _ _ _ hi] at this
      simp only [Bool.and_eq_true, Bool.false_or, decide_eq_true_eq] at this
      simp [posB, this.1.2]
  · rintro ⟨⟨h1, h2⟩, h3⟩
    refine ⟨h1, fun i hi => ?_⟩
    have := h2 i hi
    have h4 := h3 ds[i] (List.getElem_mem _)
    rw [stepB_get _ _ _ _ _ hi] at this ⊢
    simp only [Bool.and_eq_true, Bool.false_or, decide_eq_true_eq] at this ⊢
    refine ⟨⟨this.1, ?_⟩, this.2⟩
    simpa [posB] using h4
theorem risB_ms (l : List Int) : risB l (-31) 31 = listB mdOk inLt 0 l := by
  unfold risB; exact listB_congr _ _ _ _ _ fun x => by unfold mdOk; rw [Bool.and_comm]
theorem risB_ys (l : List Int) : risB l 1 12 = listB moOk inLt 0 l := by
  unfold risB; refine listB_congr _ _ _ _ _ fun x => ?_
  unfold moOk
  rw [Bool.eq_iff_iff, Bool.and_eq_true, btw_iff, bne_iff_ne]
  constructor
  · exact fun h => h.1
  · intro h; exact ⟨h, by omega⟩
theorem isR_eq (r : T) : isR r = isB r := by
  unfold isR
  by_cases h0 : r.fr = 0
  · rw [if_pos h0, isB_0 r h0]
  rw [if_neg h0, isB_1 r h0]
  unfold recB
  cases hr : rangeB r
  · rw [if_pos rfl]; rfl
  have hf := rangeB_fr r hr
  rw [if_neg (by simp), Bool.true_and, risB_ms, risB_ys]
  have h4 : r.fr = 1 ∨ r.fr = 2 ∨ r.fr = 3 ∨ r.fr = 4 := by omega
  unfold wellB
  cases hm : (listB mdOk inLt 0 r.ms && listB moOk inLt 0 r.ys)
  · simp
  rcases h4 with e | e | e | e
  · rw [decide_eq_false (by omega), byDayB_neg]
    simp [suitB, e]
  · rw [decide_eq_false (by omega), byDayB_neg]
    rcases Nat.eq_zero_or_pos r.ms.length with h | h
    · have : r.ms = [] := List.eq_nil_of_length_eq_zero h
      simp [suitB, e, this]
    · have h2 : r.ms ≠ [] := by intro hc; rw [hc] at h; simp at h
      simp [suitB, e, h, h2]
  · rw [decide_eq_true (by omega), byDayB_pos]
    simp [suitB, e]
  · rw [decide_eq_true (by omega), byDayB_pos]
    simp [suitB, e]

/-- the place of a day. -/
structure P where
  mo : Int
  dy : Int
  de : Int
  wd : Int
  po : Int
  pe : Int
def placeOf (day : Int) : P :=
  let n := Cal.dim (Cal.yOf day) (Cal.mOf day)
  let d := Cal.dOf day
  ⟨Cal.mOf day, d, -(n - d + 1), Cal.wday day, (d - 1) / 7 + 1, -((n - d) / 7 + 1)⟩
def moFit (p : P) (n : Int) : Bool := decide (n = p.mo)
def mdFit (p : P) (n : Int) : Bool := decide (n = p.dy) || decide (n = p.de)
def wdFit (p : P) (w : Wd) : Bool := decide (w.2 = p.wd) && (decide (w.1 = 0) || (decide (w.1 = p.po) || decide (w.1 = p.pe)))
def admitB (r : T) (p : P) : Bool := emptyOr (moFit p) r.ys && (emptyOr (mdFit p) r.ms && emptyOr (wdFit p) r.ds)
def dayB (day : Int) : Bool := decide (0 ≤ day ∧ day < 36525)
def fitsB (r : T) (day : Int) : Bool := dayB day && (recB r && admitB r (placeOf day))

end Go.Proofs.YtojhajlhbhkddaaDoor.Rul

/- Put together: RuA RuB RuC. -/
import Derived.Test.YtojhajlhbhkddaaDoorRefC
import Derived.Test.YtojhajlhbhkddaaDoorRuMath
import Derived.WalkSpells
import Derived.WalkLawsBesides
import Derived.Lib.QuietBelow
import Derived.Deep.RegionHeld3
import Derived.Deep.DrawnRows

/- Walks of package rule, the smallest: between, comparisons, which weekdays, days of a month, months may be; lists in memory. -/
namespace Go.Proofs.YtojhajlhbhkddaaDoor
open Go.RowKit Rul

theorem below_drawn {B : Nat} {a w : World} (h : Below B a w) (n : Nat) : Below B a (w.drewN n) := ⟨h.os, h.tape, h.output, h.size, h.block⟩
theorem more {a w : World} (h : Below a.heap.size a w) (o : Obj) : Below a.heap.size a (w.alloc o) := h.alloc h.size o
theorem andthen {a b c : World} (h : Below a.heap.size a b) (k : Below b.heap.size b c) : Below a.heap.size a c := h.trans (k.mono h.size)
theorem start (a : World) : Below a.heap.size a a := Below.refl _ _
theorem old {W w1 : World} {B : Nat} (hb : Below B W w1) : (∀ b o, b < B → w1.cell? ⟨b, o, none⟩ = W.cell? ⟨b, o, none⟩) ∧ (∀ b o, b < B → w1.frozen? ⟨b, o, none⟩ = W.frozen? ⟨b, o, none⟩) :=
  ⟨fun b o h => hb.cell (p := ⟨b, o, none⟩) h, fun b o h => hb.frozen (p := ⟨b, o, none⟩) h⟩
theorem cell_keep {a b : World} {X k : Nat} {v : Value} (h : Below a.heap.size a b) (c : a.cell? ⟨X, k, none⟩ = some v) : b.cell? ⟨X, k, none⟩ = some v :=
  (h.cell (p := ⟨X, k, none⟩) (block_lt_of_cell c)).trans c
/-- what a call answers, at a named answer. -/
abbrev Ans (w : World) (v : Value) : Ending → World → Prop := fun e w' => e = .returned v ∧ Below w.heap.size w w'
theorem ans_is {P : Program} {f : FuncId} {args : Array Value} {w : World} {a b : Bool} (h : Calls P f args w (Ans w (.bool a))) (e : a = b) : Calls P f args w (Ans w (.bool b)) := by subst e; exact h
theorem ans_same {P : Program} {f : FuncId} {args : Array Value} {w : World} {v : Value} (h : Calls P f args w fun e w' => e = .returned v ∧ w = w') : Calls P f args w (Ans w v) :=
  h.mono fun _ _ ⟨he, hw⟩ => ⟨he, hw ▸ start _⟩

/-- a row of pairs, of numbers, in memory. -/
def RowD (w : World) (A : Option Addr) (l : List Wd) : Prop :=
  l ≠ [] → ∃ b off, A = some ⟨b, off, none⟩ ∧ b < w.heap.size ∧ ∀ i (h : i < l.length), w.cell? ⟨b, off + i * 2, none⟩ = some (.int .i64 l[i].1) ∧ w.cell? ⟨b, off + i * 2 + 1, none⟩ = some (.int .i64 l[i].2)
def RowI (w : World) (A : Option Addr) (l : List Int) : Prop :=
  l ≠ [] → ∃ b off, A = some ⟨b, off, none⟩ ∧ b < w.heap.size ∧ ∀ i (h : i < l.length), w.cell? ⟨b, off + i, none⟩ = some (.int .i64 l[i])
theorem RowD.keep {w w' : World} {A : Option Addr} {l : List Wd} (h : RowD w A l) (hb : Below w.heap.size w w') : RowD w' A l := fun hn => by
  obtain ⟨b, off, e, hl, hc⟩ := h hn
  exact ⟨b, off, e, Nat.lt_of_lt_of_le hl hb.size, fun i hi => ⟨(hb.cell (p := ⟨b, _, none⟩) hl).trans (hc i hi).1, (hb.cell (p := ⟨b, _, none⟩) hl).trans (hc i hi).2⟩⟩
theorem RowI.keep {w w' : World} {A : Option Addr} {l : List Int} (h : RowI w A l) (hb : Below w.heap.size w w') : RowI w' A l := fun hn => by
  obtain ⟨b, off, e, hl, hc⟩ := h hn
  exact ⟨b, off, e, Nat.lt_of_lt_of_le hl hb.size, fun i hi => (hb.cell (p := ⟨b, _, none⟩) hl).trans (hc i hi)⟩
theorem RowD.nil (w : World) (A : Option Addr) : RowD w A [] := fun h => absurd rfl h
theorem RowI.nil (w : World) (A : Option Addr) : RowI w A [] := fun h => absurd rfl h

/-- what a comparison answers. -/
def cmpI (a b : Int) : Int := if a < b then -1 else if b < a then 1 else 0
theorem cmpI_lt (a b : Int) : decide (0 ≤ cmpI a b) = !inLt a b := by
  unfold cmpI inLt
  by_cases h : a < b
  · rw [if_pos h, decide_eq_true h]; rfl
  · rw [if_neg h, decide_eq_false h]; split <;> rfl
theorem cmpI_eq (a b : Int) : cmpI a b = 0 ↔ a = b := by unfold cmpI; split <;> (try split) <;> omega

/-- what a comparison of weekdays answers. -/
def cmpW (a b : Wd) : Int := if a.1 = b.1 then cmpI a.2 b.2 else cmpI a.1 b.1
theorem cmpW_lt (a b : Wd) : decide (0 ≤ cmpW a b) = !wdLt a b := by
  unfold cmpW wdLt
  by_cases h : a.1 = b.1
  · rw [if_pos h, cmpI_lt]; unfold inLt; congr 1; simp [h]
  · rw [if_neg h, cmpI_lt]; unfold inLt; congr 1; simp [h]
/-- a place as a value. -/
abbrev pv (p : P) : Value := .agg #[.int .i64 p.mo, .int .i64 p.dy, .int .i64 p.de, .int .i64 p.wd, .int .i64 p.po, .int .i64 p.pe]
theorem wdFit_eq (p : P) (x y : Int) : wdFit p (x, y) = ((y == p.wd) && ((x == 0) || ((x == p.po) || (x == p.pe)))) := rfl
end Go.Proofs.YtojhajlhbhkddaaDoor

/- Walks of package rule: lists asked element by element, by function values. -/
namespace Go.Proofs.YtojhajlhbhkddaaDoor
open Go.RowKit Rul

theorem any_end {α : Type} (q : α → Bool) (l : List α) (j : Nat) (hj : j = l.length) (h : ∀ i (hi : i < l.length), i < j → q l[i] = false) : l.any q = false :=
  any_none q l fun i hi => h i hi (by omega)
theorem none_step {α : Type} (q : α → Bool) (l : List α) (j : Nat) (hj : j < l.length) (h : ∀ i (hi : i < l.length), i < j → q l[i] = false) (h2 : q l[j] = false) : ∀ i (hi : i < l.length), i < j + 1 → q l[i] = false := fun i hi h3 => by
  rcases Nat.lt_or_ge i j with g | g
  · exact h i hi g
  · obtain rfl : i = j := by omega
    exact h2
/-- an index, or -1: what a search answers. -/
def Finds (w : World) (b : Bool) (e : Ending) (w' : World) : Prop := ∃ v : Int, e = .returned (.int .i64 v) ∧ decide (0 ≤ v) = b ∧ Below w.heap.size w w'

end Go.Proofs.YtojhajlhbhkddaaDoor

/- Walks of package rule: whether elements may be a list; the library's Equal at lists. -/
namespace Go.Proofs.YtojhajlhbhkddaaDoor
open Go.RowKit Rul Go.Sort

theorem all_step {α : Type} (q : α → Bool) (lt : α → α → Bool) (d : α) (l : List α) (j : Nat) (h : ∀ i, i < j → stepB q lt d l i = true) (h2 : stepB q lt d l j = true) : ∀ i, i < j + 1 → stepB q lt d l i = true := fun i h3 => by
  rcases Nat.lt_or_ge i j with g | g
  · exact h i g
  · obtain rfl : i = j := by omega
    exact h2
theorem cmpI_yes (a b : Int) (h : inLt a b = true) : ∃ v, cmpI a b = v ∧ ¬ 0 ≤ v ∧ decide (0 ≤ v) = false := ⟨_, rfl, by have := cmpI_lt a b; rw [h] at this; simpa using this, by rw [cmpI_lt, h]; rfl⟩
theorem cmpI_no (a b : Int) (h : inLt a b = false) : ∃ v, cmpI a b = v ∧ 0 ≤ v ∧ decide (0 ≤ v) = true := ⟨_, rfl, by have := cmpI_lt a b; rw [h] at this; simpa using this, by rw [cmpI_lt, h]; rfl⟩
theorem cmpW_yes (a b : Wd) (h : wdLt a b = true) : ∃ v, cmpW a b = v ∧ ¬ 0 ≤ v ∧ decide (0 ≤ v) = false := ⟨_, rfl, by have := cmpW_lt a b; rw [h] at this; simpa using this, by rw [cmpW_lt, h]; rfl⟩
theorem cmpW_no (a b : Wd) (h : wdLt a b = false) : ∃ v, cmpW a b = v ∧ 0 ≤ v ∧ decide (0 ≤ v) = true := ⟨_, rfl, by have := cmpW_lt a b; rw [h] at this; simpa using this, by rw [cmpW_lt, h]; rfl⟩

end Go.Proofs.YtojhajlhbhkddaaDoor

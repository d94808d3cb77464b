/- ClD; ClE of the recipes, what is needed of them. -/
import Derived.Deep.RegionHeld3
import Derived.Deep.AppendLies
import Derived.Test.YtlmdceeeahnkcaaGreatDoorBC1
import Derived.Test.YtlmdceeeahnkcaaGreatDoorBS3
import Derived.Test.YtlmdceeeahnkcaaGreatDoorBS11
namespace Go.Proofs.YtlmdceeeahnkcaaGreatDoor.S2
open Go.RowKit Spn Cl Go.Sort

/-- one element of a family put in another's place. -/
def upd {α : Type} (f : Nat → α) (r : Nat) (v : α) (q : Nat) : α := if q = r then v else f q
theorem upd_same {α : Type} (f : Nat → α) (r : Nat) (v : α) : upd f r v r = v := if_pos rfl
theorem upd_other {α : Type} (f : Nat → α) (r q : Nat) (v : α) (h : q ≠ r) : upd f r v q = f q := if_neg h
/-- an array of rows lies at block X: the spans of each room. -/
structure Fam (w : World) (X B : Nat) (vs : Nat → Value) (f : Nat → List Sp) : Prop where
  lt : X < B
  le : B ≤ w.heap.size
  cell : ∀ r, r < 8 → w.cell? ⟨X, r, none⟩ = some (vs r)
  froz : ∀ r, w.frozen? ⟨X, r, none⟩ = false
  own : ∀ r, r < 8 → Own w B (vs r) (f r)
  apart : ∀ r q, r < 8 → q < 8 → q ≠ r → (vs q).ownBlock = none ∨ (vs q).ownBlock ≠ (vs r).ownBlock
theorem Fam.keep {w w' : World} {X B : Nat} {vs : Nat → Value} {f : Nat → List Sp} (h : Fam w X B vs f) (hb : Below w.heap.size w w') : Fam w' X B vs f :=
  ⟨h.lt, Nat.le_trans h.le hb.size, fun r hr => cell_keep hb (h.cell r hr), fun r => (hb.frozen (p := ⟨X, r, none⟩) (Nat.lt_of_lt_of_le h.lt h.le)).trans (h.froz r), fun r hr => Own.keep (h.own r hr) hb, h.apart⟩
theorem grown_set (w : World) (X r : Nat) (v : Value) : w.grownBy (w.setCell ⟨X, r, none⟩ v) (some X) :=
  ⟨rfl, rfl, rfl, by simp [World.setCell], fun i hi hne => by
    have : X ≠ i := fun e => hne (by rw [e])
    simp [World.setCell, Array.getElem?_modify, this]⟩
theorem Fam.congr {w : World} {X B : Nat} {vs : Nat → Value} {f g : Nat → List Sp} (h : Fam w X B vs f) (e : ∀ r, r < 8 → f r = g r) : Fam w X B vs g :=
  ⟨h.lt, h.le, h.cell, h.froz, fun r hr => by rw [← e r hr]; exact h.own r hr, h.apart⟩
theorem freshA {w w2 : World} {B : Nat} {v v4 : Value} {l l4 : List Sp} (h : Own w B v l) (h4 : Own w2 w.heap.size v4 l4) : (v.ownBlock = none ∨ v.ownBlock ≠ v4.ownBlock) ∧ (v4.ownBlock = none ∨ v4.ownBlock ≠ v.ownBlock) := by
  cases h1 : v.ownBlock with
  | none => exact ⟨Or.inl rfl, by cases h2 : v4.ownBlock with | none => exact Or.inl rfl | some b => exact Or.inr (by simp)⟩
  | some b =>
    cases h2 : v4.ownBlock with
    | none => exact ⟨Or.inr (by simp), Or.inl rfl⟩
    | some c =>
      have a1 := (h.lt b h1).2
      have a2 := (h4.lt c h2).1
      refine ⟨Or.inr ?_, Or.inr ?_⟩ <;> intro he <;> injection he with he <;> omega
theorem Own.set {w : World} {B X r : Nat} {v u : Value} {l : List Sp} (h : Own w B v l) (hX : X < B) : Own (w.setCell ⟨X, r, none⟩ u) B v l :=
  World.ownsRow.kept h (grown_set w X r u) (by
    cases hb : v.ownBlock with
    | none => exact Or.inl rfl
    | some b => right; intro he; injection he with he; have := (h.lt b hb).1; omega)
/-- another row put in the place of one. -/
theorem Fam.set {w : World} {X B r : Nat} {vs : Nat → Value} {f : Nat → List Sp} {v' : Value} {l' : List Sp} (h : Fam w X B vs f) (hr : r < 8) (ho : Own w B v' l') (ha : ∀ q, q < 8 → q ≠ r → ((vs q).ownBlock = none ∨ (vs q).ownBlock ≠ v'.ownBlock) ∧ (v'.ownBlock = none ∨ v'.ownBlock ≠ (vs q).ownBlock)) :
    Fam (w.setCell ⟨X, r, none⟩ v') X B (upd vs r v') (upd f r l') := by
  have hX : ∀ {v : Value} {l : List Sp}, Own w B v l → v.ownBlock = none ∨ v.ownBlock ≠ some X := fun {v} {l} hv => by
    cases hb : v.ownBlock with
    | none => exact Or.inl rfl
    | some b => right; intro he; injection he with he; have := (hv.lt b hb).1; have := h.lt; omega
  refine ⟨h.lt, ?_, fun q hq => ?_, fun q => ?_, fun q hq => ?_, fun p q hp hq hpq => ?_⟩
  · have e : (w.setCell ⟨X, r, none⟩ v').heap.size = w.heap.size := by simp [World.setCell]
    rw [e]; exact h.le
  · by_cases e : q = r
    · subst e; rw [upd_same]; exact World.cell?_setCell_same _ _ _ (h.cell q hq)
    · rw [upd_other _ _ _ _ e, World.cell?_setCell_other _ _ _ _ (by intro hc; injection hc with _ hc; exact e hc.symm)]; exact h.cell q hq
  · rw [World.frozen?_setCell]; exact h.froz q
  · by_cases e : q = r
    · subst e; rw [upd_same, upd_same]; exact World.ownsRow.kept ho (grown_set w X q v') (hX ho)
    · rw [upd_other _ _ _ _ e, upd_other _ _ _ _ e]; exact World.ownsRow.kept (h.own q hq) (grown_set w X r v') (hX (h.own q hq))
  · by_cases e : q = r
    · have e2 : p ≠ r := fun h => hpq (by rw [e, h])
      subst e; rw [upd_same, upd_other _ _ _ _ e2]; exact (ha p hp e2).2
    · by_cases e2 : p = r
      · subst e2; rw [upd_same, upd_other _ _ _ _ e]; exact (ha q hq e).1
      · rw [upd_other _ _ _ _ e, upd_other _ _ _ _ e2]; exact h.apart p q hp hq hpq
theorem apartL {w : World} {B : Nat} {v : Value} {l : List Sp} {b : Nat} (h : Own w B v l) (hb : b < B) : some b ≠ v.ownBlock := by
  intro he
  have := (h.lt b he.symm).1
  omega
theorem apartN {w : World} {B : Nat} {v : Value} {l : List Sp} {b : Nat} (h : Own w B v l) (hb : w.heap.size ≤ b) : some b ≠ v.ownBlock := by
  intro he
  have := (h.lt b he.symm).2
  omega
/-- one row has grown: behind that, all but its cell is as it was. -/
theorem Fam.goes {w w' : World} {X B r : Nat} {vs : Nat → Value} {f : Nat → List Sp} {v' : Value} (h : Fam w X B vs f) (hr : r < 8) (hg : Goes (vs r) w v' w') :
    X < B ∧ B ≤ w'.heap.size ∧ (∀ q, q < 8 → w'.cell? ⟨X, q, none⟩ = some (vs q)) ∧ (∀ q, w'.frozen? ⟨X, q, none⟩ = false) ∧ (∀ q, q < 8 → q ≠ r → Own w' B (vs q) (f q)) ∧ (∀ q, q < 8 → q ≠ r → ((vs q).ownBlock = none ∨ (vs q).ownBlock ≠ v'.ownBlock) ∧ (v'.ownBlock = none ∨ v'.ownBlock ≠ (vs q).ownBlock)) := by
  have hXw : X < w.heap.size := Nat.lt_of_lt_of_le h.lt h.le
  have hne : some X ≠ (vs r).ownBlock := apartL (h.own r hr) h.lt
  refine ⟨h.lt, Nat.le_trans h.le hg.grown.size, fun q hq => hg.grown.cell (h.cell q hq) hne, fun q => (World.grownBy.frozen_far hg.grown ⟨X, q, none⟩ hXw hne).trans (h.froz q), fun q hq hqr => World.ownsRow.kept (h.own q hq) hg.grown (h.apart r q hr hq hqr), fun q hq hqr => ?_⟩
  have hqo := h.own q hq
  rcases hg.own with e | ⟨k, e, hk⟩
  · rw [e]
    exact ⟨h.apart r q hr hq hqr, h.apart q r hq hr (Ne.symm hqr)⟩
  · rw [e]
    cases hb : (vs q).ownBlock with
    | none => exact ⟨Or.inl rfl, Or.inr (by simp)⟩
    | some b =>
      have := (hqo.lt b hb).2
      refine ⟨Or.inr ?_, Or.inr ?_⟩ <;> intro he <;> injection he with he <;> omega
theorem Fam.grow {w w' : World} {X B r : Nat} {vs : Nat → Value} {f : Nat → List Sp} {v' : Value} {l' : List Sp} (h : Fam w X B vs f) (hr : r < 8) (hg : Goes (vs r) w v' w') (ho : Own w' B v' l') :
    Fam (w'.setCell ⟨X, r, none⟩ v') X B (upd vs r v') (upd f r l') := by
  obtain ⟨h1, h2, h3, h4, h5, h6⟩ := h.goes hr hg
  have hX : ∀ {v : Value} {l : List Sp}, Own w' B v l → v.ownBlock = none ∨ v.ownBlock ≠ some X := fun {v} {l} hv => by
    cases hb : v.ownBlock with
    | none => exact Or.inl rfl
    | some b => right; intro he; injection he with he; have := (hv.lt b hb).1; omega
  refine ⟨h1, ?_, fun q hq => ?_, fun q => ?_, fun q hq => ?_, fun p q hp hq hpq => ?_⟩
  · have e : (w'.setCell ⟨X, r, none⟩ v').heap.size = w'.heap.size := by simp [World.setCell]
    rw [e]; exact h2
  · by_cases e : q = r
    · subst e; rw [upd_same]; exact World.cell?_setCell_same _ _ _ (h3 q hq)
    · rw [upd_other _ _ _ _ e, World.cell?_setCell_other _ _ _ _ (by intro hc; injection hc with _ hc; exact e hc.symm)]; exact h3 q hq
  · rw [World.frozen?_setCell]; exact h4 q
  · by_cases e : q = r
    · subst e; rw [upd_same, upd_same]; exact World.ownsRow.kept ho (grown_set w' X q v') (hX ho)
    · rw [upd_other _ _ _ _ e, upd_other _ _ _ _ e]; exact World.ownsRow.kept (h5 q hq e) (grown_set w' X r v') (hX (h5 q hq e))
  · by_cases e : q = r
    · have e2 : p ≠ r := fun h => hpq (by rw [e, h])
      subst e; rw [upd_same, upd_other _ _ _ _ e2]; exact (h6 p hp e2).2
    · by_cases e2 : p = r
      · subst e2; rw [upd_same, upd_other _ _ _ _ e]; exact (h6 q hq e).1
      · rw [upd_other _ _ _ _ e, upd_other _ _ _ _ e2]; exact h.apart p q hp hq hpq
/-- what lies ahead of the array is as it was. -/
theorem Fam.elsewhere {w w' : World} {X B r : Nat} {vs : Nat → Value} {f : Nat → List Sp} {v' : Value} (h : Fam w X B vs f) (hr : r < 8) (hg : Goes (vs r) w v' w') (p : Addr) (hp : p.block < X) (v : Value) : (w'.setCell ⟨X, r, none⟩ v).cell? p = w.cell? p ∧ (w'.setCell ⟨X, r, none⟩ v).frozen? p = w.frozen? p := by
  have hne : some p.block ≠ (vs r).ownBlock := apartL (h.own r hr) (Nat.lt_trans hp h.lt)
  have hpw : p.block < w.heap.size := Nat.lt_of_lt_of_le (Nat.lt_trans hp h.lt) h.le
  refine ⟨?_, ?_⟩
  · rw [World.cell?_setCell_other _ _ _ _ (by intro hc; rw [← hc] at hp; exact Nat.lt_irrefl _ hp)]
    exact World.grownBy.cell_far hg.grown p hpw hne
  · rw [World.frozen?_setCell]
    exact World.grownBy.frozen_far hg.grown p hpw hne
/-- all of it lies behind B. -/
theorem Fam.below {w w' : World} {X B r : Nat} {vs : Nat → Value} {f : Nat → List Sp} {v' : Value} {W : World} (h : Fam w X B vs f) (hr : r < 8) (hg : Goes (vs r) w v' w') (hX : W.heap.size ≤ X) (hb : Below W.heap.size W w) : Below W.heap.size W (w'.setCell ⟨X, r, none⟩ v') :=
  Below.setCell (hb.grown hg.grown hb.size fun j hj => Nat.le_trans hX (Nat.le_trans (Nat.le_of_lt h.lt) ((h.own r hr).lt j hj).1)) hX _
/-- eight cells of a block written anew. -/
def set8 (w : World) (b : Nat) (u : Nat → Value) : World := (((((((w.setCell ⟨b, 0, none⟩ (u 0)).setCell ⟨b, 1, none⟩ (u 1)).setCell ⟨b, 2, none⟩ (u 2)).setCell ⟨b, 3, none⟩ (u 3)).setCell ⟨b, 4, none⟩ (u 4)).setCell ⟨b, 5, none⟩ (u 5)).setCell ⟨b, 6, none⟩ (u 6)).setCell ⟨b, 7, none⟩ (u 7)
theorem setL {w : World} {b i j : Nat} {u v : Value} (h : w.cell? ⟨b, j, none⟩ = some v) (hij : i ≠ j) : (w.setCell ⟨b, i, none⟩ u).cell? ⟨b, j, none⟩ = some v := by
  rw [World.cell?_setCell_other _ _ _ _ (by intro hc; injection hc with _ hc; exact hij hc)]; exact h
theorem setS {w : World} {b i : Nat} {u v : Value} (h : w.cell? ⟨b, i, none⟩ = some v) : (w.setCell ⟨b, i, none⟩ u).cell? ⟨b, i, none⟩ = some u := World.cell?_setCell_same _ _ _ h
theorem set8_cell (w : World) (b : Nat) (u : Nat → Value) {v : Nat → Value} (h : ∀ k, k < 8 → w.cell? ⟨b, k, none⟩ = some (v k)) :
    (set8 w b u).cell? ⟨b, 0, none⟩ = some (u 0) ∧ (set8 w b u).cell? ⟨b, 1, none⟩ = some (u 1) ∧ (set8 w b u).cell? ⟨b, 2, none⟩ = some (u 2) ∧ (set8 w b u).cell? ⟨b, 3, none⟩ = some (u 3) ∧ (set8 w b u).cell? ⟨b, 4, none⟩ = some (u 4) ∧ (set8 w b u).cell? ⟨b, 5, none⟩ = some (u 5) ∧ (set8 w b u).cell? ⟨b, 6, none⟩ = some (u 6) ∧ (set8 w b u).cell? ⟨b, 7, none⟩ = some (u 7) := by
  unfold set8
  refine ⟨?_, ?_, ?_, ?_, ?_, ?_, ?_, ?_⟩
  · exact setL (setL (setL (setL (setL (setL (setL (setS (h 0 (by omega))) (by omega)) (by omega)) (by omega)) (by omega)) (by omega)) (by omega)) (by omega)
  · exact setL (setL (setL (setL (setL (setL (setS (setL (h 1 (by omega)) (by omega))) (by omega)) (by omega)) (by omega)) (by omega)) (by omega)) (by omega)
  · exact setL (setL (setL (setL (setL (setS (setL (setL (h 2 (by omega)) (by omega)) (by omega))) (by omega)) (by omega)) (by omega)) (by omega)) (by omega)
  · exact setL (setL (setL (setL (setS (setL (setL (setL (h 3 (by omega)) (by omega)) (by omega)) (by omega))) (by omega)) (by omega)) (by omega)) (by omega)
  · exact setL (setL (setL (setS (setL (setL (setL (setL (h 4 (by omega)) (by omega)) (by omega)) (by omega)) (by omega))) (by omega)) (by omega)) (by omega)
  · exact setL (setL (setS (setL (setL (setL (setL (setL (h 5 (by omega)) (by omega)) (by omega)) (by omega)) (by omega)) (by omega))) (by omega)) (by omega)
  · exact setL (setS (setL (setL (setL (setL (setL (setL (h 6 (by omega)) (by omega)) (by omega)) (by omega)) (by omega)) (by omega)) (by omega))) (by omega)
  · exact setS (setL (setL (setL (setL (setL (setL (setL (h 7 (by omega)) (by omega)) (by omega)) (by omega)) (by omega)) (by omega)) (by omega)) (by omega))
theorem set8_below {B b : Nat} {W w : World} (u : Nat → Value) (hb : Below B W w) (hB : B ≤ b) : Below B W (set8 w b u) :=
  Below.setCell (Below.setCell (Below.setCell (Below.setCell (Below.setCell (Below.setCell (Below.setCell (Below.setCell hb hB _) hB _) hB _) hB _) hB _) hB _) hB _) hB _
theorem set8_own {B b : Nat} {w : World} {v : Value} {l : List Sp} (u : Nat → Value) (h : Own w B v l) (hb : b < B) : Own (set8 w b u) B v l :=
  Own.set (Own.set (Own.set (Own.set (Own.set (Own.set (Own.set (Own.set h hb) hb) hb) hb) hb) hb) hb) hb
theorem results_cell1 {fn : Func} {p : Tmp} {ty : TypeId} (h : fn.results = #[.cell p ty]) (tmps : Array Value) (P : Program) (w : World) :
    (results fn tmps).run P w = ((asAddr (tmps.getD p undef)).run P w).andThen fun a w₁ => (loadVar ty a).run P w₁ := by
  simp only [results, h]
  simp [Sem.run_bind, Result.andThen]
/-- the eight rows as a value. -/
def famV (vs : Nat → Value) : Value := .agg #[vs 0, vs 1, vs 2, vs 3, vs 4, vs 5, vs 6, vs 7]
theorem idxF0 (v0 v1 v2 v3 v4 v5 v6 v7 : Value) (w : World) : (Instr.index 125 (.agg #[v0, v1, v2, v3, v4, v5, v6, v7]) (.int .i64 0)).run Tryz.prog w = .ok v0 w := by kernel_rfl
theorem idxF1 (v0 v1 v2 v3 v4 v5 v6 v7 : Value) (w : World) : (Instr.index 125 (.agg #[v0, v1, v2, v3, v4, v5, v6, v7]) (.int .i64 1)).run Tryz.prog w = .ok v1 w := by kernel_rfl
theorem idxF2 (v0 v1 v2 v3 v4 v5 v6 v7 : Value) (w : World) : (Instr.index 125 (.agg #[v0, v1, v2, v3, v4, v5, v6, v7]) (.int .i64 2)).run Tryz.prog w = .ok v2 w := by kernel_rfl
theorem idxF3 (v0 v1 v2 v3 v4 v5 v6 v7 : Value) (w : World) : (Instr.index 125 (.agg #[v0, v1, v2, v3, v4, v5, v6, v7]) (.int .i64 3)).run Tryz.prog w = .ok v3 w := by kernel_rfl
theorem idxF4 (v0 v1 v2 v3 v4 v5 v6 v7 : Value) (w : World) : (Instr.index 125 (.agg #[v0, v1, v2, v3, v4, v5, v6, v7]) (.int .i64 4)).run Tryz.prog w = .ok v4 w := by kernel_rfl
theorem idxF5 (v0 v1 v2 v3 v4 v5 v6 v7 : Value) (w : World) : (Instr.index 125 (.agg #[v0, v1, v2, v3, v4, v5, v6, v7]) (.int .i64 5)).run Tryz.prog w = .ok v5 w := by kernel_rfl
theorem idxF6 (v0 v1 v2 v3 v4 v5 v6 v7 : Value) (w : World) : (Instr.index 125 (.agg #[v0, v1, v2, v3, v4, v5, v6, v7]) (.int .i64 6)).run Tryz.prog w = .ok v6 w := by kernel_rfl
theorem idxF7 (v0 v1 v2 v3 v4 v5 v6 v7 : Value) (w : World) : (Instr.index 125 (.agg #[v0, v1, v2, v3, v4, v5, v6, v7]) (.int .i64 7)).run Tryz.prog w = .ok v7 w := by kernel_rfl
theorem idxF (vs : Nat → Value) (k : Nat) (h : k < 8) (w : World) : (Instr.index 125 (.agg #[vs 0, vs 1, vs 2, vs 3, vs 4, vs 5, vs 6, vs 7]) (.int .i64 (k : Int))).run Tryz.prog w = .ok (vs k) w := by
  rcases (by omega : k = 0 ∨ k = 1 ∨ k = 2 ∨ k = 3 ∨ k = 4 ∨ k = 5 ∨ k = 6 ∨ k = 7) with rfl | rfl | rfl | rfl | rfl | rfl | rfl | rfl
  · exact idxF0 _ _ _ _ _ _ _ _ w
  · exact idxF1 _ _ _ _ _ _ _ _ w
  · exact idxF2 _ _ _ _ _ _ _ _ w
  · exact idxF3 _ _ _ _ _ _ _ _ w
  · exact idxF4 _ _ _ _ _ _ _ _ w
  · exact idxF5 _ _ _ _ _ _ _ _ w
  · exact idxF6 _ _ _ _ _ _ _ _ w
  · exact idxF7 _ _ _ _ _ _ _ _ w
/-- a call hands back the rows of each room. -/
def GivesF (W : World) (f : Nat → List Sp) (e : Ending) (w : World) : Prop := ∃ vs, e = .returned (famV vs) ∧ (∀ r, r < 8 → Own w W.heap.size (vs r) (f r)) ∧ Below W.heap.size W w
end Go.Proofs.YtlmdceeeahnkcaaGreatDoor.S2
namespace Go.Proofs.YtlmdceeeahnkcaaGreatDoor.S2
open Go.RowKit Spn Cl Go.Sort

theorem spans_yes (l : List C) (k r : Nat) (h : k < l.length) (s : Sp) (hl : l[k] = ((r : Int), s)) (hok : okC ((r : Int), s) = true) (q : Nat) : spansOf (l.take (k + 1)) q = upd (fun q => spansOf (l.take k) (q : Int)) r (spansOf (l.take k) r ++ [s]) q := by
  rw [List.take_succ_eq_append_getElem h, hl]
  unfold upd spansOf
  rw [List.filter_append, List.map_append]
  by_cases e : q = r
  · subst e; simp [hok]
  · rw [if_neg e]
    have : ¬ (r : Int) = (q : Int) := by omega
    simp [this]
theorem spans_no (l : List C) (k : Nat) (h : k < l.length) (hok : okC l[k] = false) (q : Int) : spansOf (l.take (k + 1)) q = spansOf (l.take k) q := by
  rw [List.take_succ_eq_append_getElem h]
  unfold spansOf
  rw [List.filter_append]
  simp [hok]
theorem spans_len (l : List C) (q : Int) : (spansOf l q).length ≤ l.length := by
  unfold spansOf; rw [List.length_map]; exact List.length_filter_le _ _
theorem keepC3 {W W1 : World} (hb : Below W.heap.size W W1) {a0 a1 a2 : Addr} {v0 v1 v2 : Value} (h : W.cell? a0 = some v0 ∧ W.cell? a1 = some v1 ∧ W.cell? a2 = some v2) : W1.cell? a0 = some v0 ∧ W1.cell? a1 = some v1 ∧ W1.cell? a2 = some v2 :=
  ⟨cell_keep hb h.1, cell_keep hb h.2.1, cell_keep hb h.2.2⟩
theorem goesC3 {v v' : Value} {W W1 : World} (hg : Goes v W v' W1) {b : Nat} (hne : some b ≠ v.ownBlock) {i0 i1 i2 : Nat} {v0 v1 v2 : Value} (h : W.cell? ⟨b, i0, none⟩ = some v0 ∧ W.cell? ⟨b, i1, none⟩ = some v1 ∧ W.cell? ⟨b, i2, none⟩ = some v2) : W1.cell? ⟨b, i0, none⟩ = some v0 ∧ W1.cell? ⟨b, i1, none⟩ = some v1 ∧ W1.cell? ⟨b, i2, none⟩ = some v2 :=
  ⟨hg.grown.cell h.1 hne, hg.grown.cell h.2.1 hne, hg.grown.cell h.2.2 hne⟩
theorem setC3 {W : World} {X b r : Nat} (v : Value) (hne : X ≠ b) {i0 i1 i2 : Nat} {v0 v1 v2 : Value} (h : W.cell? ⟨b, i0, none⟩ = some v0 ∧ W.cell? ⟨b, i1, none⟩ = some v1 ∧ W.cell? ⟨b, i2, none⟩ = some v2) : (W.setCell ⟨X, r, none⟩ v).cell? ⟨b, i0, none⟩ = some v0 ∧ (W.setCell ⟨X, r, none⟩ v).cell? ⟨b, i1, none⟩ = some v1 ∧ (W.setCell ⟨X, r, none⟩ v).cell? ⟨b, i2, none⟩ = some v2 := by
  refine ⟨?_, ?_, ?_⟩ <;> rw [World.cell?_setCell_other _ _ _ _ (by intro hc; injection hc with hc; exact hne hc)]
  · exact h.1
  · exact h.2.1
  · exact h.2.2

theorem zero8 (w : World) (y : TypeId) (r : Nat) (h : r < 8) : (w.alloc (.cells #[.slice none 0 0, .slice none 0 0, .slice none 0 0, .slice none 0 0, .slice none 0 0, .slice none 0 0, .slice none 0 0, .slice none 0 0] y)).cell? ⟨w.heap.size, r, none⟩ = some (.slice none 0 0) := by
  rw [World.cell?_alloc_at _ _ _ _ rfl]
  rcases (by omega : r = 0 ∨ r = 1 ∨ r = 2 ∨ r = 3 ∨ r = 4 ∨ r = 5 ∨ r = 6 ∨ r = 7) with rfl | rfl | rfl | rfl | rfl | rfl | rfl | rfl <;> rfl
theorem zeroF (w : World) (y : TypeId) (r : Nat) : (w.alloc (.cells #[.slice none 0 0, .slice none 0 0, .slice none 0 0, .slice none 0 0, .slice none 0 0, .slice none 0 0, .slice none 0 0, .slice none 0 0] y)).frozen? ⟨w.heap.size, r, none⟩ = false := by
  exact World.frozen?_alloc_at _ _ _ _ rfl
theorem cells_new1 (W : World) (f t : Int) (y : TypeId) : ∀ i (h : i < [((f, t) : Sp)].length), (W.alloc (.cells #[.int .i64 f, .int .i64 t] y)).cell? ⟨W.heap.size, 0 + i * 2, none⟩ = some (.int .i64 [((f, t) : Sp)][i].1) ∧ (W.alloc (.cells #[.int .i64 f, .int .i64 t] y)).cell? ⟨W.heap.size, 0 + i * 2 + 1, none⟩ = some (.int .i64 [((f, t) : Sp)][i].2) := by
  intro i hi
  obtain rfl : i = 0 := by simpa using hi
  constructor <;> rw [World.cell?_alloc_at _ _ _ _ rfl] <;> rfl
theorem moreC3 {W : World} (o : Obj) {a0 a1 a2 : Addr} {v0 v1 v2 : Value} (h : W.cell? a0 = some v0 ∧ W.cell? a1 = some v1 ∧ W.cell? a2 = some v2) : (W.alloc o).cell? a0 = some v0 ∧ (W.alloc o).cell? a1 = some v1 ∧ (W.alloc o).cell? a2 = some v2 := keepC3 (more (start _) _) h
theorem fam_new (w : World) (y : TypeId) : Fam (w.alloc (.cells #[.slice none 0 0, .slice none 0 0, .slice none 0 0, .slice none 0 0, .slice none 0 0, .slice none 0 0, .slice none 0 0, .slice none 0 0] y)) w.heap.size (w.heap.size + 1) (fun _ => .slice none 0 0) (fun _ => []) :=
  ⟨Nat.lt_succ_self _, by simp, fun r h => zero8 w y r h, fun r => zeroF w y r, fun _ _ => own_nil _ _, fun _ _ _ _ _ => Or.inl rfl⟩

set_option linter.unusedSimpArgs false in
set_option maxRecDepth 100000 in
set_option maxHeartbeats 4000000 in
theorem neat_any (A : Option Addr) (n c : Nat) (l : List C) (w : World) (h : RowC w A l) (he : n = l.length) (hn : l.length ≤ 1000000) :
    Calls Tryz.prog 84 #[.slice A n c] w (GivesF w (neatF l)) := by
  subst he
  have hbx1 := more (start w) (.cells #[.slice none 0 0, .slice none 0 0, .slice none 0 0, .slice none 0 0, .slice none 0 0, .slice none 0 0, .slice none 0 0, .slice none 0 0] 125)
  have hbx := more hbx1 (.cells #[.slice none 0 0, .slice none 0 0, .slice none 0 0, .slice none 0 0, .slice none 0 0, .slice none 0 0, .slice none 0 0, .slice none 0 0] 125)
  have HROW := hide h
  have HF0 := fam_new (w.alloc (.cells #[.slice none 0 0, .slice none 0 0, .slice none 0 0, .slice none 0 0, .slice none 0 0, .slice none 0 0, .slice none 0 0, .slice none 0 0] 125)) 125
  have hR0 : ∀ r, r < 8 → ((w.alloc (.cells #[.slice none 0 0, .slice none 0 0, .slice none 0 0, .slice none 0 0, .slice none 0 0, .slice none 0 0, .slice none 0 0, .slice none 0 0] 125)).alloc (.cells #[.slice none 0 0, .slice none 0 0, .slice none 0 0, .slice none 0 0, .slice none 0 0, .slice none 0 0, .slice none 0 0, .slice none 0 0] 125)).cell? ⟨w.heap.size, r, none⟩ = some (.slice none 0 0) := fun r h => cell_keep (more (start _) _) (zero8 w _ r h)
  have hR1 : ∀ r, ((w.alloc (.cells #[.slice none 0 0, .slice none 0 0, .slice none 0 0, .slice none 0 0, .slice none 0 0, .slice none 0 0, .slice none 0 0, .slice none 0 0] 125)).alloc (.cells #[.slice none 0 0, .slice none 0 0, .slice none 0 0, .slice none 0 0, .slice none 0 0, .slice none 0 0, .slice none 0 0, .slice none 0 0] 125)).frozen? ⟨w.heap.size, r, none⟩ = false := fun r => ((more (start (w.alloc _)) _).frozen (p := ⟨w.heap.size, r, none⟩) (by simp)).trans (zeroF w _ r)
  rw [World.size_alloc] at HF0
  have hsz : ((w.alloc (.cells #[.slice none 0 0, .slice none 0 0, .slice none 0 0, .slice none 0 0, .slice none 0 0, .slice none 0 0, .slice none 0 0, .slice none 0 0] 125)).alloc (.cells #[.slice none 0 0, .slice none 0 0, .slice none 0 0, .slice none 0 0, .slice none 0 0, .slice none 0 0, .slice none 0 0, .slice none 0 0] 125)).heap.size = w.heap.size + 1 + 1 := by simp
  clear h
  go_enter Tryz.func84, Tryz.ntmps84
  go_wp2_with fail
  generalize hW : (w.alloc (.cells #[.slice none 0 0, .slice none 0 0, .slice none 0 0, .slice none 0 0, .slice none 0 0, .slice none 0 0, .slice none 0 0, .slice none 0 0] 125)).alloc (.cells #[.slice none 0 0, .slice none 0 0, .slice none 0 0, .slice none 0 0, .slice none 0 0, .slice none 0 0, .slice none 0 0, .slice none 0 0] 125) = W at *
  have HF := hide HF0
  have HBX := hide hbx
  clear hW HF0 hbx hbx1
  go_loopw [10] (fun i wr => ∃ (k : Nat) (vs : Nat → Value), k ≤ l.length ∧ i = .int .i64 k ∧ Hid (Fam wr (w.heap.size + 1) (w.heap.size + 1 + 1) vs (fun q => spansOf (l.take k) (q : Int))) ∧ Hid (∀ r, r < 8 → wr.cell? ⟨w.heap.size, r, none⟩ = some (.slice none 0 0)) ∧ Hid (∀ r, wr.frozen? ⟨w.heap.size, r, none⟩ = false) ∧ Hid (Below w.heap.size w wr)) (fun i _ => l.length - (intOf i).toNat)
  case atStart => exact ⟨0, fun _ => .slice none 0 0, Nat.zero_le _, rfl, hide HF.out, hide hR0, hide hR1, hide HBX.out⟩
  case round =>
    obtain ⟨k, vs, hk, rfl, HFK, HR0, HR1, HBR⟩ := hrel
    by_cases hlt : k < l.length
    · obtain ⟨b, off, rfl, hb, hcl⟩ := HROW.out.keep HBR.out (by intro h0; rw [h0] at hlt; exact absurd hlt (Nat.not_lt_zero _))
      obtain ⟨d0, d1, d2⟩ := hcl k hlt
      have hi0 : (0 : Int) ≤ (k : Int) := by omega
      have hi1 : (k : Int) < (l.length : Int) := by omega
      obtain ⟨m, hm⟩ : ∃ m, l[k] = m := ⟨_, rfl⟩
      obtain ⟨ri, f, t⟩ := m
      rw [hm] at d0 d1 d2
      simp only at d0 d1 d2
      have HBb := hide (more (start wr) (.cells #[.int .i64 ri, .int .i64 f, .int .i64 t] 52))
      have HS0 := hide (box3 wr ri f t)
      cases hok : okC (ri, (f, t))
      · have HOK := hide hok
        have HN : Hid (∀ q : Int, spansOf (l.take (k + 1)) q = spansOf (l.take k) q) := hide (spans_no l k hlt (by rw [hm]; exact hok))
        clear hok hcl hm
        go_wp2_with fail
        refine (cIs_at ri f t false _ HOK.out).mono ?_
        rintro e w1 ⟨rfl, hb1⟩
        have hbb := andthen HBb.out hb1
        go_wp2_with fail
        go_roundw
        case rel => exact ⟨k + 1, vs, by omega, by go_num, hide (by have := HFK.out.keep hbb; simp only [HN.out]; exact this), hide (fun r h => cell_keep hbb (HR0.out r h)), hide (fun r => ((hbb.frozen (p := ⟨w.heap.size, r, none⟩) (by have := HFK.out.le; show w.heap.size < wr.heap.size; omega)).trans (HR1.out r))), hide (HBR.out.trans (hbb.mono HBR.out.size))⟩
        case measure => simp [intOf]; omega
      · have HOK := hide hok
        obtain ⟨r, rfl⟩ : ∃ r : Nat, ri = (r : Int) := ⟨ri.toNat, by have := ((okC_iff _).1 hok).1.1; simp only at this; omega⟩
        have hr8 : r < 8 := by have := ((okC_iff _).1 hok).1.2; simp only at this; omega
        have HN : Hid (∀ q : Nat, spansOf (l.take (k + 1)) (q : Int) = upd (fun q => spansOf (l.take k) (q : Int)) r (spansOf (l.take k) (r : Int) ++ [(f, t)]) q) := hide (fun q => spans_yes l k r hlt (f, t) hm hok q)
        have HLN : Hid ((spansOf (l.take k) (r : Int)).length ≤ 1000000) := hide (Nat.le_trans (spans_len _ _) (Nat.le_trans (List.length_take_le _ _) (by omega)))
        have hr0 : (0 : Int) ≤ (r : Int) := by omega
        have hr9 : (r : Int) < 8 := by omega
        clear hok hcl hm
        go_wp2_with fail
        refine (cIs_at (r : Int) f t true _ HOK.out).mono ?_
        rintro e w1 ⟨rfl, hb1⟩
        have hbb := andthen HBb.out hb1
        have HS := hide (keepC3 hb1 HS0.out)
        have HFb := hide (HFK.out.keep hbb)
        have HR0b : Hid (∀ r, r < 8 → w1.cell? ⟨w.heap.size, r, none⟩ = some (.slice none 0 0)) := hide (fun r h => cell_keep hbb (HR0.out r h))
        have HR1b : Hid (∀ r, w1.frozen? ⟨w.heap.size, r, none⟩ = false) := hide (fun r => ((hbb.frozen (p := ⟨w.heap.size, r, none⟩) (by have := HFK.out.le; show w.heap.size < wr.heap.size; omega)).trans (HR1.out r)))
        have HBRb := hide (HBR.out.trans (hbb.mono HBR.out.size))
        have hwz := HFK.out.le
        have hzz : wr.heap.size < w1.heap.size := by have := hb1.size; simp only [World.size_alloc] at this; omega
        have HNX : Hid (w.heap.size + 1 ≠ wr.heap.size) := hide (by omega)
        have HNE := hide (apartN (HFK.out.own r hr8) (Nat.le_refl _))
        have hxa : (w1.drew).cell? ⟨w.heap.size + 1, r, none⟩ = some (vs r) := HFb.out.cell r hr8
        have hxb : (w1.drew.alloc (.cells #[.int .i64 f, .int .i64 t] 50)).cell? ⟨w.heap.size + 1, r, none⟩ = some (vs r) := (HFb.out.keep (more (start w1).drew _)).cell r hr8
        have hxc : ((w1.alloc (.cells #[.int .i64 f, .int .i64 t] 50)).drew).cell? ⟨w.heap.size + 1, r, none⟩ = some (vs r) := hxb
        clear hbb hb1
        go_wp2_with fail
        refine wp_region_held_drew (S := fun w' => w'.cell? ⟨wr.heap.size, 0, none⟩ = some (.int .i64 (r : Int)) ∧ w'.cell? ⟨wr.heap.size, 1, none⟩ = some (.int .i64 f) ∧ w'.cell? ⟨wr.heap.size, 2, none⟩ = some (.int .i64 t)) (by kernel_rfl) ?_ (fun hH0 => ?_)
        · exact keepC3 (start w1).drew HS.out
        refine' wpAnyH_take (i := 0) (oi := _) (v := ?v0) rfl (by as_aux_lemma => kernel_rfl) (by as_aux_lemma => kernel_rfl) (by as_aux_lemma => kernel_rfl) (fun _ _ _ h => h) (Or.inl ⟨by rfl, ?y0⟩) hH0 ?r0
        case y0 => (intro w hSw; (try dsimp only at hSw); go_simp; (try with_reducible rfl))
        try simp only [Act.put, List.getElem_toArray, List.getElem_cons_succ, List.getElem_cons_zero, List.setIfInBounds_toArray, List.set_cons_zero, List.set_cons_succ]
        refine' wpAnyH_take (i := 1) (oi := _) (v := ?v1) rfl (by as_aux_lemma => kernel_rfl) (by as_aux_lemma => kernel_rfl) (by as_aux_lemma => kernel_rfl) (fun _ _ _ h => h) (Or.inl ⟨by rfl, ?y1⟩) hH0 ?r1
        case y1 => (intro w hSw; (try dsimp only at hSw); go_simp; (try with_reducible rfl))
        try simp only [Act.put, List.getElem_toArray, List.getElem_cons_succ, List.getElem_cons_zero, List.setIfInBounds_toArray, List.set_cons_zero, List.set_cons_succ]
        refine' wpAnyH_take (i := 2) (oi := _) (v := ?v2) rfl (by as_aux_lemma => kernel_rfl) (by as_aux_lemma => kernel_rfl) (by as_aux_lemma => kernel_rfl) (fun _ _ _ h => h) (Or.inl ⟨by rfl, ?y2⟩) hH0 ?r2
        case y2 => (intro w hSw; (try dsimp only at hSw); go_simp; (try with_reducible rfl))
        try simp only [Act.put, List.getElem_toArray, List.getElem_cons_succ, List.getElem_cons_zero, List.setIfInBounds_toArray, List.set_cons_zero, List.set_cons_succ]
        refine' wpAnyH_take (i := 3) (oi := _) (v := ?v3) rfl (by as_aux_lemma => kernel_rfl) (by as_aux_lemma => kernel_rfl) (by as_aux_lemma => kernel_rfl) (fun _ _ _ h => h) (Or.inl ⟨by rfl, ?y3⟩) hH0 ?r3
        case y3 => (intro w hSw; (try dsimp only at hSw); go_simp; (try with_reducible rfl))
        try simp only [Act.put, List.getElem_toArray, List.getElem_cons_succ, List.getElem_cons_zero, List.setIfInBounds_toArray, List.set_cons_zero, List.set_cons_succ]
        refine' wpAnyH_take (i := 4) (oi := _) (v := ?v4) rfl (by as_aux_lemma => kernel_rfl) (by as_aux_lemma => kernel_rfl) (by as_aux_lemma => kernel_rfl) (fun _ _ _ h => h) (Or.inl ⟨by rfl, ?y4⟩) hH0 ?r4
        case y4 => (intro w hSw; (try dsimp only at hSw); go_simp; (try with_reducible rfl))
        try simp only [Act.put, List.getElem_toArray, List.getElem_cons_succ, List.getElem_cons_zero, List.setIfInBounds_toArray, List.set_cons_zero, List.set_cons_succ]
        refine' wpAnyH_take (i := 6) (oi := _) (v := ?v5) rfl (by as_aux_lemma => kernel_rfl) (by as_aux_lemma => kernel_rfl) (by as_aux_lemma => kernel_rfl) (fun _ _ _ h => h) (Or.inl ⟨by rfl, ?y5⟩) hH0 ?r5
        case y5 => (intro w hSw; (try dsimp only at hSw); go_simp; (try with_reducible rfl))
        try simp only [Act.put, List.getElem_toArray, List.getElem_cons_succ, List.getElem_cons_zero, List.setIfInBounds_toArray, List.set_cons_zero, List.set_cons_succ]
        refine' wpAnyH_take (i := 7) (oi := _) (v := ?v6) rfl (by as_aux_lemma => kernel_rfl) (by as_aux_lemma => kernel_rfl) (by as_aux_lemma => kernel_rfl) (fun _ _ _ h => h) (Or.inl ⟨by rfl, ?y6⟩) hH0 ?r6
        case y6 => (intro w hSw; (try dsimp only at hSw); go_simp; (try with_reducible rfl))
        try simp only [Act.put, List.getElem_toArray, List.getElem_cons_succ, List.getElem_cons_zero, List.setIfInBounds_toArray, List.set_cons_zero, List.set_cons_succ]
        refine wpAnyH_ready (rs := [5, 8]) (by as_aux_lemma => kernel_rfl) (by simp) ?_
        refine AllReadyH.cons (o := _) rfl (fun K hK => ?_) (AllReadyH.cons (o := _) rfl (fun K hK => ?_) AllReadyH.nil)
        · go_simp
          refine hK.out _ _ (hH0) (fun hN => ?_)
          clear hK K hH0
          have hH1 := hN
          clear hN
          try simp only [Act.put, List.getElem_toArray, List.getElem_cons_succ, List.getElem_cons_zero, List.setIfInBounds_toArray, List.set_cons_zero, List.set_cons_succ]
          refine wpAnyH_ready (rs := [8]) (by as_aux_lemma => kernel_rfl) (by simp) ?_
          refine AllReadyH.cons (o := _) rfl (fun K hK => ?_) AllReadyH.nil
          go_simp
          refine hK.out _ _ (moreC3 _ hH1) (fun hN => ?_)
          clear hK K hH1
          have hH2 := hN
          clear hN
          try simp only [Act.put, List.getElem_toArray, List.getElem_cons_succ, List.getElem_cons_zero, List.setIfInBounds_toArray, List.set_cons_zero, List.set_cons_succ]
          refine wpAnyH_ready (rs := [9]) (by as_aux_lemma => kernel_rfl) (by simp) ?_
          refine AllReadyH.cons (o := _) rfl (fun K hK => ?_) AllReadyH.nil
          refine step_at (B := w.heap.size + 1 + 1) (l := spansOf (l.take k) (r : Int)) (k := [(f, t)]) rfl _ _ rfl rfl rfl rfl (cells_new1 w1.drew f t _) ((HFb.out.keep (more (start w1).drew _)).own r hr8) (Nat.le_trans HFb.out.le (more (start w1).drew _).size) HLN.out (by simp) ?_
          intro v3 w3 hown3 hgo3
          obtain ⟨v4, hv4⟩ : ∃ v, v = v3 := ⟨_, rfl⟩
          have hown4 := hown3
          have hgo4 := hgo3
          rw [← hv4] at hown4 hgo4
          obtain ⟨A3, c3, rfl, _⟩ := Own.row hown3
          have hG := (Fam.keep HFb.out (more (start w1).drew (.cells #[.int .i64 f, .int .i64 t] 50))).goes hr8 hgo3
          have hx3 := hG.2.2.1 r hr8
          have hf3 := hG.2.2.2.1 r
          refine hK.out _ _ (goesC3 hgo3 HNE.out hH2) (fun hN => ?_)
          clear hK K hH2
          have hH3 := hN
          clear hN
          try simp only [Act.put, List.getElem_toArray, List.getElem_cons_succ, List.getElem_cons_zero, List.setIfInBounds_toArray, List.set_cons_zero, List.set_cons_succ]
          refine' wpAnyH_take (i := 10) (oi := _) (v := ?v7) rfl (by as_aux_lemma => kernel_rfl) (by as_aux_lemma => kernel_rfl) (by as_aux_lemma => kernel_rfl) (fun _ _ _ h => h) (Or.inl ⟨by rfl, ?y7⟩) hH3 ?r7
          case y7 => (intro w hSw; (try dsimp only at hSw); go_simp; (try with_reducible rfl))
          try simp only [Act.put, List.getElem_toArray, List.getElem_cons_succ, List.getElem_cons_zero, List.setIfInBounds_toArray, List.set_cons_zero, List.set_cons_succ]
          refine wpAnyH_ready (rs := [11]) (by as_aux_lemma => kernel_rfl) (by simp) ?_
          refine AllReadyH.cons (o := _) rfl (fun K hK => ?_) AllReadyH.nil
          go_simp
          refine hK.out _ _ (setC3 _ HNX.out hH3) (fun hN => ?_)
          clear hK K hH3
          have hH4 := hN
          clear hN
          try simp only [Act.put, List.getElem_toArray, List.getElem_cons_succ, List.getElem_cons_zero, List.setIfInBounds_toArray, List.set_cons_zero, List.set_cons_succ]
          refine wpAnyH_done (by as_aux_lemma => kernel_rfl) ?_ _
          have HFN := hide ((Fam.keep HFb.out (more (start w1).drew (.cells #[.int .i64 f, .int .i64 t] 50))).grow hr8 hgo4 hown4)
          have HBN := hide ((Fam.keep HFb.out (more (start w1).drew (.cells #[.int .i64 f, .int .i64 t] 50))).below hr8 hgo4 (Nat.le_succ _) (HBRb.out.trans ((more (start w1).drew _).mono HBRb.out.size)))
          have hE := (Fam.keep HFb.out (more (start w1).drew (.cells #[.int .i64 f, .int .i64 t] 50))).elsewhere hr8 hgo4
          rw [hv4] at HFN HBN
          simp only [List.length_append, List.length_cons, List.length_nil, Nat.zero_add] at HFN HBN
          clear hH4 hG hx3 hf3 hown4 hgo4 hown3 hgo3
          go_wp2_with fail
          go_roundw
          case rel => exact ⟨k + 1, upd vs r _, by omega, by go_num, hide (by simp only [HN.out]; exact HFN.out), hide (fun q hq => ((hE ⟨w.heap.size, q, none⟩ (Nat.lt_succ_self _) _).1).trans (cell_keep (more (start w1).drew _) (HR0b.out q hq))), hide (fun q => ((hE ⟨w.heap.size, q, none⟩ (Nat.lt_succ_self _) _).2).trans (((more (start w1).drew _).frozen (p := ⟨w.heap.size, q, none⟩) (by have := HFb.out.le; show w.heap.size < w1.heap.size; omega)).trans (HR1b.out q))), hide HBN.out⟩
          case measure => simp [intOf]; omega
        · go_simp
          refine hK.out _ _ (moreC3 _ hH0) (fun hN => ?_)
          clear hK K hH0
          have hH1 := hN
          clear hN
          try simp only [Act.put, List.getElem_toArray, List.getElem_cons_succ, List.getElem_cons_zero, List.setIfInBounds_toArray, List.set_cons_zero, List.set_cons_succ]
          refine wpAnyH_ready (rs := [5]) (by as_aux_lemma => kernel_rfl) (by simp) ?_
          refine AllReadyH.cons (o := _) rfl (fun K hK => ?_) AllReadyH.nil
          go_simp
          refine hK.out _ _ (hH1) (fun hN => ?_)
          clear hK K hH1
          have hH2 := hN
          clear hN
          try simp only [Act.put, List.getElem_toArray, List.getElem_cons_succ, List.getElem_cons_zero, List.setIfInBounds_toArray, List.set_cons_zero, List.set_cons_succ]
          refine wpAnyH_ready (rs := [9]) (by as_aux_lemma => kernel_rfl) (by simp) ?_
          refine AllReadyH.cons (o := _) rfl (fun K hK => ?_) AllReadyH.nil
          refine step_at (B := w.heap.size + 1 + 1) (l := spansOf (l.take k) (r : Int)) (k := [(f, t)]) rfl _ _ rfl rfl rfl rfl (cells_new1 w1.drew f t _) ((HFb.out.keep (more (start w1).drew _)).own r hr8) (Nat.le_trans HFb.out.le (more (start w1).drew _).size) HLN.out (by simp) ?_
          intro v3 w3 hown3 hgo3
          obtain ⟨v4, hv4⟩ : ∃ v, v = v3 := ⟨_, rfl⟩
          have hown4 := hown3
          have hgo4 := hgo3
          rw [← hv4] at hown4 hgo4
          obtain ⟨A3, c3, rfl, _⟩ := Own.row hown3
          have hG := (Fam.keep HFb.out (more (start w1).drew (.cells #[.int .i64 f, .int .i64 t] 50))).goes hr8 hgo3
          have hx3 := hG.2.2.1 r hr8
          have hf3 := hG.2.2.2.1 r
          refine hK.out _ _ (goesC3 hgo3 HNE.out hH2) (fun hN => ?_)
          clear hK K hH2
          have hH3 := hN
          clear hN
          try simp only [Act.put, List.getElem_toArray, List.getElem_cons_succ, List.getElem_cons_zero, List.setIfInBounds_toArray, List.set_cons_zero, List.set_cons_succ]
          refine' wpAnyH_take (i := 10) (oi := _) (v := ?v8) rfl (by as_aux_lemma => kernel_rfl) (by as_aux_lemma => kernel_rfl) (by as_aux_lemma => kernel_rfl) (fun _ _ _ h => h) (Or.inl ⟨by rfl, ?y8⟩) hH3 ?r8
          case y8 => (intro w hSw; (try dsimp only at hSw); go_simp; (try with_reducible rfl))
          try simp only [Act.put, List.getElem_toArray, List.getElem_cons_succ, List.getElem_cons_zero, List.setIfInBounds_toArray, List.set_cons_zero, List.set_cons_succ]
          refine wpAnyH_ready (rs := [11]) (by as_aux_lemma => kernel_rfl) (by simp) ?_
          refine AllReadyH.cons (o := _) rfl (fun K hK => ?_) AllReadyH.nil
          go_simp
          refine hK.out _ _ (setC3 _ HNX.out hH3) (fun hN => ?_)
          clear hK K hH3
          have hH4 := hN
          clear hN
          try simp only [Act.put, List.getElem_toArray, List.getElem_cons_succ, List.getElem_cons_zero, List.setIfInBounds_toArray, List.set_cons_zero, List.set_cons_succ]
          refine wpAnyH_done (by as_aux_lemma => kernel_rfl) ?_ _
          have HFN := hide ((Fam.keep HFb.out (more (start w1).drew (.cells #[.int .i64 f, .int .i64 t] 50))).grow hr8 hgo4 hown4)
          have HBN := hide ((Fam.keep HFb.out (more (start w1).drew (.cells #[.int .i64 f, .int .i64 t] 50))).below hr8 hgo4 (Nat.le_succ _) (HBRb.out.trans ((more (start w1).drew _).mono HBRb.out.size)))
          have hE := (Fam.keep HFb.out (more (start w1).drew (.cells #[.int .i64 f, .int .i64 t] 50))).elsewhere hr8 hgo4
          rw [hv4] at HFN HBN
          simp only [List.length_append, List.length_cons, List.length_nil, Nat.zero_add] at HFN HBN
          clear hH4 hG hx3 hf3 hown4 hgo4 hown3 hgo3
          go_wp2_with fail
          go_roundw
          case rel => exact ⟨k + 1, upd vs r _, by omega, by go_num, hide (by simp only [HN.out]; exact HFN.out), hide (fun q hq => ((hE ⟨w.heap.size, q, none⟩ (Nat.lt_succ_self _) _).1).trans (cell_keep (more (start w1).drew _) (HR0b.out q hq))), hide (fun q => ((hE ⟨w.heap.size, q, none⟩ (Nat.lt_succ_self _) _).2).trans (((more (start w1).drew _).frozen (p := ⟨w.heap.size, q, none⟩) (by have := HFb.out.le; show w.heap.size < w1.heap.size; omega)).trans (HR1b.out q))), hide HBN.out⟩
          case measure => simp [intOf]; omega
    · obtain rfl : k = l.length := by omega
      rw [List.take_length] at HFK
      obtain ⟨p0, p1, p2, p3, p4, p5, p6, p7⟩ : wr.cell? ⟨w.heap.size + 1, 0, none⟩ = some (vs 0) ∧ wr.cell? ⟨w.heap.size + 1, 1, none⟩ = some (vs 1) ∧ wr.cell? ⟨w.heap.size + 1, 2, none⟩ = some (vs 2) ∧ wr.cell? ⟨w.heap.size + 1, 3, none⟩ = some (vs 3) ∧ wr.cell? ⟨w.heap.size + 1, 4, none⟩ = some (vs 4) ∧ wr.cell? ⟨w.heap.size + 1, 5, none⟩ = some (vs 5) ∧ wr.cell? ⟨w.heap.size + 1, 6, none⟩ = some (vs 6) ∧ wr.cell? ⟨w.heap.size + 1, 7, none⟩ = some (vs 7) :=
        ⟨HFK.out.cell 0 (by omega), HFK.out.cell 1 (by omega), HFK.out.cell 2 (by omega), HFK.out.cell 3 (by omega), HFK.out.cell 4 (by omega), HFK.out.cell 5 (by omega), HFK.out.cell 6 (by omega), HFK.out.cell 7 (by omega)⟩
      go_wp2_with fail
      clear p0 p1 p2 p3 p4 p5 p6 p7
      go_loopw [29] (fun i wq => ∃ (k : Nat) (us : Nat → Value), k ≤ 8 ∧ i = .int .i64 k ∧ Hid (Fam wq (w.heap.size + 1) (w.heap.size + 1 + 1) us (fun q => if q < k then neatF l q else spansOf l (q : Int))) ∧ Hid (∀ r, r < 8 → Own wq (w.heap.size + 1 + 1) (vs r) (spansOf l (r : Int))) ∧ Hid (∀ r, r < 8 → wq.cell? ⟨w.heap.size, r, none⟩ = some (.slice none 0 0)) ∧ Hid (∀ r, wq.frozen? ⟨w.heap.size, r, none⟩ = false) ∧ Hid (Below w.heap.size w wq)) (fun i _ => 8 - (intOf i).toNat)
      case atStart => exact ⟨0, vs, by omega, rfl, hide (by simpa using HFK.out), hide HFK.out.own, hide HR0.out, hide HR1.out, hide HBR.out⟩
      case round =>
        obtain ⟨k, us, hk8, rfl, HFQ, HOQ, HQ0, HQ1, HBQ⟩ := hrel
        by_cases hlt8 : k < 8
        · have hk0 : (0 : Int) ≤ (k : Int) := by omega
          have hk9 : (k : Int) < 8 := by omega
          have HIX := idxF vs k hlt8 wr
          obtain ⟨Ak, ck, hvk, hrk⟩ := Own.row (HOQ.out k hlt8)
          rw [hvk] at HIX
          have HLK : Hid ((spansOf l (k : Int)).length ≤ 1000000) := hide (Nat.le_trans (spans_len _ _) hn)
          have HRK := hide hrk
          clear hrk
          go_wp2_with fail
          refine (all_any Ak _ ck (spansOf l (k : Int)) wr HRK.out rfl HLK.out).mono ?_
          rintro e w2 ⟨v2, rfl, hown2, hb2⟩
          obtain ⟨v4, hv4⟩ : ∃ v, v = v2 := ⟨_, rfl⟩
          have HO4 := hide hown2
          have HB2 := hide hb2
          rw [← hv4] at HO4
          obtain ⟨A2, c2, rfl, _⟩ := Own.row hown2
          have HF2 := hide (HFQ.out.keep hb2)
          have hx2 := HF2.out.cell k hlt8
          have hf2 := HF2.out.froz k
          clear hown2 hb2
          go_wp2_with fail
          go_roundw
          case rel =>
            have hlo := HFQ.out.lt
            have hle := HFQ.out.le
            refine ⟨k + 1, upd us k v4, by omega, by go_num, hide ?_, hide (fun r hr => ?_), hide (fun r hr => ?_), hide (fun r => ?_), hide ?_⟩
            · rw [← hv4]
              refine (HF2.out.set hlt8 (HO4.out.low hle) fun q hq _ => freshA (HFQ.out.own q hq) HO4.out).congr fun q hq => ?_
              by_cases e : q = k
              · subst e; rw [upd_same, if_pos (Nat.lt_succ_self _)]; rfl
              · rw [upd_other _ _ _ _ e]
                by_cases e2 : q < k
                · rw [if_pos e2, if_pos (Nat.lt_succ_of_lt e2)]
                · rw [if_neg e2, if_neg (by omega)]
            · exact Own.set (Own.keep (HOQ.out r hr) HB2.out) hlo
            · rw [World.cell?_setCell_other _ _ _ _ (by intro hc; injection hc with hc; omega)]
              exact cell_keep HB2.out (HQ0.out r hr)
            · rw [World.frozen?_setCell]
              exact (HB2.out.frozen (p := ⟨w.heap.size, r, none⟩) (by show w.heap.size < wr.heap.size; omega)).trans (HQ1.out r)
            · exact Below.setCell (HBQ.out.trans (HB2.out.mono HBQ.out.size)) (Nat.le_succ _) _
          case measure => simp [intOf]; omega
        · obtain rfl : k = 8 := by omega
          have HFE : Hid (Fam wr (w.heap.size + 1) (w.heap.size + 1 + 1) us (neatF l)) := hide (HFQ.out.congr fun r hr => by rw [if_pos hr])
          clear HFQ HOQ HFK HR0 HR1 HBR
          obtain ⟨p0, p1, p2, p3, p4, p5, p6, p7⟩ : wr.cell? ⟨w.heap.size + 1, 0, none⟩ = some (us 0) ∧ wr.cell? ⟨w.heap.size + 1, 1, none⟩ = some (us 1) ∧ wr.cell? ⟨w.heap.size + 1, 2, none⟩ = some (us 2) ∧ wr.cell? ⟨w.heap.size + 1, 3, none⟩ = some (us 3) ∧ wr.cell? ⟨w.heap.size + 1, 4, none⟩ = some (us 4) ∧ wr.cell? ⟨w.heap.size + 1, 5, none⟩ = some (us 5) ∧ wr.cell? ⟨w.heap.size + 1, 6, none⟩ = some (us 6) ∧ wr.cell? ⟨w.heap.size + 1, 7, none⟩ = some (us 7) :=
            ⟨HFE.out.cell 0 (by omega), HFE.out.cell 1 (by omega), HFE.out.cell 2 (by omega), HFE.out.cell 3 (by omega), HFE.out.cell 4 (by omega), HFE.out.cell 5 (by omega), HFE.out.cell 6 (by omega), HFE.out.cell 7 (by omega)⟩
          obtain ⟨q0, q1, q2, q3, q4, q5, q6, q7⟩ : wr.cell? ⟨w.heap.size, 0, none⟩ = some (.slice none 0 0) ∧ wr.cell? ⟨w.heap.size, 1, none⟩ = some (.slice none 0 0) ∧ wr.cell? ⟨w.heap.size, 2, none⟩ = some (.slice none 0 0) ∧ wr.cell? ⟨w.heap.size, 3, none⟩ = some (.slice none 0 0) ∧ wr.cell? ⟨w.heap.size, 4, none⟩ = some (.slice none 0 0) ∧ wr.cell? ⟨w.heap.size, 5, none⟩ = some (.slice none 0 0) ∧ wr.cell? ⟨w.heap.size, 6, none⟩ = some (.slice none 0 0) ∧ wr.cell? ⟨w.heap.size, 7, none⟩ = some (.slice none 0 0) :=
            ⟨HQ0.out 0 (by omega), HQ0.out 1 (by omega), HQ0.out 2 (by omega), HQ0.out 3 (by omega), HQ0.out 4 (by omega), HQ0.out 5 (by omega), HQ0.out 6 (by omega), HQ0.out 7 (by omega)⟩
          have f0 := HQ1.out 0
          have f1 := HQ1.out 1
          have f2 := HQ1.out 2
          have f3 := HQ1.out 3
          have f4 := HQ1.out 4
          have f5 := HQ1.out 5
          have f6 := HQ1.out 6
          have f7 := HQ1.out 7
          obtain ⟨A0, c0, e0, _⟩ := Own.row (HFE.out.own 0 (by omega))
          obtain ⟨A1, c1, e1, _⟩ := Own.row (HFE.out.own 1 (by omega))
          obtain ⟨A2, c2, e2, _⟩ := Own.row (HFE.out.own 2 (by omega))
          obtain ⟨A3, c3, e3, _⟩ := Own.row (HFE.out.own 3 (by omega))
          obtain ⟨A4, c4, e4, _⟩ := Own.row (HFE.out.own 4 (by omega))
          obtain ⟨A5, c5, e5, _⟩ := Own.row (HFE.out.own 5 (by omega))
          obtain ⟨A6, c6, e6, _⟩ := Own.row (HFE.out.own 6 (by omega))
          obtain ⟨A7, c7, e7, _⟩ := Own.row (HFE.out.own 7 (by omega))
          rw [e0] at p0; rw [e1] at p1; rw [e2] at p2; rw [e3] at p3; rw [e4] at p4; rw [e5] at p5; rw [e6] at p6; rw [e7] at p7
          go_wp2_with fail
          rw [← e0, ← e1, ← e2, ← e3, ← e4, ← e5, ← e6, ← e7]
          obtain ⟨r0, r1, r2, r3, r4, r5, r6, r7⟩ := set8_cell wr w.heap.size us (v := fun _ => .slice none 0 0) (fun k hk => HQ0.out k hk)
          have HBE := hide (set8_below us HBQ.out (Nat.le_refl w.heap.size))
          have HOE := hide (fun r (hr : r < 8) => Own.low (B := w.heap.size) (set8_own us (HFE.out.own r hr) (show w.heap.size < w.heap.size + 1 + 1 by omega)) (by omega))
          unfold set8 at r0 r1 r2 r3 r4 r5 r6 r7 HBE HOE
          clear q0 q1 q2 q3 q4 q5 q6 q7 f0 f1 f2 f3 f4 f5 f6 f7 p0 p1 p2 p3 p4 p5 p6 p7 e0 e1 e2 e3 e4 e5 e6 e7 HFE HQ0 HQ1 HBQ
          generalize (((((((wr.setCell ⟨w.heap.size, 0, none⟩ (us 0)).setCell ⟨w.heap.size, 1, none⟩ (us 1)).setCell ⟨w.heap.size, 2, none⟩ (us 2)).setCell ⟨w.heap.size, 3, none⟩ (us 3)).setCell ⟨w.heap.size, 4, none⟩ (us 4)).setCell ⟨w.heap.size, 5, none⟩ (us 5)).setCell ⟨w.heap.size, 6, none⟩ (us 6)).setCell ⟨w.heap.size, 7, none⟩ (us 7) = WZ at *
          (try simp only [Exit.inBlock, Exit.then])
          refine bodyPost_ret (v := famV us) ?_ rfl ⟨us, rfl, HOE.out, HBE.out⟩
          rw [results_cell1 rfl]
          go_simp
          rfl
end Go.Proofs.YtlmdceeeahnkcaaGreatDoor.S2

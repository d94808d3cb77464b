/- Package claim: the spans of each room as an array of rows; neat. -/
import Derived.Deep.RegionHeld3
import Derived.Deep.AppendLies
import Derived.Test.YtgihekokbgggcaaGreatZC1
import Derived.Test.YtgihekokbgggcaaGreatZBS3
namespace Go.Proofs.YtgihekokbgggcaaGreat.S2
open Go.RowKit Spn Cl Go.Sort
def upd {α : Type} (f : Nat -> α) (r : Nat) (v : α) (q : Nat) : α:=if q = r then v else f q
theorem upd_same {α : Type} (f : Nat -> α) (r : Nat) (v : α) : upd f r v r = v:=if_pos rfl
theorem upd_other {α : Type} (f : Nat -> α) (r q : Nat) (v : α) (h : q ≠ r) : upd f r v q = f q:=if_neg h
structure Fam (w : World) (X B : Nat) (vs : Nat -> Value) (f : Nat -> List Sp) : Prop where
 lt : X < B
 le : B <= w.heap.size
 cell : ∀ r,r < 8 -> w.cell? ⟨X,r,none⟩ = some (vs r)
 froz : ∀ r,w.frozen? ⟨X,r,none⟩ = false
 own : ∀ r,r < 8 -> Own w B (vs r) (f r)
 apart : ∀ r q,r < 8 -> q < 8 -> q ≠ r -> (vs q).ownBlock = none ∨ (vs q).ownBlock ≠ (vs r).ownBlock
theorem Fam.keep {w w' : World} {X B : Nat} {vs : Nat -> Value} {f : Nat -> List Sp} (h : Fam w X B vs f) (hb : Below w.heap.size w w') : Fam w' X B vs f :=
 ⟨h.lt,Nat.le_trans h.le hb.size,fun r hr => cell_keep hb (h.cell r hr),fun r => (hb.frozen (p:=⟨X,r,none⟩) (Nat.lt_of_lt_of_le h.lt h.le)).trans (h.froz r),fun r hr => Own.keep (h.own r hr) hb,h.apart⟩
theorem grown_set (w : World) (X r : Nat) (v : Value) : w.grownBy (w.setCell ⟨X,r,none⟩ v) (some X) :=
 ⟨rfl,rfl,rfl,by simp [World.setCell],fun i hi hne => by
  have : X ≠ i:=fun e => hne (by rw [e])
  simp [World.setCell,Array.getElem?_modify,this]⟩
theorem Fam.congr {w : World} {X B : Nat} {vs : Nat -> Value} {f g : Nat -> List Sp} (h : Fam w X B vs f) (e : ∀ r,r < 8 -> f r = g r) : Fam w X B vs g :=
 ⟨h.lt,h.le,h.cell,h.froz,fun r hr => by rw [<- e r hr]; exact h.own r hr,h.apart⟩
theorem freshA {w w2 : World} {B : Nat} {v v4 : Value} {l l4 : List Sp} (h : Own w B v l) (h4 : Own w2 w.heap.size v4 l4) : (v.ownBlock = none ∨ v.ownBlock ≠ v4.ownBlock) /\ (v4.ownBlock = none ∨ v4.ownBlock ≠ v.ownBlock):=by
 cases h1 : v.ownBlock with
 | none => exact ⟨Or.inl rfl,by cases h2 : v4.ownBlock with | none => exact Or.inl rfl | some b => exact Or.inr (by simp)⟩
 | some b =>
  cases h2 : v4.ownBlock with
  | none => exact ⟨Or.inr (by simp),Or.inl rfl⟩
  | some c =>
   have a1:=(h.lt b h1).2
   have a2:=(h4.lt c h2).1
   refine ⟨Or.inr ?_,Or.inr ?_⟩ <;> intro he <;> injection he with he <;> omega
theorem Own.set {w : World} {B X r : Nat} {v u : Value} {l : List Sp} (h : Own w B v l) (hX : X < B) : Own (w.setCell ⟨X,r,none⟩ u) B v l :=
 World.ownsRow.kept h (grown_set w X r u) (by
  cases hb : v.ownBlock with
  | none => exact Or.inl rfl
  | some b => right; intro he; injection he with he; have:=(h.lt b hb).1; omega)
theorem Fam.set {w : World} {X B r : Nat} {vs : Nat -> Value} {f : Nat -> List Sp} {v' : Value} {l' : List Sp} (h : Fam w X B vs f) (hr : r < 8) (ho : Own w B v' l') (ha : ∀ q,q < 8 -> q ≠ r -> ((vs q).ownBlock = none ∨ (vs q).ownBlock ≠ v'.ownBlock) /\ (v'.ownBlock = none ∨ v'.ownBlock ≠ (vs q).ownBlock)) :
  Fam (w.setCell ⟨X,r,none⟩ v') X B (upd vs r v') (upd f r l'):=by
 have hX : ∀ {v : Value} {l : List Sp},Own w B v l -> v.ownBlock = none ∨ v.ownBlock ≠ some X:=fun {v} {l} hv => by
  cases hb : v.ownBlock with
  | none => exact Or.inl rfl
  | some b => right; intro he; injection he with he; have:=(hv.lt b hb).1; have:=h.lt; omega
 refine ⟨h.lt,?_,fun q hq => ?_,fun q => ?_,fun q hq => ?_,fun p q hp hq hpq => ?_⟩
 ·have e : (w.setCell ⟨X,r,none⟩ v').heap.size = w.heap.size:=by simp [World.setCell]
  rw [e]; exact h.le
 ·by_cases e : q = r
  ·subst e; rw [upd_same]; exact World.cell?_setCell_same _ _ _ (h.cell q hq)
  ·rw [upd_other _ _ _ _ e,World.cell?_setCell_other _ _ _ _ (by intro hc; injection hc with _ hc; exact e hc.symm)]; exact h.cell q hq
 ·rw [World.frozen?_setCell]; exact h.froz q
 ·by_cases e : q = r
  ·subst e; rw [upd_same,upd_same]; exact World.ownsRow.kept ho (grown_set w X q v') (hX ho)
  ·rw [upd_other _ _ _ _ e,upd_other _ _ _ _ e]; exact World.ownsRow.kept (h.own q hq) (grown_set w X r v') (hX (h.own q hq))
 ·by_cases e : q = r
  ·have e2 : p ≠ r:=fun h => hpq (by rw [e,h])
   subst e; rw [upd_same,upd_other _ _ _ _ e2]; exact (ha p hp e2).2
  ·by_cases e2 : p = r
   ·subst e2; rw [upd_same,upd_other _ _ _ _ e]; exact (ha q hq e).1
   ·rw [upd_other _ _ _ _ e,upd_other _ _ _ _ e2]; exact h.apart p q hp hq hpq
theorem apartL {w : World} {B : Nat} {v : Value} {l : List Sp} {b : Nat} (h : Own w B v l) (hb : b < B) : some b ≠ v.ownBlock:=by
 intro he
 have:=(h.lt b he.symm).1
 omega
theorem apartN {w : World} {B : Nat} {v : Value} {l : List Sp} {b : Nat} (h : Own w B v l) (hb : w.heap.size <= b) : some b ≠ v.ownBlock:=by
 intro he
 have:=(h.lt b he.symm).2
 omega
theorem Fam.goes {w w' : World} {X B r : Nat} {vs : Nat -> Value} {f : Nat -> List Sp} {v' : Value} (h : Fam w X B vs f) (hr : r < 8) (hg : Goes (vs r) w v' w') :
  X < B /\ B <= w'.heap.size /\ (∀ q,q < 8 -> w'.cell? ⟨X,q,none⟩ = some (vs q)) /\ (∀ q,w'.frozen? ⟨X,q,none⟩ = false) /\ (∀ q,q < 8 -> q ≠ r -> Own w' B (vs q) (f q)) /\ (∀ q,q < 8 -> q ≠ r -> ((vs q).ownBlock = none ∨ (vs q).ownBlock ≠ v'.ownBlock) /\ (v'.ownBlock = none ∨ v'.ownBlock ≠ (vs q).ownBlock)):=by
 have hXw : X < w.heap.size:=Nat.lt_of_lt_of_le h.lt h.le
 have hne : some X ≠ (vs r).ownBlock:=apartL (h.own r hr) h.lt
 refine ⟨h.lt,Nat.le_trans h.le hg.grown.size,fun q hq => hg.grown.cell (h.cell q hq) hne,fun q => (World.grownBy.frozen_far hg.grown ⟨X,q,none⟩ hXw hne).trans (h.froz q),fun q hq hqr => World.ownsRow.kept (h.own q hq) hg.grown (h.apart r q hr hq hqr),fun q hq hqr => ?_⟩
 have hqo:=h.own q hq
 rcases hg.own with e | ⟨k,e,hk⟩
 ·rw [e]
  exact ⟨h.apart r q hr hq hqr,h.apart q r hq hr (Ne.symm hqr)⟩
 ·rw [e]
  cases hb : (vs q).ownBlock with
  | none => exact ⟨Or.inl rfl,Or.inr (by simp)⟩
  | some b =>
   have:=(hqo.lt b hb).2
   refine ⟨Or.inr ?_,Or.inr ?_⟩ <;> intro he <;> injection he with he <;> omega
theorem Fam.grow {w w' : World} {X B r : Nat} {vs : Nat -> Value} {f : Nat -> List Sp} {v' : Value} {l' : List Sp} (h : Fam w X B vs f) (hr : r < 8) (hg : Goes (vs r) w v' w') (ho : Own w' B v' l') :
  Fam (w'.setCell ⟨X,r,none⟩ v') X B (upd vs r v') (upd f r l'):=by
 obtain ⟨h1,h2,h3,h4,h5,h6⟩:=h.goes hr hg
 have hX : ∀ {v : Value} {l : List Sp},Own w' B v l -> v.ownBlock = none ∨ v.ownBlock ≠ some X:=fun {v} {l} hv => by
  cases hb : v.ownBlock with
  | none => exact Or.inl rfl
  | some b => right; intro he; injection he with he; have:=(hv.lt b hb).1; omega
 refine ⟨h1,?_,fun q hq => ?_,fun q => ?_,fun q hq => ?_,fun p q hp hq hpq => ?_⟩
 ·have e : (w'.setCell ⟨X,r,none⟩ v').heap.size = w'.heap.size:=by simp [World.setCell]
  rw [e]; exact h2
 ·by_cases e : q = r
  ·subst e; rw [upd_same]; exact World.cell?_setCell_same _ _ _ (h3 q hq)
  ·rw [upd_other _ _ _ _ e,World.cell?_setCell_other _ _ _ _ (by intro hc; injection hc with _ hc; exact e hc.symm)]; exact h3 q hq
 ·rw [World.frozen?_setCell]; exact h4 q
 ·by_cases e : q = r
  ·subst e; rw [upd_same,upd_same]; exact World.ownsRow.kept ho (grown_set w' X q v') (hX ho)
  ·rw [upd_other _ _ _ _ e,upd_other _ _ _ _ e]; exact World.ownsRow.kept (h5 q hq e) (grown_set w' X r v') (hX (h5 q hq e))
 ·by_cases e : q = r
  ·have e2 : p ≠ r:=fun h => hpq (by rw [e,h])
   subst e; rw [upd_same,upd_other _ _ _ _ e2]; exact (h6 p hp e2).2
  ·by_cases e2 : p = r
   ·subst e2; rw [upd_same,upd_other _ _ _ _ e]; exact (h6 q hq e).1
   ·rw [upd_other _ _ _ _ e,upd_other _ _ _ _ e2]; exact h.apart p q hp hq hpq
theorem Fam.elsewhere {w w' : World} {X B r : Nat} {vs : Nat -> Value} {f : Nat -> List Sp} {v' : Value} (h : Fam w X B vs f) (hr : r < 8) (hg : Goes (vs r) w v' w') (p : Addr) (hp : p.block < X) (v : Value) : (w'.setCell ⟨X,r,none⟩ v).cell? p = w.cell? p /\ (w'.setCell ⟨X,r,none⟩ v).frozen? p = w.frozen? p:=by
 have hne : some p.block ≠ (vs r).ownBlock:=apartL (h.own r hr) (Nat.lt_trans hp h.lt)
 have hpw : p.block < w.heap.size:=Nat.lt_of_lt_of_le (Nat.lt_trans hp h.lt) h.le
 refine ⟨?_,?_⟩
 ·rw [World.cell?_setCell_other _ _ _ _ (by intro hc; rw [<- hc] at hp; exact Nat.lt_irrefl _ hp)]
  exact World.grownBy.cell_far hg.grown p hpw hne
 ·rw [World.frozen?_setCell]
  exact World.grownBy.frozen_far hg.grown p hpw hne
theorem Fam.below {w w' : World} {X B r : Nat} {vs : Nat -> Value} {f : Nat -> List Sp} {v' : Value} {W : World} (h : Fam w X B vs f) (hr : r < 8) (hg : Goes (vs r) w v' w') (hX : W.heap.size <= X) (hb : Below W.heap.size W w) : Below W.heap.size W (w'.setCell ⟨X,r,none⟩ v') :=
 Below.setCell (hb.grown hg.grown hb.size fun j hj => Nat.le_trans hX (Nat.le_trans (Nat.le_of_lt h.lt) ((h.own r hr).lt j hj).1)) hX _
def set8 (w : World) (b : Nat) (u : Nat -> Value) : World:=(((((((w.setCell ⟨b,0,none⟩ (u 0)).setCell ⟨b,1,none⟩ (u 1)).setCell ⟨b,2,none⟩ (u 2)).setCell ⟨b,3,none⟩ (u 3)).setCell ⟨b,4,none⟩ (u 4)).setCell ⟨b,5,none⟩ (u 5)).setCell ⟨b,6,none⟩ (u 6)).setCell ⟨b,7,none⟩ (u 7)
theorem setL {w : World} {b i j : Nat} {u v : Value} (h : w.cell? ⟨b,j,none⟩ = some v) (hij : i ≠ j) : (w.setCell ⟨b,i,none⟩ u).cell? ⟨b,j,none⟩ = some v:=by
 rw [World.cell?_setCell_other _ _ _ _ (by intro hc; injection hc with _ hc; exact hij hc)]; exact h
theorem setS {w : World} {b i : Nat} {u v : Value} (h : w.cell? ⟨b,i,none⟩ = some v) : (w.setCell ⟨b,i,none⟩ u).cell? ⟨b,i,none⟩ = some u:=World.cell?_setCell_same _ _ _ h
theorem set8_cell (w : World) (b : Nat) (u : Nat -> Value) {v : Nat -> Value} (h : ∀ k,k < 8 -> w.cell? ⟨b,k,none⟩ = some (v k)) :
  (set8 w b u).cell? ⟨b,0,none⟩ = some (u 0) /\ (set8 w b u).cell? ⟨b,1,none⟩ = some (u 1) /\ (set8 w b u).cell? ⟨b,2,none⟩ = some (u 2) /\ (set8 w b u).cell? ⟨b,3,none⟩ = some (u 3) /\ (set8 w b u).cell? ⟨b,4,none⟩ = some (u 4) /\ (set8 w b u).cell? ⟨b,5,none⟩ = some (u 5) /\ (set8 w b u).cell? ⟨b,6,none⟩ = some (u 6) /\ (set8 w b u).cell? ⟨b,7,none⟩ = some (u 7):=by
 unfold set8
 refine ⟨?_,?_,?_,?_,?_,?_,?_,?_⟩
 ·exact setL (setL (setL (setL (setL (setL (setL (setS (h 0 (by omega))) (by omega)) (by omega)) (by omega)) (by omega)) (by omega)) (by omega)) (by omega)
 ·exact setL (setL (setL (setL (setL (setL (setS (setL (h 1 (by omega)) (by omega))) (by omega)) (by omega)) (by omega)) (by omega)) (by omega)) (by omega)
 ·exact setL (setL (setL (setL (setL (setS (setL (setL (h 2 (by omega)) (by omega)) (by omega))) (by omega)) (by omega)) (by omega)) (by omega)) (by omega)
 ·exact setL (setL (setL (setL (setS (setL (setL (setL (h 3 (by omega)) (by omega)) (by omega)) (by omega))) (by omega)) (by omega)) (by omega)) (by omega)
 ·exact setL (setL (setL (setS (setL (setL (setL (setL (h 4 (by omega)) (by omega)) (by omega)) (by omega)) (by omega))) (by omega)) (by omega)) (by omega)
 ·exact setL (setL (setS (setL (setL (setL (setL (setL (h 5 (by omega)) (by omega)) (by omega)) (by omega)) (by omega)) (by omega))) (by omega)) (by omega)
 ·exact setL (setS (setL (setL (setL (setL (setL (setL (h 6 (by omega)) (by omega)) (by omega)) (by omega)) (by omega)) (by omega)) (by omega))) (by omega)
 ·exact setS (setL (setL (setL (setL (setL (setL (setL (h 7 (by omega)) (by omega)) (by omega)) (by omega)) (by omega)) (by omega)) (by omega)) (by omega))
theorem set8_below {B b : Nat} {W w : World} (u : Nat -> Value) (hb : Below B W w) (hB : B <= b) : Below B W (set8 w b u) :=
 Below.setCell (Below.setCell (Below.setCell (Below.setCell (Below.setCell (Below.setCell (Below.setCell (Below.setCell hb hB _) hB _) hB _) hB _) hB _) hB _) hB _) hB _
theorem set8_own {B b : Nat} {w : World} {v : Value} {l : List Sp} (u : Nat -> Value) (h : Own w B v l) (hb : b < B) : Own (set8 w b u) B v l :=
 Own.set (Own.set (Own.set (Own.set (Own.set (Own.set (Own.set (Own.set h hb) hb) hb) hb) hb) hb) hb) hb
theorem results_cell1 {fn : Func} {p : Tmp} {ty : TypeId} (h : fn.results = #[.cell p ty]) (tmps : Array Value) (P : Program) (w : World) :
  (results fn tmps).run P w = ((asAddr (tmps.getD p undef)).run P w).andThen fun a w₁ => (loadVar ty a).run P w₁:=by
 simp only [results,h]
 simp [Sem.run_bind,Result.andThen]
def famV (vs : Nat -> Value) : Value:=.agg #[vs 0,vs 1,vs 2,vs 3,vs 4,vs 5,vs 6,vs 7]
theorem idxF0 (v0 v1 v2 v3 v4 v5 v6 v7 : Value) (w : World) : (Instr.index 66 (.agg #[v0,v1,v2,v3,v4,v5,v6,v7]) (.int .i64 0)).run Tryz.prog w = .ok v0 w:=by kernel_rfl
theorem idxF1 (v0 v1 v2 v3 v4 v5 v6 v7 : Value) (w : World) : (Instr.index 66 (.agg #[v0,v1,v2,v3,v4,v5,v6,v7]) (.int .i64 1)).run Tryz.prog w = .ok v1 w:=by kernel_rfl
theorem idxF2 (v0 v1 v2 v3 v4 v5 v6 v7 : Value) (w : World) : (Instr.index 66 (.agg #[v0,v1,v2,v3,v4,v5,v6,v7]) (.int .i64 2)).run Tryz.prog w = .ok v2 w:=by kernel_rfl
theorem idxF3 (v0 v1 v2 v3 v4 v5 v6 v7 : Value) (w : World) : (Instr.index 66 (.agg #[v0,v1,v2,v3,v4,v5,v6,v7]) (.int .i64 3)).run Tryz.prog w = .ok v3 w:=by kernel_rfl
theorem idxF4 (v0 v1 v2 v3 v4 v5 v6 v7 : Value) (w : World) : (Instr.index 66 (.agg #[v0,v1,v2,v3,v4,v5,v6,v7]) (.int .i64 4)).run Tryz.prog w = .ok v4 w:=by kernel_rfl
theorem idxF5 (v0 v1 v2 v3 v4 v5 v6 v7 : Value) (w : World) : (Instr.index 66 (.agg #[v0,v1,v2,v3,v4,v5,v6,v7]) (.int .i64 5)).run Tryz.prog w = .ok v5 w:=by kernel_rfl
theorem idxF6 (v0 v1 v2 v3 v4 v5 v6 v7 : Value) (w : World) : (Instr.index 66 (.agg #[v0,v1,v2,v3,v4,v5,v6,v7]) (.int .i64 6)).run Tryz.prog w = .ok v6 w:=by kernel_rfl
theorem idxF7 (v0 v1 v2 v3 v4 v5 v6 v7 : Value) (w : World) : (Instr.index 66 (.agg #[v0,v1,v2,v3,v4,v5,v6,v7]) (.int .i64 7)).run Tryz.prog w = .ok v7 w:=by kernel_rfl
theorem idxF (vs : Nat -> Value) (k : Nat) (h : k < 8) (w : World) : (Instr.index 66 (.agg #[vs 0,vs 1,vs 2,vs 3,vs 4,vs 5,vs 6,vs 7]) (.int .i64 (k : Int))).run Tryz.prog w = .ok (vs k) w:=by
 rcases (by omega : k = 0 ∨ k = 1 ∨ k = 2 ∨ k = 3 ∨ k = 4 ∨ k = 5 ∨ k = 6 ∨ k = 7) with rfl | rfl | rfl | rfl | rfl | rfl | rfl | rfl
 ·exact idxF0 _ _ _ _ _ _ _ _ w
 ·exact idxF1 _ _ _ _ _ _ _ _ w
 ·exact idxF2 _ _ _ _ _ _ _ _ w
 ·exact idxF3 _ _ _ _ _ _ _ _ w
 ·exact idxF4 _ _ _ _ _ _ _ _ w
 ·exact idxF5 _ _ _ _ _ _ _ _ w
 ·exact idxF6 _ _ _ _ _ _ _ _ w
 ·exact idxF7 _ _ _ _ _ _ _ _ w
def GivesF (W : World) (f : Nat -> List Sp) (e : Ending) (w : World) : Prop:=∃ vs,e = .returned (famV vs) /\ (∀ r,r < 8 -> Own w W.heap.size (vs r) (f r)) /\ Below W.heap.size W w
end Go.Proofs.YtgihekokbgggcaaGreat.S2

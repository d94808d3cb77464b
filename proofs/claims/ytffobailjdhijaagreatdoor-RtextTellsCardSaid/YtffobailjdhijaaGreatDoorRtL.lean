/- Walks of package rtext: a rule in memory, part by part: take. -/
import Derived.Test.YtffobailjdhijaaGreatDoorRtK
import Derived.Maps.AppendAt
namespace Go.Proofs.YtffobailjdhijaaGreatDoor
open Go.RowKit Rul Rt Go.Sort

/-- a block that is neither b nor the row v's own. -/
def OffB (w : World) (b : Nat) (v : Value) (A : Option Addr) : Prop := ∀ g o, A = some ⟨g, o, none⟩ → g ≠ b ∧ some g ≠ v.ownBlock ∧ g < w.heap.size ∧ b < g
theorem OffB.no (w : World) (b : Nat) (v : Value) : OffB w b v none := fun _ _ h => by cases h
theorem OffB.keep {w w1 : World} {b : Nat} {v : Value} {A : Option Addr} (h : OffB w b v A) (hs : w.heap.size ≤ w1.heap.size) : OffB w1 b v A := fun g o e => ⟨(h g o e).1, (h g o e).2.1, Nat.lt_of_lt_of_le (h g o e).2.2.1 hs, (h g o e).2.2.2⟩
theorem OffB.set {w : World} {b i : Nat} {v x : Value} {A : Option Addr} (h : OffB w b v A) : OffB (w.setCell ⟨b, i, none⟩ x) b v A := h.keep (by simp)
/-- a rule in the block b: its numbers, its lists elsewhere. -/
structure RuleAt (w : World) (b : Nat) (v : Value) (r : T) (D : Option Addr) (dn dc : Nat) (M : Option Addr) (mn mc : Nat) (Y : Option Addr) (yn yc : Nat) : Prop where
  c0 : w.cell? ⟨b, 0, none⟩ = some (.int .i64 r.fr)
  c1 : w.cell? ⟨b, 1, none⟩ = some (.int .i64 r.ev)
  c2 : w.cell? ⟨b, 2, none⟩ = some (.int .i64 r.ct)
  c3 : w.cell? ⟨b, 3, none⟩ = some (.int .i64 r.un)
  c4 : w.cell? ⟨b, 4, none⟩ = some (.slice D dn dc)
  c5 : w.cell? ⟨b, 5, none⟩ = some (.slice M mn mc)
  c6 : w.cell? ⟨b, 6, none⟩ = some (.slice Y yn yc)
  f0 : w.frozen? ⟨b, 0, none⟩ = false
  f1 : w.frozen? ⟨b, 1, none⟩ = false
  f2 : w.frozen? ⟨b, 2, none⟩ = false
  f3 : w.frozen? ⟨b, 3, none⟩ = false
  f4 : w.frozen? ⟨b, 4, none⟩ = false
  f5 : w.frozen? ⟨b, 5, none⟩ = false
  f6 : w.frozen? ⟨b, 6, none⟩ = false
  lies : Lies w D dn M mn Y yn r.ds r.ms r.ys
  od : OffB w b v D
  om : OffB w b v M
  oy : OffB w b v Y
  own : some b ≠ v.ownBlock
theorem RuleAt.lt {w : World} {b : Nat} {v : Value} {r : T} {D M Y : Option Addr} {dn dc mn mc yn yc : Nat} (h : RuleAt w b v r D dn dc M mn mc Y yn yc) : b < w.heap.size := block_lt_of_cell h.c0
theorem RuleAt.keep {w w1 : World} {b : Nat} {v : Value} {r : T} {D M Y : Option Addr} {dn dc mn mc yn yc : Nat} (h : RuleAt w b v r D dn dc M mn mc Y yn yc) (hb : Below w.heap.size w w1) : RuleAt w1 b v r D dn dc M mn mc Y yn yc :=
  ⟨cell_keep hb h.c0, cell_keep hb h.c1, cell_keep hb h.c2, cell_keep hb h.c3, cell_keep hb h.c4, cell_keep hb h.c5, cell_keep hb h.c6, (hb.frozen (p := ⟨b, 0, none⟩) h.lt).trans h.f0, (hb.frozen (p := ⟨b, 1, none⟩) h.lt).trans h.f1, (hb.frozen (p := ⟨b, 2, none⟩) h.lt).trans h.f2, (hb.frozen (p := ⟨b, 3, none⟩) h.lt).trans h.f3, (hb.frozen (p := ⟨b, 4, none⟩) h.lt).trans h.f4, (hb.frozen (p := ⟨b, 5, none⟩) h.lt).trans h.f5, (hb.frozen (p := ⟨b, 6, none⟩) h.lt).trans h.f6, h.lies.keep hb, h.od.keep hb.size, h.om.keep hb.size, h.oy.keep hb.size, h.own⟩
theorem RowI.set {w : World} {b i : Nat} {x : Value} {A : Option Addr} {l : List Int} (h : RowI w A l) (ho : ∀ g o, A = some ⟨g, o, none⟩ → g ≠ b) : RowI (w.setCell ⟨b, i, none⟩ x) A l := fun hn => by
  obtain ⟨g, o, rfl, hl, hc⟩ := h hn
  refine ⟨g, o, rfl, by simpa using hl, fun j hj => ?_⟩
  rw [World.cell?_setCell_other _ _ _ _ (by intro e; injection e with e1; exact ho g o rfl e1.symm)]
  exact hc j hj
theorem RowD.set {w : World} {b i : Nat} {x : Value} {A : Option Addr} {l : List Wd} (h : RowD w A l) (ho : ∀ g o, A = some ⟨g, o, none⟩ → g ≠ b) : RowD (w.setCell ⟨b, i, none⟩ x) A l := fun hn => by
  obtain ⟨g, o, rfl, hl, hc⟩ := h hn
  refine ⟨g, o, rfl, by simpa using hl, fun j hj => ?_⟩
  rw [World.cell?_setCell_other _ _ _ _ (by intro e; injection e with e1; exact ho g o rfl e1.symm), World.cell?_setCell_other _ _ _ _ (by intro e; injection e with e1; exact ho g o rfl e1.symm)]
  exact hc j hj
theorem set_st {W : World} {b i : Nat} {x y : Value} (h : W.cell? ⟨b, i, none⟩ = some x) : (W.setCell ⟨b, i, none⟩ y).cell? ⟨b, i, none⟩ = some y := World.cell?_setCell_same _ _ _ h
theorem set_ot {W : World} {b i j : Nat} {x y : Value} (hn : i ≠ j) (h : W.cell? ⟨b, i, none⟩ = some x) : (W.setCell ⟨b, j, none⟩ y).cell? ⟨b, i, none⟩ = some x :=
  (World.cell?_setCell_other _ _ _ _ (by intro hc; injection hc with _ hc1; omega)).trans h
theorem set_fz {W : World} {b i j : Nat} {y : Value} (h : W.frozen? ⟨b, i, none⟩ = false) : (W.setCell ⟨b, j, none⟩ y).frozen? ⟨b, i, none⟩ = false := by rw [World.frozen?_setCell]; exact h
theorem grown_set {w w1 : World} {b i : Nat} {y : Value} (h : Below w.heap.size w w1) : w.grownBy (w1.setCell ⟨b, i, none⟩ y) (some b) := by
  refine ⟨h.os, h.tape, h.output, by simpa using h.size, fun k hk hne => ?_⟩
  have : b ≠ k := fun e => hne (by rw [e])
  rw [← h.block k hk]
  simp [World.setCell, Array.getElem?_modify, this]
theorem grown_below {w w1 : World} {b : Nat} (h : Below w.heap.size w w1) : w.grownBy w1 (some b) := ⟨h.os, h.tape, h.output, h.size, fun k hk _ => h.block k hk⟩

theorem RuleAt.set_fr {w : World} {b : Nat} {v : Value} {r : T} {D M Y : Option Addr} {dn dc mn mc yn yc : Nat} (h : RuleAt w b v r D dn dc M mn mc Y yn yc) (n : Int) : RuleAt (w.setCell ⟨b, 0, none⟩ (.int .i64 n)) b v { r with fr := n } D dn dc M mn mc Y yn yc :=
  ⟨set_st (i := 0) h.c0, set_ot (i := 1) (j := 0) (by decide) h.c1, set_ot (i := 2) (j := 0) (by decide) h.c2, set_ot (i := 3) (j := 0) (by decide) h.c3, set_ot (i := 4) (j := 0) (by decide) h.c4, set_ot (i := 5) (j := 0) (by decide) h.c5, set_ot (i := 6) (j := 0) (by decide) h.c6, set_fz (i := 0) (j := 0) h.f0, set_fz (i := 1) (j := 0) h.f1, set_fz (i := 2) (j := 0) h.f2, set_fz (i := 3) (j := 0) h.f3, set_fz (i := 4) (j := 0) h.f4, set_fz (i := 5) (j := 0) h.f5, set_fz (i := 6) (j := 0) h.f6, ⟨h.lies.d.set fun g o e => (h.od g o e).1, h.lies.dn, h.lies.dl, h.lies.m.set fun g o e => (h.om g o e).1, h.lies.mn, h.lies.ml, h.lies.y.set fun g o e => (h.oy g o e).1, h.lies.yn, h.lies.yl⟩, h.od.set, h.om.set, h.oy.set, h.own⟩
theorem RuleAt.set_ev {w : World} {b : Nat} {v : Value} {r : T} {D M Y : Option Addr} {dn dc mn mc yn yc : Nat} (h : RuleAt w b v r D dn dc M mn mc Y yn yc) (n : Int) : RuleAt (w.setCell ⟨b, 1, none⟩ (.int .i64 n)) b v { r with ev := n } D dn dc M mn mc Y yn yc :=
  ⟨set_ot (i := 0) (j := 1) (by decide) h.c0, set_st (i := 1) h.c1, set_ot (i := 2) (j := 1) (by decide) h.c2, set_ot (i := 3) (j := 1) (by decide) h.c3, set_ot (i := 4) (j := 1) (by decide) h.c4, set_ot (i := 5) (j := 1) (by decide) h.c5, set_ot (i := 6) (j := 1) (by decide) h.c6, set_fz (i := 0) (j := 1) h.f0, set_fz (i := 1) (j := 1) h.f1, set_fz (i := 2) (j := 1) h.f2, set_fz (i := 3) (j := 1) h.f3, set_fz (i := 4) (j := 1) h.f4, set_fz (i := 5) (j := 1) h.f5, set_fz (i := 6) (j := 1) h.f6, ⟨h.lies.d.set fun g o e => (h.od g o e).1, h.lies.dn, h.lies.dl, h.lies.m.set fun g o e => (h.om g o e).1, h.lies.mn, h.lies.ml, h.lies.y.set fun g o e => (h.oy g o e).1, h.lies.yn, h.lies.yl⟩, h.od.set, h.om.set, h.oy.set, h.own⟩
theorem RuleAt.set_ct {w : World} {b : Nat} {v : Value} {r : T} {D M Y : Option Addr} {dn dc mn mc yn yc : Nat} (h : RuleAt w b v r D dn dc M mn mc Y yn yc) (n : Int) : RuleAt (w.setCell ⟨b, 2, none⟩ (.int .i64 n)) b v { r with ct := n } D dn dc M mn mc Y yn yc :=
  ⟨set_ot (i := 0) (j := 2) (by decide) h.c0, set_ot (i := 1) (j := 2) (by decide) h.c1, set_st (i := 2) h.c2, set_ot (i := 3) (j := 2) (by decide) h.c3, set_ot (i := 4) (j := 2) (by decide) h.c4, set_ot (i := 5) (j := 2) (by decide) h.c5, set_ot (i := 6) (j := 2) (by decide) h.c6, set_fz (i := 0) (j := 2) h.f0, set_fz (i := 1) (j := 2) h.f1, set_fz (i := 2) (j := 2) h.f2, set_fz (i := 3) (j := 2) h.f3, set_fz (i := 4) (j := 2) h.f4, set_fz (i := 5) (j := 2) h.f5, set_fz (i := 6) (j := 2) h.f6, ⟨h.lies.d.set fun g o e => (h.od g o e).1, h.lies.dn, h.lies.dl, h.lies.m.set fun g o e => (h.om g o e).1, h.lies.mn, h.lies.ml, h.lies.y.set fun g o e => (h.oy g o e).1, h.lies.yn, h.lies.yl⟩, h.od.set, h.om.set, h.oy.set, h.own⟩
theorem RuleAt.set_un {w : World} {b : Nat} {v : Value} {r : T} {D M Y : Option Addr} {dn dc mn mc yn yc : Nat} (h : RuleAt w b v r D dn dc M mn mc Y yn yc) (n : Int) : RuleAt (w.setCell ⟨b, 3, none⟩ (.int .i64 n)) b v { r with un := n } D dn dc M mn mc Y yn yc :=
  ⟨set_ot (i := 0) (j := 3) (by decide) h.c0, set_ot (i := 1) (j := 3) (by decide) h.c1, set_ot (i := 2) (j := 3) (by decide) h.c2, set_st (i := 3) h.c3, set_ot (i := 4) (j := 3) (by decide) h.c4, set_ot (i := 5) (j := 3) (by decide) h.c5, set_ot (i := 6) (j := 3) (by decide) h.c6, set_fz (i := 0) (j := 3) h.f0, set_fz (i := 1) (j := 3) h.f1, set_fz (i := 2) (j := 3) h.f2, set_fz (i := 3) (j := 3) h.f3, set_fz (i := 4) (j := 3) h.f4, set_fz (i := 5) (j := 3) h.f5, set_fz (i := 6) (j := 3) h.f6, ⟨h.lies.d.set fun g o e => (h.od g o e).1, h.lies.dn, h.lies.dl, h.lies.m.set fun g o e => (h.om g o e).1, h.lies.mn, h.lies.ml, h.lies.y.set fun g o e => (h.oy g o e).1, h.lies.yn, h.lies.yl⟩, h.od.set, h.om.set, h.oy.set, h.own⟩
theorem RuleAt.set_ds {w : World} {b : Nat} {v : Value} {r : T} {D M Y : Option Addr} {dn dc mn mc yn yc : Nat} (h : RuleAt w b v r D dn dc M mn mc Y yn yc) (A : Option Addr) (n c : Nat) (l : List Wd) (hr : RowD w A l) (hn : n = l.length) (hl : l.length ≤ 1000) (ho : OffB w b v A) : RuleAt (w.setCell ⟨b, 4, none⟩ (.slice A n c)) b v { r with ds := l } A n c M mn mc Y yn yc :=
  ⟨set_ot (i := 0) (j := 4) (by decide) h.c0, set_ot (i := 1) (j := 4) (by decide) h.c1, set_ot (i := 2) (j := 4) (by decide) h.c2, set_ot (i := 3) (j := 4) (by decide) h.c3, set_st (i := 4) h.c4, set_ot (i := 5) (j := 4) (by decide) h.c5, set_ot (i := 6) (j := 4) (by decide) h.c6, set_fz (i := 0) (j := 4) h.f0, set_fz (i := 1) (j := 4) h.f1, set_fz (i := 2) (j := 4) h.f2, set_fz (i := 3) (j := 4) h.f3, set_fz (i := 4) (j := 4) h.f4, set_fz (i := 5) (j := 4) h.f5, set_fz (i := 6) (j := 4) h.f6, ⟨hr.set (fun g o e => (ho g o e).1), hn, hl, h.lies.m.set (fun g o e => (h.om g o e).1), h.lies.mn, h.lies.ml, h.lies.y.set (fun g o e => (h.oy g o e).1), h.lies.yn, h.lies.yl⟩, ho.set, h.om.set, h.oy.set, h.own⟩
theorem RuleAt.set_ms {w : World} {b : Nat} {v : Value} {r : T} {D M Y : Option Addr} {dn dc mn mc yn yc : Nat} (h : RuleAt w b v r D dn dc M mn mc Y yn yc) (A : Option Addr) (n c : Nat) (l : List Int) (hr : RowI w A l) (hn : n = l.length) (hl : l.length ≤ 1000) (ho : OffB w b v A) : RuleAt (w.setCell ⟨b, 5, none⟩ (.slice A n c)) b v { r with ms := l } D dn dc A n c Y yn yc :=
  ⟨set_ot (i := 0) (j := 5) (by decide) h.c0, set_ot (i := 1) (j := 5) (by decide) h.c1, set_ot (i := 2) (j := 5) (by decide) h.c2, set_ot (i := 3) (j := 5) (by decide) h.c3, set_ot (i := 4) (j := 5) (by decide) h.c4, set_st (i := 5) h.c5, set_ot (i := 6) (j := 5) (by decide) h.c6, set_fz (i := 0) (j := 5) h.f0, set_fz (i := 1) (j := 5) h.f1, set_fz (i := 2) (j := 5) h.f2, set_fz (i := 3) (j := 5) h.f3, set_fz (i := 4) (j := 5) h.f4, set_fz (i := 5) (j := 5) h.f5, set_fz (i := 6) (j := 5) h.f6, ⟨h.lies.d.set (fun g o e => (h.od g o e).1), h.lies.dn, h.lies.dl, hr.set (fun g o e => (ho g o e).1), hn, hl, h.lies.y.set (fun g o e => (h.oy g o e).1), h.lies.yn, h.lies.yl⟩, h.od.set, ho.set, h.oy.set, h.own⟩
theorem RuleAt.set_ys {w : World} {b : Nat} {v : Value} {r : T} {D M Y : Option Addr} {dn dc mn mc yn yc : Nat} (h : RuleAt w b v r D dn dc M mn mc Y yn yc) (A : Option Addr) (n c : Nat) (l : List Int) (hr : RowI w A l) (hn : n = l.length) (hl : l.length ≤ 1000) (ho : OffB w b v A) : RuleAt (w.setCell ⟨b, 6, none⟩ (.slice A n c)) b v { r with ys := l } D dn dc M mn mc A n c :=
  ⟨set_ot (i := 0) (j := 6) (by decide) h.c0, set_ot (i := 1) (j := 6) (by decide) h.c1, set_ot (i := 2) (j := 6) (by decide) h.c2, set_ot (i := 3) (j := 6) (by decide) h.c3, set_ot (i := 4) (j := 6) (by decide) h.c4, set_ot (i := 5) (j := 6) (by decide) h.c5, set_st (i := 6) h.c6, set_fz (i := 0) (j := 6) h.f0, set_fz (i := 1) (j := 6) h.f1, set_fz (i := 2) (j := 6) h.f2, set_fz (i := 3) (j := 6) h.f3, set_fz (i := 4) (j := 6) h.f4, set_fz (i := 5) (j := 6) h.f5, set_fz (i := 6) (j := 6) h.f6, ⟨h.lies.d.set (fun g o e => (h.od g o e).1), h.lies.dn, h.lies.dl, h.lies.m.set (fun g o e => (h.om g o e).1), h.lies.mn, h.lies.ml, hr.set (fun g o e => (ho g o e).1), hn, hl⟩, h.od.set, h.om.set, ho.set, h.own⟩
theorem OwnI.down {w : World} {B B2 : Nat} {v : Value} {l : List Int} (h : OwnI w B v l) (hb : B2 ≤ B) : OwnI w B2 v l := by
  refine ⟨h.1, ?_⟩
  rcases h.2 with g | ⟨g, cap, cur, e, hg, r⟩
  · exact Or.inl g
  · exact Or.inr ⟨g, cap, cur, e, Nat.le_trans hb hg, r⟩
theorem OwnD.down {w : World} {B B2 : Nat} {v : Value} {l : List Wd} (h : OwnD w B v l) (hb : B2 ≤ B) : OwnD w B2 v l := by
  refine ⟨h.1, ?_⟩
  rcases h.2 with g | ⟨g, cap, cur, e, hg, r⟩
  · exact Or.inl g
  · exact Or.inr ⟨g, cap, cur, e, Nat.le_trans hb hg, r⟩

/-- what take leaves: the rule with the part, or it isn't one. -/
def Takes (w : World) (b : Nat) (v : Value) (r : T) (o : Option Rt.Part) (e : Ending) (w' : World) : Prop :=
  w.grownBy w' (some b) ∧ match o with
    | none => e = .returned (.bool false)
    | some p => e = .returned (.bool true) ∧ ∃ D dn dc M mn mc Y yn yc, RuleAt w' b v (Rt.Part.set r p) D dn dc M mn mc Y yn yc
theorem OffB.new {w : World} {b n c : Nat} {v : Value} {A : Option Addr} {l : List Int} {w' : World} (h : OwnI w' w.heap.size (.slice A n c) l) (hb : b < w.heap.size) (hv : ∀ g, v.ownBlock = some g → g < w.heap.size) : OffB w' b v A := fun g o e => by
  subst e
  have hg := (h.lt g rfl).1
  refine ⟨by omega, fun e2 => ?_, (h.lt g rfl).2, by omega⟩
  have := hv g e2.symm
  omega
theorem OffB.newD {w : World} {b n c : Nat} {v : Value} {A : Option Addr} {l : List Wd} {w' : World} (h : OwnD w' w.heap.size (.slice A n c) l) (hb : b < w.heap.size) (hv : ∀ g, v.ownBlock = some g → g < w.heap.size) : OffB w' b v A := fun g o e => by
  subst e
  have hg := (h.lt g rfl).1
  refine ⟨by omega, fun e2 => ?_, (h.lt g rfl).2, by omega⟩
  have := hv g e2.symm
  omega
theorem rval_0 (U : Un) (R : Rd) (v : Tx) : Rt.valOf U R nFREQ v = (ixOf freqWs v).map fun k => Rt.Part.fr (k + 1 : Nat) := by unfold Rt.valOf; rw [if_pos rfl]
theorem rval_1 (U : Un) (R : Rd) (v : Tx) : Rt.valOf U R nINTERVAL v = (R.pos v).map Rt.Part.ev := by unfold Rt.valOf; rw [if_neg (by decide), if_pos rfl]
theorem rval_2 (U : Un) (R : Rd) (v : Tx) : Rt.valOf U R nCOUNT v = (R.pos v).map Rt.Part.ct := by unfold Rt.valOf; rw [if_neg (by decide), if_neg (by decide), if_pos rfl]
theorem rval_3 (U : Un) (R : Rd) (v : Tx) : Rt.valOf U R nUNTIL v = (U.f v).map Rt.Part.un := by unfold Rt.valOf; rw [if_neg (by decide), if_neg (by decide), if_neg (by decide), if_pos rfl]
theorem rval_4 (U : Un) (R : Rd) (v : Tx) : Rt.valOf U R nBYMONTH v = (R.nums false v).map Rt.Part.ys := by unfold Rt.valOf; rw [if_neg (by decide), if_neg (by decide), if_neg (by decide), if_neg (by decide), if_pos rfl]
theorem rval_5 (U : Un) (R : Rd) (v : Tx) : Rt.valOf U R nBYMONTHDAY v = (R.nums true v).map Rt.Part.ms := by unfold Rt.valOf; rw [if_neg (by decide), if_neg (by decide), if_neg (by decide), if_neg (by decide), if_neg (by decide), if_pos rfl]
theorem rval_6 (U : Un) (R : Rd) (v : Tx) : Rt.valOf U R nBYDAY v = (R.wds v).map Rt.Part.ds := by unfold Rt.valOf; rw [if_neg (by decide), if_neg (by decide), if_neg (by decide), if_neg (by decide), if_neg (by decide), if_neg (by decide), if_pos rfl]

set_option maxRecDepth 100000 in
set_option maxHeartbeats 1000000 in
theorem take_0 (t : Tx) (b : Nat) (v : Value) (r : T) (D M Y : Option Addr) (dn dc mn mc yn yc : Nat) (w : World) (h : RuleAt w b v r D dn dc M mn mc Y yn yc) (hv : ∀ g, v.ownBlock = some g → g < w.heap.size) (he : Env w) (ht : t.length ≤ 100000) :
    Calls Tryz.prog 44 #[.pointer (some ⟨b, 0, none⟩), .string (str nFREQ), .string (str t)] w (Takes w b v r (Rt.valOf unU rdC nFREQ t)) := by
  rw [rval_0]
  obtain ⟨X, hX⟩ : ∃ X, nFREQ = X := ⟨_, rfl⟩
  have e0 : (X == [70, 82, 69, 81]) = true := by rw [← hX]; decide
  have q1 := str_tl X
  have hts : (str t).size ≤ 100000 := by rw [str_size]; exact ht
  have htl : (str t).data.toList = t := str_list t
  have H := hide h
  have HE := hide he
  have HV := hide hv
  rw [hX]
  clear h he hv hX ht
  go_enter Tryz.func44, Tryz.ntmps44
  go_wp2_with fail
  refine (freqOf_any (str t) _).mono ?_
  rintro e w1 ⟨n, hn, rfl, hb⟩
  rw [htl] at hn ⊢
  have HN := hide hn
  clear hn
  obtain ⟨O, hO⟩ : ∃ O, ((ixOf freqWs t).map fun k => ((k + 1 : Nat) : Int)) = O := ⟨_, rfl⟩
  have HO : Hid (((ixOf freqWs t).map fun k => Rt.Part.fr (k + 1 : Nat)) = O.map Rt.Part.fr) := hide (by rw [← hO]; rw [Option.map_map]; rfl)
  rw [hO] at HN ⊢
  clear hO
  have ck := (H.out.keep hb).c0
  have fk := (H.out.keep hb).f0
  have HK := hide (H.out.keep hb)
  have HB := hide hb
  clear hb
  go_wp2_with fail
  go_ret
  rw [HO.out]
  cases O with
  | none => exact ⟨grown_set HB.out, rfl⟩
  | some m =>
    obtain rfl := HN.out m rfl
    exact ⟨grown_set HB.out, rfl, _, _, _, _, _, _, _, _, _, HK.out.set_fr n⟩

set_option maxRecDepth 100000 in
set_option maxHeartbeats 1000000 in
theorem take_1 (t : Tx) (b : Nat) (v : Value) (r : T) (D M Y : Option Addr) (dn dc mn mc yn yc : Nat) (w : World) (h : RuleAt w b v r D dn dc M mn mc Y yn yc) (hv : ∀ g, v.ownBlock = some g → g < w.heap.size) (he : Env w) (ht : t.length ≤ 100000) :
    Calls Tryz.prog 44 #[.pointer (some ⟨b, 0, none⟩), .string (str nINTERVAL), .string (str t)] w (Takes w b v r (Rt.valOf unU rdC nINTERVAL t)) := by
  rw [rval_1]
  obtain ⟨X, hX⟩ : ∃ X, nINTERVAL = X := ⟨_, rfl⟩
  have e0 : (X == [70, 82, 69, 81]) = false := by rw [← hX]; decide
  have e1 : (X == [73, 78, 84, 69, 82, 86, 65, 76]) = true := by rw [← hX]; decide
  have q1 := str_tl X
  have hts : (str t).size ≤ 100000 := by rw [str_size]; exact ht
  have htl : (str t).data.toList = t := str_list t
  have H := hide h
  have HE := hide he
  have HV := hide hv
  rw [hX]
  clear h he hv hX ht
  go_enter Tryz.func44, Tryz.ntmps44
  go_wp2_with fail
  refine (positive_any (str t) _ HE.out hts).mono ?_
  rintro e w1 ⟨n, hn, rfl, hb⟩
  rw [htl] at hn ⊢
  have HN := hide hn
  clear hn
  obtain ⟨O, hO⟩ : ∃ O, (posOf numC t) = O := ⟨_, rfl⟩
  have HO : Hid (((rdC.pos t).map Rt.Part.ev) = O.map Rt.Part.ev) := hide (by rw [← hO]; rfl)
  rw [hO] at HN ⊢
  clear hO
  have ck := (H.out.keep hb).c1
  have fk := (H.out.keep hb).f1
  have HK := hide (H.out.keep hb)
  have HB := hide hb
  clear hb
  go_wp2_with fail
  go_ret
  rw [HO.out]
  cases O with
  | none => exact ⟨grown_set HB.out, rfl⟩
  | some m =>
    obtain rfl := HN.out m rfl
    exact ⟨grown_set HB.out, rfl, _, _, _, _, _, _, _, _, _, HK.out.set_ev n⟩

set_option maxRecDepth 100000 in
set_option maxHeartbeats 1000000 in
theorem take_2 (t : Tx) (b : Nat) (v : Value) (r : T) (D M Y : Option Addr) (dn dc mn mc yn yc : Nat) (w : World) (h : RuleAt w b v r D dn dc M mn mc Y yn yc) (hv : ∀ g, v.ownBlock = some g → g < w.heap.size) (he : Env w) (ht : t.length ≤ 100000) :
    Calls Tryz.prog 44 #[.pointer (some ⟨b, 0, none⟩), .string (str nCOUNT), .string (str t)] w (Takes w b v r (Rt.valOf unU rdC nCOUNT t)) := by
  rw [rval_2]
  obtain ⟨X, hX⟩ : ∃ X, nCOUNT = X := ⟨_, rfl⟩
  have e0 : (X == [70, 82, 69, 81]) = false := by rw [← hX]; decide
  have e1 : (X == [73, 78, 84, 69, 82, 86, 65, 76]) = false := by rw [← hX]; decide
  have e2 : (X == [67, 79, 85, 78, 84]) = true := by rw [← hX]; decide
  have q1 := str_tl X
  have hts : (str t).size ≤ 100000 := by rw [str_size]; exact ht
  have htl : (str t).data.toList = t := str_list t
  have H := hide h
  have HE := hide he
  have HV := hide hv
  rw [hX]
  clear h he hv hX ht
  go_enter Tryz.func44, Tryz.ntmps44
  go_wp2_with fail
  refine (positive_any (str t) _ HE.out hts).mono ?_
  rintro e w1 ⟨n, hn, rfl, hb⟩
  rw [htl] at hn ⊢
  have HN := hide hn
  clear hn
  obtain ⟨O, hO⟩ : ∃ O, (posOf numC t) = O := ⟨_, rfl⟩
  have HO : Hid (((rdC.pos t).map Rt.Part.ct) = O.map Rt.Part.ct) := hide (by rw [← hO]; rfl)
  rw [hO] at HN ⊢
  clear hO
  have ck := (H.out.keep hb).c2
  have fk := (H.out.keep hb).f2
  have HK := hide (H.out.keep hb)
  have HB := hide hb
  clear hb
  go_wp2_with fail
  go_ret
  rw [HO.out]
  cases O with
  | none => exact ⟨grown_set HB.out, rfl⟩
  | some m =>
    obtain rfl := HN.out m rfl
    exact ⟨grown_set HB.out, rfl, _, _, _, _, _, _, _, _, _, HK.out.set_ct n⟩

set_option maxRecDepth 100000 in
set_option maxHeartbeats 1000000 in
theorem take_3 (t : Tx) (b : Nat) (v : Value) (r : T) (D M Y : Option Addr) (dn dc mn mc yn yc : Nat) (w : World) (h : RuleAt w b v r D dn dc M mn mc Y yn yc) (hv : ∀ g, v.ownBlock = some g → g < w.heap.size) (he : Env w) (ht : t.length ≤ 100000) :
    Calls Tryz.prog 44 #[.pointer (some ⟨b, 0, none⟩), .string (str nUNTIL), .string (str t)] w (Takes w b v r (Rt.valOf unU rdC nUNTIL t)) := by
  rw [rval_3]
  obtain ⟨X, hX⟩ : ∃ X, nUNTIL = X := ⟨_, rfl⟩
  have e0 : (X == [70, 82, 69, 81]) = false := by rw [← hX]; decide
  have e1 : (X == [73, 78, 84, 69, 82, 86, 65, 76]) = false := by rw [← hX]; decide
  have e2 : (X == [67, 79, 85, 78, 84]) = false := by rw [← hX]; decide
  have e3 : (X == [85, 78, 84, 73, 76]) = true := by rw [← hX]; decide
  have q1 := str_tl X
  have hts : (str t).size ≤ 100000 := by rw [str_size]; exact ht
  have htl : (str t).data.toList = t := str_list t
  have H := hide h
  have HE := hide he
  have HV := hide hv
  rw [hX]
  clear h he hv hX ht
  go_enter Tryz.func44, Tryz.ntmps44
  go_wp2_with fail
  refine (minute_any (str t) _).mono ?_
  rintro e w1 ⟨n, hn, rfl, hb⟩
  rw [htl] at hn ⊢
  have HN := hide hn
  clear hn
  obtain ⟨O, hO⟩ : ∃ O, (unE t) = O := ⟨_, rfl⟩
  have HO : Hid (((unU.f t).map Rt.Part.un) = O.map Rt.Part.un) := hide (by rw [← hO]; rfl)
  rw [hO] at HN ⊢
  clear hO
  have ck := (H.out.keep hb).c3
  have fk := (H.out.keep hb).f3
  have HK := hide (H.out.keep hb)
  have HB := hide hb
  clear hb
  go_wp2_with fail
  go_ret
  rw [HO.out]
  cases O with
  | none => exact ⟨grown_set HB.out, rfl⟩
  | some m =>
    obtain rfl := HN.out m rfl
    exact ⟨grown_set HB.out, rfl, _, _, _, _, _, _, _, _, _, HK.out.set_un n⟩

set_option maxRecDepth 100000 in
set_option maxHeartbeats 1000000 in
theorem take_4 (t : Tx) (b : Nat) (v : Value) (r : T) (D M Y : Option Addr) (dn dc mn mc yn yc : Nat) (w : World) (h : RuleAt w b v r D dn dc M mn mc Y yn yc) (hv : ∀ g, v.ownBlock = some g → g < w.heap.size) (he : Env w) (ht : t.length ≤ 100000) :
    Calls Tryz.prog 44 #[.pointer (some ⟨b, 0, none⟩), .string (str nBYMONTH), .string (str t)] w (Takes w b v r (Rt.valOf unU rdC nBYMONTH t)) := by
  rw [rval_4]
  obtain ⟨X, hX⟩ : ∃ X, nBYMONTH = X := ⟨_, rfl⟩
  have e0 : (X == [70, 82, 69, 81]) = false := by rw [← hX]; decide
  have e1 : (X == [73, 78, 84, 69, 82, 86, 65, 76]) = false := by rw [← hX]; decide
  have e2 : (X == [67, 79, 85, 78, 84]) = false := by rw [← hX]; decide
  have e3 : (X == [85, 78, 84, 73, 76]) = false := by rw [← hX]; decide
  have e4 : (X == [66, 89, 77, 79, 78, 84, 72]) = true := by rw [← hX]; decide
  have q1 := str_tl X
  have hts : (str t).size ≤ 100000 := by rw [str_size]; exact ht
  have htl : (str t).data.toList = t := str_list t
  have H := hide h
  have HE := hide he
  have HV := hide hv
  rw [hX]
  clear h he hv hX ht
  go_enter Tryz.func44, Tryz.ntmps44
  go_wp2_with fail
  refine (elementsOf_at (str t) _ HE.out hts).mono ?_
  rintro e w1 ⟨A, cap, rfl, hr, hb1⟩
  rw [htl] at hr ⊢
  have hle := splitN_le 44 12 t
  obtain ⟨O, hO⟩ : ∃ O, (allSome numC (Lib.splitN t [44] 13)).map (srt inLt) = O := ⟨_, rfl⟩
  have HO : Hid ((rdC.nums false t).map Rt.Part.ys = O.map Rt.Part.ys) := hide (by rw [← hO]; rfl)
  have hcon := fun w he hr => sortedI_any A _ cap (Lib.splitN t [44] 13) w hr rfl (Nat.le_trans hle.2 (by omega)) (fun p hp => Nat.le_trans (hle.1 p hp) (by rw [str_size] at hts; exact hts)) he
  have hlen : ∀ l, O = some l → l.length ≤ 1000 := fun l hl => by
    rw [← hO, Option.map_eq_some_iff] at hl
    obtain ⟨xs, hx, rfl⟩ := hl
    rw [(srt_perm inLt xs).length_eq, ← allSome_len hx]
    exact Nat.le_trans hle.2 (by omega)
  rw [hO] at hcon
  have HC := hide hcon
  have HLE := hide hlen
  have HRR := hide hr
  have HB1 := hide hb1
  generalize (Lib.splitN t [44] 13) = LL at *
  clear hO hcon hle hlen hr hb1
  go_wp2_with fail
  refine (HC.out _ (HE.out.keep HB1.out) HRR.out).mono ?_
  rintro e w2 ⟨hb2, ⟨rfl, rfl⟩ | ⟨l, v2, rfl, rfl, hown⟩⟩
  · have hb := andthen HB1.out hb2
    clear hb2
    have ck := (H.out.keep hb).c6
    have fk := (H.out.keep hb).f6
    have HK := hide (H.out.keep hb)
    have HB := hide hb
    clear hb
    go_wp2_with fail
    go_ret
    rw [HO.out]
    exact ⟨grown_set HB.out, rfl⟩
  · have hb := andthen HB1.out hb2
    have HOW := hide (OwnI.down hown HB1.out.size)
    obtain ⟨A2, cap2, rfl, hrow⟩ := OwnI.row hown
    have HRW := hide hrow
    clear hb2 hown hrow
    have ck := (H.out.keep hb).c6
    have fk := (H.out.keep hb).f6
    have HK := hide (H.out.keep hb)
    have HB := hide hb
    clear hb
    go_wp2_with fail
    go_ret
    rw [HO.out]
    exact ⟨grown_set HB.out, rfl, _, _, _, _, _, _, _, _, _, HK.out.set_ys A2 _ cap2 l HRW.out rfl (HLE.out l rfl) (OffB.new HOW.out H.out.lt HV.out)⟩

set_option maxRecDepth 100000 in
set_option maxHeartbeats 1000000 in
theorem take_5 (t : Tx) (b : Nat) (v : Value) (r : T) (D M Y : Option Addr) (dn dc mn mc yn yc : Nat) (w : World) (h : RuleAt w b v r D dn dc M mn mc Y yn yc) (hv : ∀ g, v.ownBlock = some g → g < w.heap.size) (he : Env w) (ht : t.length ≤ 100000) :
    Calls Tryz.prog 44 #[.pointer (some ⟨b, 0, none⟩), .string (str nBYMONTHDAY), .string (str t)] w (Takes w b v r (Rt.valOf unU rdC nBYMONTHDAY t)) := by
  rw [rval_5]
  obtain ⟨X, hX⟩ : ∃ X, nBYMONTHDAY = X := ⟨_, rfl⟩
  have e0 : (X == [70, 82, 69, 81]) = false := by rw [← hX]; decide
  have e1 : (X == [73, 78, 84, 69, 82, 86, 65, 76]) = false := by rw [← hX]; decide
  have e2 : (X == [67, 79, 85, 78, 84]) = false := by rw [← hX]; decide
  have e3 : (X == [85, 78, 84, 73, 76]) = false := by rw [← hX]; decide
  have e4 : (X == [66, 89, 77, 79, 78, 84, 72]) = false := by rw [← hX]; decide
  have e5 : (X == [66, 89, 77, 79, 78, 84, 72, 68, 65, 89]) = true := by rw [← hX]; decide
  have q1 := str_tl X
  have hts : (str t).size ≤ 100000 := by rw [str_size]; exact ht
  have htl : (str t).data.toList = t := str_list t
  have H := hide h
  have HE := hide he
  have HV := hide hv
  rw [hX]
  clear h he hv hX ht
  go_enter Tryz.func44, Tryz.ntmps44
  go_wp2_with fail
  refine (elementsOf_at (str t) _ HE.out hts).mono ?_
  rintro e w1 ⟨A, cap, rfl, hr, hb1⟩
  rw [htl] at hr ⊢
  have hle := splitN_le 44 12 t
  obtain ⟨O, hO⟩ : ∃ O, (allSome numC (Lib.splitN t [44] 13)).map (srt inLt) = O := ⟨_, rfl⟩
  have HO : Hid ((rdC.nums true t).map Rt.Part.ms = O.map Rt.Part.ms) := hide (by rw [← hO]; rfl)
  have hcon := fun w he hr => sortedI_any A _ cap (Lib.splitN t [44] 13) w hr rfl (Nat.le_trans hle.2 (by omega)) (fun p hp => Nat.le_trans (hle.1 p hp) (by rw [str_size] at hts; exact hts)) he
  have hlen : ∀ l, O = some l → l.length ≤ 1000 := fun l hl => by
    rw [← hO, Option.map_eq_some_iff] at hl
    obtain ⟨xs, hx, rfl⟩ := hl
    rw [(srt_perm inLt xs).length_eq, ← allSome_len hx]
    exact Nat.le_trans hle.2 (by omega)
  rw [hO] at hcon
  have HC := hide hcon
  have HLE := hide hlen
  have HRR := hide hr
  have HB1 := hide hb1
  generalize (Lib.splitN t [44] 13) = LL at *
  clear hO hcon hle hlen hr hb1
  go_wp2_with fail
  refine (HC.out _ (HE.out.keep HB1.out) HRR.out).mono ?_
  rintro e w2 ⟨hb2, ⟨rfl, rfl⟩ | ⟨l, v2, rfl, rfl, hown⟩⟩
  · have hb := andthen HB1.out hb2
    clear hb2
    have ck := (H.out.keep hb).c5
    have fk := (H.out.keep hb).f5
    have HK := hide (H.out.keep hb)
    have HB := hide hb
    clear hb
    go_wp2_with fail
    go_ret
    rw [HO.out]
    exact ⟨grown_set HB.out, rfl⟩
  · have hb := andthen HB1.out hb2
    have HOW := hide (OwnI.down hown HB1.out.size)
    obtain ⟨A2, cap2, rfl, hrow⟩ := OwnI.row hown
    have HRW := hide hrow
    clear hb2 hown hrow
    have ck := (H.out.keep hb).c5
    have fk := (H.out.keep hb).f5
    have HK := hide (H.out.keep hb)
    have HB := hide hb
    clear hb
    go_wp2_with fail
    go_ret
    rw [HO.out]
    exact ⟨grown_set HB.out, rfl, _, _, _, _, _, _, _, _, _, HK.out.set_ms A2 _ cap2 l HRW.out rfl (HLE.out l rfl) (OffB.new HOW.out H.out.lt HV.out)⟩

set_option maxRecDepth 100000 in
set_option maxHeartbeats 1000000 in
theorem take_6 (t : Tx) (b : Nat) (v : Value) (r : T) (D M Y : Option Addr) (dn dc mn mc yn yc : Nat) (w : World) (h : RuleAt w b v r D dn dc M mn mc Y yn yc) (hv : ∀ g, v.ownBlock = some g → g < w.heap.size) (he : Env w) (ht : t.length ≤ 100000) :
    Calls Tryz.prog 44 #[.pointer (some ⟨b, 0, none⟩), .string (str nBYDAY), .string (str t)] w (Takes w b v r (Rt.valOf unU rdC nBYDAY t)) := by
  rw [rval_6]
  obtain ⟨X, hX⟩ : ∃ X, nBYDAY = X := ⟨_, rfl⟩
  have e0 : (X == [70, 82, 69, 81]) = false := by rw [← hX]; decide
  have e1 : (X == [73, 78, 84, 69, 82, 86, 65, 76]) = false := by rw [← hX]; decide
  have e2 : (X == [67, 79, 85, 78, 84]) = false := by rw [← hX]; decide
  have e3 : (X == [85, 78, 84, 73, 76]) = false := by rw [← hX]; decide
  have e4 : (X == [66, 89, 77, 79, 78, 84, 72]) = false := by rw [← hX]; decide
  have e5 : (X == [66, 89, 77, 79, 78, 84, 72, 68, 65, 89]) = false := by rw [← hX]; decide
  have e6 : (X == [66, 89, 68, 65, 89]) = true := by rw [← hX]; decide
  have q1 := str_tl X
  have hts : (str t).size ≤ 100000 := by rw [str_size]; exact ht
  have htl : (str t).data.toList = t := str_list t
  have H := hide h
  have HE := hide he
  have HV := hide hv
  rw [hX]
  clear h he hv hX ht
  go_enter Tryz.func44, Tryz.ntmps44
  go_wp2_with fail
  refine (elementsOf_at (str t) _ HE.out hts).mono ?_
  rintro e w1 ⟨A, cap, rfl, hr, hb1⟩
  rw [htl] at hr ⊢
  have hle := splitN_le 44 12 t
  obtain ⟨O, hO⟩ : ∃ O, (allSome (wdWith numC) (Lib.splitN t [44] 13)).map (srt wdLt) = O := ⟨_, rfl⟩
  have HO : Hid ((rdC.wds t).map Rt.Part.ds = O.map Rt.Part.ds) := hide (by rw [← hO]; rfl)
  have hcon := fun w he hr => sortedD_any A _ cap (Lib.splitN t [44] 13) w hr rfl (Nat.le_trans hle.2 (by omega)) (fun p hp => Nat.le_trans (hle.1 p hp) (by rw [str_size] at hts; exact hts)) he
  have hlen : ∀ l, O = some l → l.length ≤ 1000 := fun l hl => by
    rw [← hO, Option.map_eq_some_iff] at hl
    obtain ⟨xs, hx, rfl⟩ := hl
    rw [(srt_perm wdLt xs).length_eq, ← allSome_len hx]
    exact Nat.le_trans hle.2 (by omega)
  rw [hO] at hcon
  have HC := hide hcon
  have HLE := hide hlen
  have HRR := hide hr
  have HB1 := hide hb1
  generalize (Lib.splitN t [44] 13) = LL at *
  clear hO hcon hle hlen hr hb1
  go_wp2_with fail
  refine (HC.out _ (HE.out.keep HB1.out) HRR.out).mono ?_
  rintro e w2 ⟨hb2, ⟨rfl, rfl⟩ | ⟨l, v2, rfl, rfl, hown⟩⟩
  · have hb := andthen HB1.out hb2
    clear hb2
    have ck := (H.out.keep hb).c4
    have fk := (H.out.keep hb).f4
    have HK := hide (H.out.keep hb)
    have HB := hide hb
    clear hb
    go_wp2_with fail
    go_ret
    rw [HO.out]
    exact ⟨grown_set HB.out, rfl⟩
  · have hb := andthen HB1.out hb2
    have HOW := hide (OwnD.down hown HB1.out.size)
    obtain ⟨A2, cap2, rfl, hrow⟩ := OwnD.row hown
    have HRW := hide hrow
    clear hb2 hown hrow
    have ck := (H.out.keep hb).c4
    have fk := (H.out.keep hb).f4
    have HK := hide (H.out.keep hb)
    have HB := hide hb
    clear hb
    go_wp2_with fail
    go_ret
    rw [HO.out]
    exact ⟨grown_set HB.out, rfl, _, _, _, _, _, _, _, _, _, HK.out.set_ds A2 _ cap2 l HRW.out rfl (HLE.out l rfl) (OffB.newD HOW.out H.out.lt HV.out)⟩

set_option maxRecDepth 100000 in
set_option maxHeartbeats 1000000 in
theorem take_no (X t : Tx) (b : Nat) (v : Value) (r : T) (w : World) (hx0 : X ≠ nFREQ) (hx1 : X ≠ nINTERVAL) (hx2 : X ≠ nCOUNT) (hx3 : X ≠ nUNTIL) (hx4 : X ≠ nBYMONTH) (hx5 : X ≠ nBYMONTHDAY) (hx6 : X ≠ nBYDAY) :
    Calls Tryz.prog 44 #[.pointer (some ⟨b, 0, none⟩), .string (str X), .string (str t)] w (Takes w b v r (Rt.valOf unU rdC X t)) := by
  have HN : Hid (Rt.valOf unU rdC X t = none) := hide (by unfold Rt.valOf; rw [if_neg hx0, if_neg hx1, if_neg hx2, if_neg hx3, if_neg hx4, if_neg hx5, if_neg hx6])
  have e0 : (X == [70, 82, 69, 81]) = false := by rw [tx_eq]; exact decide_eq_false hx0
  have e1 : (X == [73, 78, 84, 69, 82, 86, 65, 76]) = false := by rw [tx_eq]; exact decide_eq_false hx1
  have e2 : (X == [67, 79, 85, 78, 84]) = false := by rw [tx_eq]; exact decide_eq_false hx2
  have e3 : (X == [85, 78, 84, 73, 76]) = false := by rw [tx_eq]; exact decide_eq_false hx3
  have e4 : (X == [66, 89, 77, 79, 78, 84, 72]) = false := by rw [tx_eq]; exact decide_eq_false hx4
  have e5 : (X == [66, 89, 77, 79, 78, 84, 72, 68, 65, 89]) = false := by rw [tx_eq]; exact decide_eq_false hx5
  have e6 : (X == [66, 89, 68, 65, 89]) = false := by rw [tx_eq]; exact decide_eq_false hx6
  have q1 := str_tl X
  rw [HN.out]
  clear hx0 hx1 hx2 hx3 hx4 hx5 hx6
  go_enter Tryz.func44, Tryz.ntmps44
  go_wp2_with fail
  go_ret
  exact ⟨grown_below (start _), rfl⟩
theorem take_any (X t : Tx) (b : Nat) (v : Value) (r : T) (D M Y : Option Addr) (dn dc mn mc yn yc : Nat) (w : World) (h : RuleAt w b v r D dn dc M mn mc Y yn yc) (hv : ∀ g, v.ownBlock = some g → g < w.heap.size) (he : Env w) (ht : t.length ≤ 100000) :
    Calls Tryz.prog 44 #[.pointer (some ⟨b, 0, none⟩), .string (str X), .string (str t)] w (Takes w b v r (Rt.valOf unU rdC X t)) := by
  by_cases h0 : X = nFREQ
  · subst h0; exact take_0 t b v r D M Y dn dc mn mc yn yc w h hv he ht
  by_cases h1 : X = nINTERVAL
  · subst h1; exact take_1 t b v r D M Y dn dc mn mc yn yc w h hv he ht
  by_cases h2 : X = nCOUNT
  · subst h2; exact take_2 t b v r D M Y dn dc mn mc yn yc w h hv he ht
  by_cases h3 : X = nUNTIL
  · subst h3; exact take_3 t b v r D M Y dn dc mn mc yn yc w h hv he ht
  by_cases h4 : X = nBYMONTH
  · subst h4; exact take_4 t b v r D M Y dn dc mn mc yn yc w h hv he ht
  by_cases h5 : X = nBYMONTHDAY
  · subst h5; exact take_5 t b v r D M Y dn dc mn mc yn yc w h hv he ht
  by_cases h6 : X = nBYDAY
  · subst h6; exact take_6 t b v r D M Y dn dc mn mc yn yc w h hv he ht
  exact take_no X t b v r w h0 h1 h2 h3 h4 h5 h6

end Go.Proofs.YtffobailjdhijaaGreatDoor

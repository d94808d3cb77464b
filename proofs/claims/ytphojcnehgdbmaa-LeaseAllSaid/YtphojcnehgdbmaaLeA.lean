/- A lease in memory: a block of eight pointers to sets, each of its own; what a change of its sets leaves. -/
import Derived.Test.YtphojcnehgdbmaaBS12
import Derived.Test.YtphojcnehgdbmaaBC7
namespace Go.Proofs.Ytphojcnehgdbmaa.S2
open Go.RowKit Spn Cl Le

theorem not_one {w : World} {g o : Nat} {u : Value} (ho : 1 ≤ o) (hc : w.cell? ⟨g, o, none⟩ = some u) : ¬ One w g := fun h => h.no ho hc
/-- at block g lies a lease: each room's set. -/
structure LeaseAt (w : World) (g : Nat) (bs : Nat → Nat) (f : Rm) : Prop where
  lt : g < w.heap.size
  cell : ∀ r, r < 8 → w.cell? ⟨g, r, none⟩ = some (.pointer (some ⟨bs r, 0, none⟩))
  set : ∀ r, r < 8 → SetAt w (bs r) (f r)
  inj : ∀ r q, r < 8 → q < 8 → bs r = bs q → r = q
theorem LeaseAt.one {w : World} {g : Nat} {bs : Nat → Nat} {f : Rm} (h : LeaseAt w g bs f) : ∀ r, r < 8 → One w (bs r) := fun r hr => (h.set r hr).one
theorem LeaseAt.neat {w : World} {g : Nat} {bs : Nat → Nat} {f : Rm} (h : LeaseAt w g bs f) : NeatR f := fun r hr => (h.set r hr).neat
theorem LeaseAt.no {w : World} {g : Nat} {bs : Nat → Nat} {f : Rm} (h : LeaseAt w g bs f) {b : Nat} (hb : One w b) : g ≠ b := fun e => by
  subst e; exact hb.no (Nat.le_refl 1) (h.cell 1 (by omega))
theorem LeaseAt.keep {w w1 : World} {g : Nat} {bs : Nat → Nat} {f : Rm} (h : LeaseAt w g bs f) (hb : Below w.heap.size w w1) : LeaseAt w1 g bs f :=
  ⟨Nat.lt_of_lt_of_le h.lt hb.size, fun r hr => cell_keep hb (h.cell r hr), fun r hr => (h.set r hr).keep hb, h.inj⟩
theorem LeaseAt.congr {w : World} {g : Nat} {bs : Nat → Nat} {f f2 : Rm} (h : LeaseAt w g bs f) (e : ∀ r, r < 8 → f r = f2 r) : LeaseAt w g bs f2 :=
  ⟨h.lt, h.cell, fun r hr => by rw [← e r hr]; exact h.set r hr, h.inj⟩
/-- all but the sets' blocks is as it was. -/
structure ChgL (bs : Nat → Nat) (w w' : World) : Prop where
  os : w'.os = w.os
  tape : w'.tape = w.tape
  output : w'.output = w.output
  size : w.heap.size ≤ w'.heap.size
  block : ∀ k, k < w.heap.size → (∀ r, r < 8 → k ≠ bs r) → w'.heap[k]? = w.heap[k]?
theorem ChgL.of {bs : Nat → Nat} {w w' : World} (h : Below w.heap.size w w') : ChgL bs w w' := ⟨h.os, h.tape, h.output, h.size, fun k hk _ => h.block k hk⟩
theorem ChgL.trans {bs : Nat → Nat} {w w1 w2 : World} (h : ChgL bs w w1) (k : ChgL bs w1 w2) : ChgL bs w w2 :=
  ⟨k.os.trans h.os, k.tape.trans h.tape, k.output.trans h.output, Nat.le_trans h.size k.size, fun i hi hn => (k.block i (Nat.lt_of_lt_of_le hi h.size) hn).trans (h.block i hi hn)⟩
theorem ChgL.chg {bs : Nat → Nat} {w w' : World} {r : Nat} (hr : r < 8) (h : Chg (bs r) w w') : ChgL bs w w' :=
  ⟨h.os, h.tape, h.output, h.size, fun k hk hn => World.grownBy.block h k hk fun e => hn r hr (by injection e)⟩
theorem ChgL.cell {bs : Nat → Nat} {w w' : World} (h : ChgL bs w w') {b o : Nat} {u : Value} (hne : ∀ r, r < 8 → b ≠ bs r) (hc : w.cell? ⟨b, o, none⟩ = some u) : w'.cell? ⟨b, o, none⟩ = some u :=
  (World.cell?_of_block (a := ⟨b, o, none⟩) (h.block b (block_lt_of_cell hc) hne)).trans hc
theorem ChgL.below {bs : Nat → Nat} {B : Nat} {W w w' : World} (h : ChgL bs w w') (hb : Below B W w) (hB : B ≤ w.heap.size) (hl : ∀ r, r < 8 → B ≤ bs r) : Below B W w' :=
  ⟨h.os.trans hb.os, h.tape.trans hb.tape, h.output.trans hb.output, Nat.le_trans hb.size h.size, fun k hk => (h.block k (Nat.lt_of_lt_of_le hk hB) fun r hr => by have := hl r hr; omega).trans (hb.block k hk)⟩
theorem Tree.otherL {w w' : World} {bs : Nat → Nat} (h1 : ∀ r, r < 8 → One w (bs r)) (hc : ChgL bs w w') : ∀ {t : Tr} {p : Option Addr}, Tree w p t → Tree w' p t
  | .nil, _, h => h
  | .node _ _ _, _, ⟨b, pl, pr, e, hn, hl, hr⟩ => by
    have hne : ∀ r, r < 8 → b ≠ bs r := fun r hr he => by subst he; exact (h1 r hr).no (Nat.le_refl _) hn.c1
    exact ⟨b, pl, pr, e, ⟨Nat.lt_of_lt_of_le hn.lt hc.size, hc.cell hne hn.c0, hc.cell hne hn.c1, hc.cell hne hn.c2, hc.cell hne hn.c3, hc.cell hne hn.c4⟩, Tree.otherL h1 hc hl, Tree.otherL h1 hc hr⟩
theorem SetAt.otherL {w w' : World} {bs : Nat → Nat} {g : Nat} {l : List Sp} (h : SetAt w g l) (h1 : ∀ r, r < 8 → One w (bs r)) (hc : ChgL bs w w') (hne : ∀ r, r < 8 → g ≠ bs r) : SetAt w' g l := by
  have hlt := h.lt
  obtain ⟨p, t, h0, ht, h2⟩ := h
  exact ⟨p, t, (hc.block g hlt hne).trans h0, Tree.otherL h1 hc ht, h2⟩
theorem OwnC.otherL {w w' : World} {bs : Nat → Nat} {B : Nat} {v : Value} {l : List C} (h : OwnC w B v l) (h1 : ∀ r, r < 8 → One w (bs r)) (hc : ChgL bs w w') : OwnC w' B v l := by
  refine ⟨h.1, ?_⟩
  rcases h.2 with hn | ⟨g, cap, cur, rfl, hb, hg, rest⟩
  · exact Or.inl hn
  · refine Or.inr ⟨g, cap, cur, rfl, hb, ?_, rest⟩
    rw [hc.block g (Array.getElem?_eq_some_iff.1 hg).1 fun r hr he => ?_]
    · exact hg
    · subst he
      obtain ⟨u, hu⟩ := h1 r hr
      rw [hg] at hu
      injection hu with hu
      injection hu with _ hu
      exact absurd hu (by decide)
theorem OwnC.otherO {w w' : World} {g B : Nat} {v : Value} {l : List C} (h : OwnC w B v l) (h1 : One w g) (hc : Chg g w w') : OwnC w' B v l :=
  OwnC.otherL (bs := fun _ => g) h (fun _ _ => h1) (ChgL.chg (r := 0) (by omega) hc)
/-- another lease's sets changed. -/
theorem LeaseAt.otherL {w w' : World} {g : Nat} {bs bs2 : Nat → Nat} {f : Rm} (h : LeaseAt w g bs f) (h1 : ∀ r, r < 8 → One w (bs2 r)) (hc : ChgL bs2 w w') (hne : ∀ r q, r < 8 → q < 8 → bs r ≠ bs2 q) : LeaseAt w' g bs f :=
  ⟨Nat.lt_of_lt_of_le h.lt hc.size, fun r hr => hc.cell (fun q hq => h.no (h1 q hq)) (h.cell r hr), fun r hr => (h.set r hr).otherL h1 hc fun q hq => hne r q hr hq, h.inj⟩
/-- one of its own sets changed. -/
theorem LeaseAt.step {w w' : World} {g r : Nat} {bs : Nat → Nat} {f : Rm} {l : List Sp} (h : LeaseAt w g bs f) (hr : r < 8) (hs : SetAt w' (bs r) l) (hc : Chg (bs r) w w') : LeaseAt w' g bs (putR f r l) := by
  refine ⟨Nat.lt_of_lt_of_le h.lt hc.size, fun q hq => hc.cell' (h.no (h.one r hr)) (h.cell q hq), fun q hq => ?_, h.inj⟩
  by_cases e : q = r
  · subst e; rw [putR_same]; exact hs
  · rw [putR_other _ _ _ _ e]
    exact (h.set q hq).other (h.one r hr) hc fun he => e (h.inj q r hq hr he)
theorem ChgL.low {bs : Nat → Nat} {w w' : World} (h : ChgL bs w w') {A : Option Addr} {l : List C} {B : Nat} {W : World} (hr : RowC W A l) (hb : Below W.heap.size W w) (hl : ∀ r, r < 8 → B ≤ bs r) (hB : W.heap.size ≤ B) (hw : W.heap.size ≤ w.heap.size) : RowC w' A l :=
  hr.keep (h.below hb hw fun r hr => Nat.le_trans hB (hl r hr))
/-- a call hands back a new lease. -/
def NewL (W : World) (f : Rm) (e : Ending) (w : World) : Prop := ∃ g bs, e = .returned (.pointer (some ⟨g, 0, none⟩)) ∧ W.heap.size ≤ g ∧ (∀ r, r < 8 → W.heap.size ≤ bs r) ∧ LeaseAt w g bs f ∧ Below W.heap.size W w
/-- a call changes a lease in its place. -/
def TurnsL (W : World) (g : Nat) (bs : Nat → Nat) (f : Rm) (e : Ending) (w : World) : Prop := e = .returned (.tuple #[]) ∧ LeaseAt w g bs f ∧ ChgL bs W w
/-- a lease in the making: the first rooms have their sets. -/
structure MakeAt (w : World) (g B : Nat) (bs : Nat → Nat) (k : Nat) (f : Rm) : Prop where
  lt : g < w.heap.size
  cell : ∀ r, r < 8 → w.cell? ⟨g, r, none⟩ = some (.pointer (if r < k then some ⟨bs r, 0, none⟩ else none))
  froz : ∀ r, w.frozen? ⟨g, r, none⟩ = false
  set : ∀ r, r < k → SetAt w (bs r) (f r)
  inj : ∀ r q, r < k → q < k → bs r = bs q → r = q
  low : ∀ r, r < k → B ≤ bs r
theorem MakeAt.keep {w w1 : World} {g B k : Nat} {bs : Nat → Nat} {f : Rm} (h : MakeAt w g B bs k f) (hb : Below w.heap.size w w1) : MakeAt w1 g B bs k f :=
  ⟨Nat.lt_of_lt_of_le h.lt hb.size, fun r hr => cell_keep hb (h.cell r hr), fun r => (hb.frozen (p := ⟨g, r, none⟩) h.lt).trans (h.froz r), fun r hr => (h.set r hr).keep hb, h.inj, h.low⟩
theorem MakeAt.lease {w : World} {g B : Nat} {bs : Nat → Nat} {f : Rm} (h : MakeAt w g B bs 8 f) : LeaseAt w g bs f :=
  ⟨h.lt, fun r hr => by have := h.cell r hr; rw [if_pos hr] at this; exact this, h.set, h.inj⟩
theorem setCell_grown (w : World) (g r : Nat) (v : Value) : w.grownBy (w.setCell ⟨g, r, none⟩ v) (some g) := grown_set w g r v
/-- a block of pointers is no node's. -/
theorem Tree.away {w w' : World} {g : Nat} {q : Option Addr} (h0 : w.cell? ⟨g, 0, none⟩ = some (.pointer q)) (hc : Chg g w w') : ∀ {t : Tr} {p : Option Addr}, Tree w p t → Tree w' p t
  | .nil, _, h => h
  | .node _ _ _, _, ⟨b, pl, pr, e, hn, hl, hr⟩ => by
    have hne : b ≠ g := fun he => by
      subst he
      have := hn.c0
      rw [h0] at this
      injection this with this
      cases this
    exact ⟨b, pl, pr, e, ⟨Nat.lt_of_lt_of_le hn.lt hc.size, hc.cell' hne hn.c0, hc.cell' hne hn.c1, hc.cell' hne hn.c2, hc.cell' hne hn.c3, hc.cell' hne hn.c4⟩, Tree.away h0 hc hl, Tree.away h0 hc hr⟩
theorem SetAt.away {w w' : World} {g b : Nat} {q : Option Addr} {l : List Sp} (h : SetAt w b l) (h0 : w.cell? ⟨g, 0, none⟩ = some (.pointer q)) (hc : Chg g w w') (hne : b ≠ g) : SetAt w' b l := by
  have hlt := h.lt
  obtain ⟨p, t, h1, ht, h2⟩ := h
  exact ⟨p, t, (hc.block hlt hne).trans h1, Tree.away h0 hc ht, h2⟩
/-- the next room's set. -/
theorem MakeAt.next {w0 w : World} {g B k b : Nat} {bs : Nat → Nat} {f : Rm} {l : List Sp} (h : MakeAt w0 g B bs k f) (hk : k < 8) (hb : Below w0.heap.size w0 w) (hs : SetAt w b l) (hn : w0.heap.size ≤ b) (hB : B ≤ w0.heap.size) :
    MakeAt (w.setCell ⟨g, k, none⟩ (.pointer (some ⟨b, 0, none⟩))) g B (fun r => if r = k then b else bs r) (k + 1) (putR f k l) := by
  have h' := h.keep hb
  have hg : ∀ q, One w q → q ≠ g := fun q hq e => by subst e; exact hq.no (Nat.le_refl 1) (h'.cell 1 (by omega))
  have hc : Chg g w (w.setCell ⟨g, k, none⟩ (.pointer (some ⟨b, 0, none⟩))) := setCell_grown w g k _
  have hz := h'.cell 0 (by omega)
  have hlt : ∀ r, r < k → bs r < w0.heap.size := fun r hr => (h.set r hr).lt
  refine ⟨Nat.lt_of_lt_of_le h'.lt hc.size, fun r hr => ?_, fun r => ?_, fun r hr => ?_, fun r q hr hq he => ?_, fun r hr => ?_⟩
  · by_cases e : r = k
    · subst e
      rw [if_pos (Nat.lt_succ_self _), if_pos rfl]
      exact World.cell?_setCell_same _ _ _ (h'.cell r hr)
    · rw [if_neg e, World.cell?_setCell_other _ _ _ _ (by intro hc; injection hc with _ hc; exact e hc.symm), h'.cell r hr]
      by_cases c : r < k
      · rw [if_pos c, if_pos (by omega)]
      · rw [if_neg c, if_neg (by omega)]
  · rw [World.frozen?_setCell]; exact h'.froz r
  · by_cases e : r = k
    · subst e
      rw [if_pos rfl, putR_same]
      exact hs.away hz hc (hg _ hs.one)
    · rw [if_neg e, putR_other _ _ _ _ e]
      have hr' := h'.set r (by omega)
      exact hr'.away hz hc (hg _ hr'.one)
  · by_cases e : r = k
    · by_cases e2 : q = k
      · omega
      · rw [if_pos e, if_neg e2] at he
        have := hlt q (by omega)
        omega
    · by_cases e2 : q = k
      · rw [if_neg e, if_pos e2] at he
        have := hlt r (by omega)
        omega
      · rw [if_neg e, if_neg e2] at he
        exact h'.inj r q (by omega) (by omega) he
  · by_cases e : r = k
    · rw [if_pos e]; omega
    · rw [if_neg e]; exact h'.low r (by omega)
/-- one of the sets in the making changed. -/
theorem MakeAt.step {w w' : World} {g B k r : Nat} {bs : Nat → Nat} {f : Rm} {l : List Sp} (h : MakeAt w g B bs k f) (hr : r < k) (hs : SetAt w' (bs r) l) (hc : Chg (bs r) w w') : MakeAt w' g B bs k (putR f r l) := by
  have hg : g ≠ bs r := fun e => by
    have h1 := (h.set r hr).one
    rw [← e] at h1
    exact h1.no (Nat.le_refl 1) (h.cell 1 (by omega))
  refine ⟨Nat.lt_of_lt_of_le h.lt hc.size, fun q hq => hc.cell' hg (h.cell q hq), fun q => (World.grownBy.frozen_far hc ⟨g, q, none⟩ h.lt (fun e => hg (by injection e))).trans (h.froz q), fun q hq => ?_, h.inj, h.low⟩
  by_cases e : q = r
  · subst e; rw [putR_same]; exact hs
  · rw [putR_other _ _ _ _ e]
    exact (h.set q hq).other (h.set r hr).one hc fun he => e (h.inj q r hq hr he)
theorem MakeAt.congr {w : World} {g B k : Nat} {bs : Nat → Nat} {f f2 : Rm} (h : MakeAt w g B bs k f) (e : ∀ r, r < k → f r = f2 r) : MakeAt w g B bs k f2 :=
  ⟨h.lt, h.cell, h.froz, fun r hr => by rw [← e r hr]; exact h.set r hr, h.inj, h.low⟩
end Go.Proofs.Ytphojcnehgdbmaa.S2

/- A row of numbers that grows beside another row: what an append leaves, and where the own row lies behind it. -/
import Derived.Test.YtdmplojfidkipaaDaC
import Derived.Maps.AppendAt
namespace Go.Proofs.Ytdmplojfidkipaa
open Go.RowKit Rul Go.Sort

/-- the own row v became v': all other blocks are as they were; v' lies where v lay, or in new memory. -/
structure GoesI (v : Value) (w : World) (v' : Value) (w' : World) : Prop where
  grown : w.grownBy w' v.ownBlock
  own : v'.ownBlock = v.ownBlock ∨ ∃ k, v'.ownBlock = some k ∧ w.heap.size ≤ k
theorem GoesI.trans {v1 v2 v3 : Value} {w1 w2 w3 : World} (h : GoesI v1 w1 v2 w2) (k : GoesI v2 w2 v3 w3) : GoesI v1 w1 v3 w3 := by
  obtain ⟨hg, ho⟩ := h
  obtain ⟨kg, ko⟩ := k
  refine ⟨⟨kg.os.trans hg.os, kg.tape.trans hg.tape, kg.output.trans hg.output, Nat.le_trans hg.size kg.size, fun i hi hne => ?_⟩, ?_⟩
  · refine (kg.block i (Nat.lt_of_lt_of_le hi hg.size) ?_).trans (hg.block i hi hne)
    rcases ho with ho | ⟨k, ho, hk⟩
    · rw [ho]; exact hne
    · rw [ho]; intro he; injection he with he; omega
  · rcases ko with ko | ⟨k, ko, hk⟩
    · rw [ko]; exact ho
    · exact Or.inr ⟨k, ko, Nat.le_trans hg.size hk⟩
theorem GoesI.below {v : Value} {w w' : World} (h : Below w.heap.size w w') : GoesI v w v w' := ⟨⟨h.os, h.tape, h.output, h.size, fun i hi _ => h.block i hi⟩, Or.inl rfl⟩
theorem GoesI.to {v v' : Value} {W w w' : World} {B : Nat} {l : List Int} (h : GoesI v w v' w') (hown : OwnI w B v l) (hb : Below B W w) (hB : B ≤ w.heap.size) : Below B W w' :=
  hb.grown h.grown hB fun j hj => (hown.lt j hj).1
/-- a block that isn't the own row's. -/
def ApartI (v : Value) (b : Nat) : Prop := some b ≠ v.ownBlock
theorem GoesI.apart {v v' : Value} {w w' : World} {b : Nat} (h : GoesI v w v' w') (ha : ApartI v b) (hb : b < w.heap.size) : ApartI v' b := by
  unfold ApartI at *
  rcases h.own with ho | ⟨k, ho, hk⟩
  · rw [ho]; exact ha
  · rw [ho]; intro he; injection he with he; omega
theorem GoesI.row {v v' : Value} {w w' : World} {b o : Nat} {l : List Int} (h : GoesI v w v' w') (ha : ApartI v b) (hr : RowI w (some ⟨b, o, none⟩) l) : RowI w' (some ⟨b, o, none⟩) l := fun hn => by
  obtain ⟨b2, o2, e, hl, hc⟩ := hr hn
  injection e with e
  injection e with e1 e2
  subst e1 e2
  exact ⟨b, o, rfl, Nat.lt_of_lt_of_le hl h.grown.size, fun i hi => h.grown.cell (hc i hi) ha⟩
/-- a row that another call made lies apart from the own one. -/
theorem apart_of {w w2 : World} {B : Nat} {v : Value} {l k : List Int} {A : Option Addr} {n c : Nat} (h : OwnI w B v l) (h2 : OwnI w2 w.heap.size (.slice A n c) k) : ∀ b o, A = some ⟨b, o, none⟩ → ApartI v b := fun b o e he => by
  subst e
  have a := (h2.lt b rfl).1
  have c := (h.lt b he.symm).2
  omega
/-- one number more behind a call's own row. -/
theorem wp_oneJ {ops : Array Oper} {rest : List Oper} {o : Oper} {a : Act} {Q : Exit → Act → World → Prop} {w : World} {B : Nat} {v : Value} {l : List Int} {p : Int} (hgd : o.guard = none) (s x : Operand)
    (ho : o.op = .call { callee := .builtin .append, args := #[s, x], argTypes := #[23, 23] }) (hs : a.eval s = v) {N : Nat} (hN : w.heap.size = N) (hx : a.eval x = .slice (some ⟨N, 0, none⟩) 1 1)
    (hown : OwnI w B v l) (hB : B ≤ w.heap.size) (hn : l.length ≤ 1000000)
    (h : ∀ v' w', OwnI w' B v' (l ++ [p]) → GoesI v w v' w' → wpList Try.prog ops Q rest (a.put o.dst v') w') :
    wpList Try.prog ops Q (o :: rest) a (w.alloc (.cells #[.int .i64 p] 3)) := by
  subst hN
  obtain ⟨i0, hi, hz0, hz1, hz2⟩ := info_parts int_info
  refine wpList_append_own_at _ hgd s x 23 ho B 3 i0 _ 1 8 Try.underlying23 hi hz0 hz1 hz2 rfl (by decide) v l.length (cellsI l) hs (hown.alloc _) ⟨w.heap.size, 0, none⟩ 1 1 [.int .i64 p] hx rfl ?_ ?_ ?_ ?_ ?_ ?_
  · intro j u hu
    rw [plus, World.cell?_alloc_at _ _ _ _ rfl]
    exact (by simpa using hu)
  · intro u hu
    simp only [List.mem_cons, List.not_mem_nil, or_false] at hu
    subst hu; rfl
  · unfold maxLen; omega
  · omega
  · simp only [World.size_alloc]; omega
  · intro v' w' h2 h3 _ h5
    refine h v' w' (by rw [OwnI, cellsI_append, List.length_append]; exact h2) ((GoesI.below (more (start w) _)).trans ⟨h3, ?_⟩)
    rcases h5 with h5 | h5
    · exact Or.inl h5
    · exact Or.inr ⟨_, h5, Nat.le_refl _⟩

end Go.Proofs.Ytdmplojfidkipaa

/- A row that grows: what an append leaves, and where the own row lies behind it; package spans: grow's depth. -/
import Derived.Test.YtkjkegjekfebpaaSnG
import Derived.Maps.AppendAt
namespace Go.Proofs.Ytkjkegjekfebpaa
open Go.RowKit Spn

/-- the own row v became v': all other blocks are as they were; v' lies where v lay, or in new memory. -/
structure Goes (v : Value) (w : World) (v' : Value) (w' : World) : Prop where
  grown : w.grownBy w' v.ownBlock
  own : v'.ownBlock = v.ownBlock ∨ ∃ k, v'.ownBlock = some k ∧ w.heap.size ≤ k
theorem Goes.refl (v : Value) (w : World) : Goes v w v w := ⟨World.grownBy.refl _ _, Or.inl rfl⟩
theorem Goes.trans {v1 v2 v3 : Value} {w1 w2 w3 : World} (h : Goes v1 w1 v2 w2) (k : Goes v2 w2 v3 w3) : Goes v1 w1 v3 w3 := by
  obtain ⟨hg, ho⟩ := h
  obtain ⟨kg, ko⟩ := k
  refine ⟨⟨kg.os.trans hg.os, kg.tape.trans hg.tape, kg.output.trans hg.output, Nat.le_trans hg.size kg.size, fun i hi hne => ?_⟩, ?_⟩
  · refine (kg.block i (Nat.lt_of_lt_of_le hi hg.size) ?_).trans (hg.block i hi hne)
    rcases ho with ho | ⟨k, ho, hk⟩
    · rw [ho]; exact hne
    · rw [ho]; intro he; injection he with he; omega
  · rcases ko with ko | ⟨k, ko, hk⟩
    · rw [ko]; exact ho
    · exact Or.inr ⟨k, ko, Nat.le_trans hg.size hk⟩
theorem Goes.below {v : Value} {w w' : World} (h : Below w.heap.size w w') : Goes v w v w' := ⟨⟨h.os, h.tape, h.output, h.size, fun i hi _ => h.block i hi⟩, Or.inl rfl⟩
theorem Goes.to {v v' : Value} {W w w' : World} {l : List Sp} (h : Goes v w v' w') (hown : Own w W.heap.size v l) (hb : Below W.heap.size W w) : Below W.heap.size W w' :=
  hb.grown h.grown hb.size fun j hj => (hown.lt j hj).1
/-- a block that isn't the own row's. -/
def Apart (v : Value) (b : Nat) : Prop := some b ≠ v.ownBlock
theorem Goes.apart {v v' : Value} {w w' : World} {b : Nat} (h : Goes v w v' w') (ha : Apart v b) (hb : b < w.heap.size) : Apart v' b := by
  unfold Apart at *
  rcases h.own with ho | ⟨k, ho, hk⟩
  · rw [ho]; exact ha
  · rw [ho]; intro he; injection he with he; omega
theorem Goes.cell {v v' : Value} {w w' : World} {a : Addr} {u : Value} (h : Goes v w v' w') (ha : Apart v a.block) (hc : w.cell? a = some u) : w'.cell? a = some u := h.grown.cell hc ha
theorem apart_low {w : World} {B : Nat} {v : Value} {l : List Sp} {b : Nat} (h : Own w B v l) (hb : b < B) : Apart v b := by
  intro he
  have := (h.lt b he.symm).1
  omega
theorem apart_new {w : World} {B : Nat} {v : Value} {l : List Sp} {b : Nat} (h : Own w B v l) (hb : w.heap.size ≤ b) : Apart v b := by
  intro he
  have := (h.lt b he.symm).2
  omega

/-- a call hands back the row, grown out of v. -/
def Adds (W : World) (B : Nat) (v : Value) (l : List Sp) (e : Ending) (w : World) : Prop := ∃ v', e = .returned v' ∧ Own w B v' l ∧ Goes v W v' w

/-- one span more behind a call's own row. -/
theorem wp_oneG {ops : Array Oper} {rest : List Oper} {o : Oper} {a : Act} {Q : Exit → Act → World → Prop} {w : World} {B : Nat} {v : Value} {l : List Sp} {p : Sp} (hgd : o.guard = none) (s x : Operand)
    (ho : o.op = .call { callee := .builtin .append, args := #[s, x], argTypes := #[22, 22] }) (hs : a.eval s = v) {N : Nat} (hN : w.heap.size = N) (hx : a.eval x = .slice (some ⟨N, 0, none⟩) 1 1)
    (hown : Own w B v l) (hB : B ≤ w.heap.size) (hn : l.length ≤ 1000000)
    (h : ∀ v' w', Own w' B v' (l ++ [p]) → Goes v w v' w' → wpList Try.prog ops Q rest (a.put o.dst v') w') :
    wpList Try.prog ops Q (o :: rest) a (w.alloc (.cells #[.int .i64 p.1, .int .i64 p.2] 25)) := by
  subst hN
  obtain ⟨i0, hi, hz0, hz1, hz2⟩ := info_parts span_info
  refine wpList_append_own_at _ hgd s x 22 ho B 25 i0 _ 2 16 Try.underlying22 hi hz0 hz1 hz2 rfl (by decide) v l.length (cellsL l) hs (hown.alloc _) ⟨w.heap.size, 0, none⟩ 1 1 [.int .i64 p.1, .int .i64 p.2] hx rfl ?_ ?_ ?_ ?_ ?_ ?_
  · intro j u hu
    rw [plus, World.cell?_alloc_at _ _ _ _ rfl]
    exact (by simpa using hu)
  · intro u hu
    simp only [List.mem_cons, List.not_mem_nil, or_false] at hu
    rcases hu with rfl | rfl <;> rfl
  · unfold maxLen; omega
  · omega
  · simp only [World.size_alloc]; omega
  · intro v' w' h2 h3 _ h5
    refine h v' w' (by rw [Own, cellsL_append, List.length_append]; exact h2) ((Goes.below (more (start w) _)).trans ⟨h3, ?_⟩)
    rcases h5 with h5 | h5
    · exact Or.inl h5
    · exact Or.inr ⟨_, h5, Nat.le_refl _⟩

/-- how deep grow's tree of n spans is. -/
def gdeep : Nat → Nat
  | 0 => 0
  | n + 1 => 1 + gdeep ((n + 1) / 2)
 termination_by n => n
 decreasing_by omega
theorem gdeep_zero : gdeep 0 = 0 := by unfold gdeep; rfl
theorem gdeep_pos (n : Nat) (h : n ≠ 0) : gdeep n = 1 + gdeep (n / 2) := by
  obtain ⟨m, rfl⟩ : ∃ m, n = m + 1 := ⟨n - 1, by omega⟩
  rw [gdeep]
theorem gdeep_step (n : Nat) : gdeep n ≤ gdeep (n + 1) ∧ gdeep (n + 1) ≤ gdeep n + 1 := by
  induction n using Nat.strongRecOn with
  | _ n ih =>
    by_cases h0 : n = 0
    · subst h0; rw [gdeep_pos (0 + 1) (by omega), gdeep_zero]; omega
    · rw [gdeep_pos n h0, gdeep_pos (n + 1) (by omega)]
      rcases Nat.mod_two_eq_zero_or_one n with h | h
      · rw [show (n + 1) / 2 = n / 2 by omega]; omega
      · rw [show (n + 1) / 2 = n / 2 + 1 by omega]
        have := ih (n / 2) (by omega)
        omega
/-- grow's tree. -/
def Grown (l : List Sp) (t : Tr) : Prop := t.row = l ∧ t.Bal ∧ t.deep = gdeep l.length
theorem grown_of {l : List Sp} {t : Tr} (h : Grown l t) : Of' l t := ⟨h.1, h.2.1⟩
theorem grown_deep {l : List Sp} {t : Tr} (h : Grown l t) : t.deep ≤ l.length := of_deep (grown_of h)
theorem grown_node (l r : List Sp) (a : Sp) (t u : Tr) (ht : Grown l t) (hu : Grown r u) (h : l.length = (l.length + 1 + r.length) / 2) : Grown (l ++ a :: r) (.node t a u) := by
  obtain ⟨h1, h2, h3⟩ := ht
  obtain ⟨g1, g2, g3⟩ := hu
  have hd : t.deep = gdeep l.length ∧ u.deep ≤ gdeep l.length ∧ gdeep l.length ≤ u.deep + 1 := by
    refine ⟨h3, ?_⟩
    rw [g3]
    rcases (by omega : r.length = l.length ∨ l.length = r.length + 1) with e | e
    · rw [e]; omega
    · rw [e]; have := gdeep_step r.length; omega
  refine ⟨by simp [Tr.row, h1, g1], ⟨by omega, by omega, h2, g2⟩, ?_⟩
  rw [gdeep_pos _ (by simp), List.length_append, List.length_cons, show (l.length + (r.length + 1)) / 2 = l.length by omega]
  simp only [Tr.deep]
  omega
end Go.Proofs.Ytkjkegjekfebpaa

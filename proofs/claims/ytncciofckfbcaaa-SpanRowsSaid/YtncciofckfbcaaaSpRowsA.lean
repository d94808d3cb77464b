/- SpanRows, first part: one row appended to a call's own row, inside a drawn region. -/
import Derived.Test.YtncciofckfbcaaaSpTellsK
import Derived.Laws.OwnMore
import Derived.Maps.AppendAt
namespace Go.Proofs.Ytncciofckfbcaaa
open Go.RowKit Spn Go.Sort

/-- what an append leaves: all but the own block. -/
def Kept (v : Value) (w w' : World) : Prop := ∀ p u, w.cell? p = some u → some p.block ≠ v.ownBlock → w'.cell? p = some u
theorem step_at {ops : Array Oper} {o : Oper} {a : Act} {K : Act → World → Prop} {Q : Exit → Act → World → Prop} {E : Prop} {w : World} {B : Nat} {v : Value} {l k : List Sp} (hgd : o.guard = none) (s x : Operand)
    (ho : o.op = .call { callee := .builtin .append, args := #[s, x], argTypes := #[24, 24] }) (hs : a.eval s = v) {b off m c : Nat} (hx : a.eval x = .slice (some ⟨b, off, none⟩) m c) (hm : m = k.length)
    (hrow : ∀ i (h : i < k.length), w.cell? ⟨b, off + i * 2, none⟩ = some (.int .i64 k[i].1) ∧ w.cell? ⟨b, off + i * 2 + 1, none⟩ = some (.int .i64 k[i].2))
    (hown : Own w B v l) (hB : B ≤ w.heap.size) (hn : l.length ≤ 1000000) (hk : k.length ≤ 1000000)
    (h : ∀ v' w', Own w' B v' (l ++ k) → Below B w w' → Kept v w w' → (v'.ownBlock = v.ownBlock ∨ v'.ownBlock = some w.heap.size) → K (a.put o.dst v') w') :
    if Region.wanted o (yielded ops a.tmps) = true then Oper.wp Try.prog o a w K Q else E := by
  have hw : Region.wanted o (yielded ops a.tmps) = true := by simp [Region.wanted, hgd]
  rw [if_pos hw]
  subst hm
  obtain ⟨i0, hi, hz0, hz1, hz2⟩ := info_parts span_info
  have hnews : ∀ j u, (cellsL k)[j]? = some u → w.cell? ((⟨b, off, none⟩ : Addr).add j) = some u := by
    intro j u hu
    have hj : j < (cellsL k).length := (List.getElem?_eq_some_iff.1 hu).1
    rw [cellsL_len] at hj
    obtain ⟨c1, c2⟩ := cellsL_get k (j / 2) (by omega)
    obtain ⟨r1, r2⟩ := hrow (j / 2) (by omega)
    have hadd : (⟨b, off, none⟩ : Addr).add j = ⟨b, off + j, none⟩ := by unfold Addr.add; split <;> simp_all
    rw [hadd]
    rcases Nat.mod_two_eq_zero_or_one j with h0 | h0
    · have e : j / 2 * 2 = j := by omega
      rw [e] at c1 r1
      rw [r1, ← c1, hu]
    · have e : j / 2 * 2 + 1 = j := by omega
      rw [e] at c2
      rw [Nat.add_assoc, e] at r2
      rw [r2, ← c2, hu]
  obtain ⟨v', w', hr, h2, h3, _, h5⟩ := run_append_own_at (P := Try.prog) (w := w) B 24 o.type 23 i0 _ 2 16 Try.underlying24 hi hz0 hz1 hz2 rfl (by decide) v l.length (cellsL l) hown ⟨b, off, none⟩ k.length c (cellsL k) (cellsL_len k) hnews (cellsL_one k) (by unfold maxLen; omega) (by omega) hB
  unfold Oper.wp execOp
  simp only [ho, resolve, invoke, builtin, Sem.run_bind, Sem.run_pure, Result.andThen_ok, List.map_toArray, List.map_cons, List.map_nil, hs, hx, hr]
  exact h v' w' (by rw [Own, cellsL_append, List.length_append]; exact h2) ((Below.refl B w).grown h3 hB fun j hj => (hown.lt j hj).1) (fun p u hp hne => h3.cell hp hne) h5
theorem step_own {ops : Array Oper} {o : Oper} {a : Act} {K : Act → World → Prop} {Q : Exit → Act → World → Prop} {E : Prop} {w : World} {B B2 : Nat} {v y : Value} {l k : List Sp} (hgd : o.guard = none) (s x : Operand)
    (ho : o.op = .call { callee := .builtin .append, args := #[s, x], argTypes := #[24, 24] }) (hs : a.eval s = v) (hx : a.eval x = y) (hy : Own w B2 y k)
    (hown : Own w B v l) (hB : B ≤ w.heap.size) (hn : l.length ≤ 1000000) (hk : k.length ≤ 1000000)
    (h : ∀ v' w', Own w' B v' (l ++ k) → Below B w w' → Kept v w w' → (v'.ownBlock = v.ownBlock ∨ v'.ownBlock = some w.heap.size) → K (a.put o.dst v') w') :
    if Region.wanted o (yielded ops a.tmps) = true then Oper.wp Try.prog o a w K Q else E := by
  rcases hy.2 with ⟨rfl, hn0⟩ | ⟨g, cap, cur, rfl, _⟩
  · obtain rfl := List.eq_nil_of_length_eq_zero hn0
    have hw : Region.wanted o (yielded ops a.tmps) = true := by simp [Region.wanted, hgd]
    rw [if_pos hw]
    have hr := h v w (by rw [List.append_nil]; exact hown) (Below.refl B w) (fun _ _ hp _ => hp) (Or.inl rfl)
    unfold Oper.wp execOp
    obtain ⟨i0, hi, _, hz1, _⟩ := info_parts span_info
    have hrun := run_append_owned_none (P := Try.prog) (w := w) B 24 o.type 23 i0 2 Try.underlying24 hi v l.length (cellsL l) hown
    simp only [ho, resolve, invoke, builtin, Sem.run_bind, Sem.run_pure, Result.andThen_ok, List.map_toArray, List.map_cons, List.map_nil, hs, hx, hrun]
    exact hr
  · obtain ⟨A, c, e, hr⟩ := Own.row hy
    have hc := World.ownsRow.cells hy (g := g) rfl
    refine step_at hgd s x ho hs (b := g) (off := 0) (k := k) hx (by first | rfl | (cases e; rfl)) (fun i hi => ?_) hown hB hn hk h
    obtain ⟨c1, c2⟩ := cellsL_get k i hi
    have g1 := hc _ _ c1
    have g2 := hc _ _ c2
    rw [plus] at g1 g2
    rw [Nat.zero_add]
    exact ⟨g1, g2⟩
theorem Kept.row {v : Value} {w w' : World} {b off : Nat} {k : List Sp} (h : Kept v w w') (hb : ∀ g, v.ownBlock = some g → g ≠ b)
    (hrow : ∀ i (h : i < k.length), w.cell? ⟨b, off + i * 2, none⟩ = some (.int .i64 k[i].1) ∧ w.cell? ⟨b, off + i * 2 + 1, none⟩ = some (.int .i64 k[i].2)) :
    ∀ i (h : i < k.length), w'.cell? ⟨b, off + i * 2, none⟩ = some (.int .i64 k[i].1) ∧ w'.cell? ⟨b, off + i * 2 + 1, none⟩ = some (.int .i64 k[i].2) := fun i hi =>
  ⟨h _ _ (hrow i hi).1 fun e => hb _ e.symm rfl, h _ _ (hrow i hi).2 fun e => hb _ e.symm rfl⟩

end Go.Proofs.Ytncciofckfbcaaa

/- A row appended to a call's own row, inside a drawn region and outside of one. -/
import Derived.Laws.OwnMore
import Derived.Test.YtlmdceeeahnkcaaGreatDoorBS8
namespace Go.Proofs.YtlmdceeeahnkcaaGreatDoor.S2
open Go.RowKit Spn

theorem run_row {w : World} {B : Nat} {v : Value} {l k : List Sp} (ty : TypeId) {b off c : Nat}
    (hrow : ∀ i (h : i < k.length), w.cell? ⟨b, off + i * 2, none⟩ = some (.int .i64 k[i].1) ∧ w.cell? ⟨b, off + i * 2 + 1, none⟩ = some (.int .i64 k[i].2))
    (hown : Own w B v l) (hB : B ≤ w.heap.size) (hn : l.length ≤ 1000000) (hk : k.length ≤ 1000000) :
    ∃ v' w', (Builtin.append_ #[113, 113] ty #[v, .slice (some ⟨b, off, none⟩) k.length c]).run Tryz.prog w = .ok v' w' ∧ Own w' B v' (l ++ k) ∧ Goes v w v' w' := by
  obtain ⟨i0, hi, hz0, hz1, hz2⟩ := info_parts span_info
  have hnews : ∀ j u, (cellsL k)[j]? = some u → w.cell? ((⟨b, off, none⟩ : Addr).add j) = some u := by
    intro j u hu
    have hj : j < (cellsL k).length := (List.getElem?_eq_some_iff.1 hu).1
    rw [cellsL_len] at hj
    obtain ⟨c1, c2⟩ := cellsL_get k (j / 2) (by omega)
    obtain ⟨r1, r2⟩ := hrow (j / 2) (by omega)
    have hadd : (⟨b, off, none⟩ : Addr).add j = ⟨b, off + j, none⟩ := by unfold Addr.add; split <;> simp_all
    rw [hadd]
    rcases Nat.mod_two_eq_zero_or_one j with h0 | h0
    · have e : j / 2 * 2 = j := by omega
      rw [e] at c1 r1
      rw [r1, ← c1, hu]
    · have e : j / 2 * 2 + 1 = j := by omega
      rw [e] at c2
      rw [Nat.add_assoc, e] at r2
      rw [r2, ← c2, hu]
  obtain ⟨v', w', hr, h2, h3, _, h5⟩ := run_append_own_at (P := Tryz.prog) (w := w) B 113 ty 50 i0 _ 2 16 Tryz.underlying113 hi hz0 hz1 hz2 rfl (by decide) v l.length (cellsL l) hown ⟨b, off, none⟩ k.length c (cellsL k) (cellsL_len k) hnews (cellsL_one k) (by unfold maxLen; omega) (by omega) hB
  refine ⟨v', w', hr, by rw [Own, cellsL_append, List.length_append]; exact h2, h3, ?_⟩
  rcases h5 with h5 | h5
  · exact Or.inl h5
  · exact Or.inr ⟨_, h5, Nat.le_refl _⟩
/-- inside a drawn region: a row known by its cells. -/
theorem step_at {ops : Array Oper} {o : Oper} {a : Act} {K : Act → World → Prop} {Q : Exit → Act → World → Prop} {E : Prop} {w : World} {B : Nat} {v : Value} {l k : List Sp} (hgd : o.guard = none) (s x : Operand)
    (ho : o.op = .call { callee := .builtin .append, args := #[s, x], argTypes := #[113, 113] }) (hs : a.eval s = v) {b off m c : Nat} (hx : a.eval x = .slice (some ⟨b, off, none⟩) m c) (hm : m = k.length)
    (hrow : ∀ i (h : i < k.length), w.cell? ⟨b, off + i * 2, none⟩ = some (.int .i64 k[i].1) ∧ w.cell? ⟨b, off + i * 2 + 1, none⟩ = some (.int .i64 k[i].2))
    (hown : Own w B v l) (hB : B ≤ w.heap.size) (hn : l.length ≤ 1000000) (hk : k.length ≤ 1000000)
    (h : ∀ v' w', Own w' B v' (l ++ k) → Goes v w v' w' → K (a.put o.dst v') w') :
    if Region.wanted o (yielded ops a.tmps) = true then Oper.wp Tryz.prog o a w K Q else E := by
  have hw : Region.wanted o (yielded ops a.tmps) = true := by simp [Region.wanted, hgd]
  rw [if_pos hw]
  subst hm
  obtain ⟨v', w', hr, h2, h3⟩ := run_row o.type (c := c) hrow hown hB hn hk
  unfold Oper.wp execOp
  simp only [ho, resolve, invoke, builtin, Sem.run_bind, Sem.run_pure, Result.andThen_ok, List.map_toArray, List.map_cons, List.map_nil, hs, hx, hr]
  exact h v' w' h2 h3
end Go.Proofs.YtlmdceeeahnkcaaGreatDoor.S2

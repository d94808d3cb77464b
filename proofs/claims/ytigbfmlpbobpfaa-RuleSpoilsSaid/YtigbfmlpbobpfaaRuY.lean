/- A row appended to a call's own row; a rule in a block of its own. -/
import Derived.Test.YtigbfmlpbobpfaaRuX
import Derived.Laws.OwnMore
import Derived.Maps.AppendAt
namespace Go.Proofs.Ytigbfmlpbobpfaa
open Go.RowKit Rul Go.Sort

theorem plus2 (b o j : Nat) : (⟨b, o, none⟩ : Addr).add j = ⟨b, o + j, none⟩ := by unfold Addr.add; split <;> simp_all
theorem cellsI_nil : cellsI [] = [] := rfl
theorem run_rowI {w : World} {B : Nat} {v : Value} {l k : List Int} (ty : TypeId) {A : Option Addr} {m c : Nat} (hm : m = k.length) (hnil : A = none → c = 0) (hrow : RowI w A k)
    (hown : OwnI w B v l) (hB : B ≤ w.heap.size) (hn : l.length ≤ 1000000) (hk : k.length ≤ 1000000) :
    ∃ v' w', (Builtin.append_ #[23, 23] ty #[v, .slice A m c]).run Try.prog w = .ok v' w' ∧ OwnI w' B v' (l ++ k) ∧ Below B w w' := by
  obtain ⟨i0, hi, hz0, hz1, hz2⟩ := info_parts int_info
  cases A with
  | none =>
    have hk0 : k = [] := by
      rcases k with _ | ⟨z, k⟩
      · rfl
      · obtain ⟨_, _, h, _⟩ := hrow (by simp)
        cases h
    subst hk0
    obtain rfl := hnil rfl
    subst hm
    exact ⟨v, w, run_append_owned_none (P := Try.prog) (w := w) B 23 ty 3 i0 1 Try.underlying23 hi v l.length (cellsI l) hown, by rw [List.append_nil]; exact hown, Below.refl _ _⟩
  | some a =>
    have hnews : ∀ j u, (cellsI k)[j]? = some u → w.cell? (a.add j) = some u := by
      rcases k with _ | ⟨z, k0⟩
      · intro j u hu; simp [cellsI] at hu
      · obtain ⟨b, off, he, _, hc⟩ := hrow (by simp)
        injection he with he
        subst he
        generalize hkk : z :: k0 = k at *
        clear hkk
        intro j u hu
        have hj : j < (cellsI k).length := (List.getElem?_eq_some_iff.1 hu).1
        rw [cellsI_len] at hj
        rw [plus2, hc j hj]
        rw [← hu]; simp [cellsI, hj]
    subst hm
    obtain ⟨v', w', hr, h2, h3, _, _⟩ := run_append_own_at (P := Try.prog) (w := w) B 23 ty 3 i0 _ 1 8 Try.underlying23 hi hz0 hz1 hz2 rfl (by decide) v l.length (cellsI l) hown a k.length c (cellsI k) (by rw [cellsI_len, Nat.mul_one]) hnews (by intro u hu; obtain ⟨z, _, rfl⟩ := List.mem_map.1 hu; rfl) (by unfold maxLen; omega) (by omega) hB
    exact ⟨v', w', hr, by rw [OwnI, cellsI_append, List.length_append]; exact h2, (Below.refl B w).grown h3 hB fun j hj => (hown.lt j hj).1⟩
theorem wp_rowI {ops : Array Oper} {rest : List Oper} {o : Oper} {a : Act} {Q : Exit → Act → World → Prop} {w : World} {B : Nat} {v : Value} {l k : List Int} (hgd : o.guard = none) (s x : Operand)
    (ho : o.op = .call { callee := .builtin .append, args := #[s, x], argTypes := #[23, 23] }) (hs : a.eval s = v) {A : Option Addr} {m c : Nat} (hx : a.eval x = .slice A m c) (hm : m = k.length) (hnil : A = none → c = 0) (hrow : RowI w A k)
    (hown : OwnI w B v l) (hB : B ≤ w.heap.size) (hn : l.length ≤ 1000000) (hk : k.length ≤ 1000000)
    (h : ∀ v' w', OwnI w' B v' (l ++ k) → Below B w w' → wpList Try.prog ops Q rest (a.put o.dst v') w') :
    wpList Try.prog ops Q (o :: rest) a w := by
  refine wpList_plain hgd fun K hK => ?_
  obtain ⟨v', w', hr, h2, h3⟩ := run_rowI o.type hm hnil hrow hown hB hn hk
  unfold Oper.wp execOp
  simp only [ho, resolve, invoke, builtin, Sem.run_bind, Sem.run_pure, Result.andThen_ok, List.map_toArray, List.map_cons, List.map_nil, hs, hx, hr]
  exact hK _ _ (h v' w' h2 h3)
theorem run_rowD {w : World} {B : Nat} {v : Value} {l k : List Wd} (ty : TypeId) {A : Option Addr} {m c : Nat} (hm : m = k.length) (hnil : A = none → c = 0) (hrow : RowD w A k)
    (hown : OwnD w B v l) (hB : B ≤ w.heap.size) (hn : l.length ≤ 1000000) (hk : k.length ≤ 1000000) :
    ∃ v' w', (Builtin.append_ #[22, 22] ty #[v, .slice A m c]).run Try.prog w = .ok v' w' ∧ OwnD w' B v' (l ++ k) ∧ Below B w w' := by
  obtain ⟨i0, hi, hz0, hz1, hz2⟩ := info_parts day_info
  cases A with
  | none =>
    have hk0 : k = [] := by
      rcases k with _ | ⟨z, k⟩
      · rfl
      · obtain ⟨_, _, h, _⟩ := hrow (by simp)
        cases h
    subst hk0
    obtain rfl := hnil rfl
    subst hm
    exact ⟨v, w, run_append_owned_none (P := Try.prog) (w := w) B 22 ty 33 i0 2 Try.underlying22 hi v l.length (cellsD l) hown, by rw [List.append_nil]; exact hown, Below.refl _ _⟩
  | some a =>
    have hnews : ∀ j u, (cellsD k)[j]? = some u → w.cell? (a.add j) = some u := by
      rcases k with _ | ⟨z, k0⟩
      · intro j u hu; simp [cellsD] at hu
      · obtain ⟨b, off, he, _, hc⟩ := hrow (by simp)
        injection he with he
        subst he
        generalize hkk : z :: k0 = k at *
        clear hkk
        intro j u hu
        have hj : j < (cellsD k).length := (List.getElem?_eq_some_iff.1 hu).1
        rw [cellsD_len] at hj
        obtain ⟨c1, c2⟩ := cellsD_get k (j / 2) (by omega)
        obtain ⟨r1, r2⟩ := hc (j / 2) (by omega)
        rw [plus2]
        rcases Nat.mod_two_eq_zero_or_one j with h0 | h0
        · have e : j / 2 * 2 = j := by omega
          rw [e] at c1 r1
          rw [r1, ← c1, hu]
        · have e : j / 2 * 2 + 1 = j := by omega
          rw [e] at c2
          rw [Nat.add_assoc, e] at r2
          rw [r2, ← c2, hu]
    subst hm
    obtain ⟨v', w', hr, h2, h3, _, _⟩ := run_append_own_at (P := Try.prog) (w := w) B 22 ty 33 i0 _ 2 16 Try.underlying22 hi hz0 hz1 hz2 rfl (by decide) v l.length (cellsD l) hown a k.length c (cellsD k) (cellsD_len k) hnews (by intro u hu; obtain ⟨z, _, h⟩ := List.mem_flatMap.1 hu; simp only [List.mem_cons, List.not_mem_nil, or_false] at h; rcases h with rfl | rfl <;> rfl) (by unfold maxLen; omega) (by omega) hB
    exact ⟨v', w', hr, by rw [OwnD, cellsD_append, List.length_append]; exact h2, (Below.refl B w).grown h3 hB fun j hj => (hown.lt j hj).1⟩
theorem wp_rowD {ops : Array Oper} {rest : List Oper} {o : Oper} {a : Act} {Q : Exit → Act → World → Prop} {w : World} {B : Nat} {v : Value} {l k : List Wd} (hgd : o.guard = none) (s x : Operand)
    (ho : o.op = .call { callee := .builtin .append, args := #[s, x], argTypes := #[22, 22] }) (hs : a.eval s = v) {A : Option Addr} {m c : Nat} (hx : a.eval x = .slice A m c) (hm : m = k.length) (hnil : A = none → c = 0) (hrow : RowD w A k)
    (hown : OwnD w B v l) (hB : B ≤ w.heap.size) (hn : l.length ≤ 1000000) (hk : k.length ≤ 1000000)
    (h : ∀ v' w', OwnD w' B v' (l ++ k) → Below B w w' → wpList Try.prog ops Q rest (a.put o.dst v') w') :
    wpList Try.prog ops Q (o :: rest) a w := by
  refine wpList_plain hgd fun K hK => ?_
  obtain ⟨v', w', hr, h2, h3⟩ := run_rowD o.type hm hnil hrow hown hB hn hk
  unfold Oper.wp execOp
  simp only [ho, resolve, invoke, builtin, Sem.run_bind, Sem.run_pure, Result.andThen_ok, List.map_toArray, List.map_cons, List.map_nil, hs, hx, hr]
  exact hK _ _ (h v' w' h2 h3)
structure Bq (W : World) (X : Nat) (v0 v1 v2 v3 v4 v5 v6 : Value) : Prop where
  c0 : W.cell? ⟨X, 0, none⟩ = some v0
  c1 : W.cell? ⟨X, 1, none⟩ = some v1
  c2 : W.cell? ⟨X, 2, none⟩ = some v2
  c3 : W.cell? ⟨X, 3, none⟩ = some v3
  c4 : W.cell? ⟨X, 4, none⟩ = some v4
  c5 : W.cell? ⟨X, 5, none⟩ = some v5
  c6 : W.cell? ⟨X, 6, none⟩ = some v6
  f : ∀ i, W.frozen? ⟨X, i, none⟩ = false
  lt : X < W.heap.size
theorem Bq.keep {W W1 : World} {X B : Nat} {v0 v1 v2 v3 v4 v5 v6 : Value} (h : Bq W X v0 v1 v2 v3 v4 v5 v6) (hb : Below B W W1) (hX : X < B) : Bq W1 X v0 v1 v2 v3 v4 v5 v6 :=
  ⟨(hb.cell (p := ⟨X, 0, none⟩) hX).trans h.c0, (hb.cell (p := ⟨X, 1, none⟩) hX).trans h.c1, (hb.cell (p := ⟨X, 2, none⟩) hX).trans h.c2, (hb.cell (p := ⟨X, 3, none⟩) hX).trans h.c3, (hb.cell (p := ⟨X, 4, none⟩) hX).trans h.c4, (hb.cell (p := ⟨X, 5, none⟩) hX).trans h.c5, (hb.cell (p := ⟨X, 6, none⟩) hX).trans h.c6, fun i => (hb.frozen (p := ⟨X, i, none⟩) hX).trans (h.f i), Nat.lt_of_lt_of_le h.lt hb.size⟩
theorem cell_set_ne' {W : World} {X i j : Nat} {v u : Value} (hn : i ≠ j) (h : W.cell? ⟨X, i, none⟩ = some v) : (W.setCell ⟨X, j, none⟩ u).cell? ⟨X, i, none⟩ = some v :=
  (World.cell?_setCell_other _ _ _ _ (by intro hc; injection hc with _ hc1; omega)).trans h
theorem Bq.set0 {W : World} {X : Nat} {v0 v1 v2 v3 v4 v5 v6 : Value} (u : Value) (h : Bq W X v0 v1 v2 v3 v4 v5 v6) : Bq (W.setCell ⟨X, 0, none⟩ u) X u v1 v2 v3 v4 v5 v6 :=
  ⟨World.cell?_setCell_same _ _ _ h.c0, cell_set_ne' (by omega) h.c1, cell_set_ne' (by omega) h.c2, cell_set_ne' (by omega) h.c3, cell_set_ne' (by omega) h.c4, cell_set_ne' (by omega) h.c5, cell_set_ne' (by omega) h.c6, fun i => by rw [World.frozen?_setCell]; exact h.f i, by rw [World.size_setCell]; exact h.lt⟩
theorem Bq.set1 {W : World} {X : Nat} {v0 v1 v2 v3 v4 v5 v6 : Value} (u : Value) (h : Bq W X v0 v1 v2 v3 v4 v5 v6) : Bq (W.setCell ⟨X, 1, none⟩ u) X v0 u v2 v3 v4 v5 v6 :=
  ⟨cell_set_ne' (by omega) h.c0, World.cell?_setCell_same _ _ _ h.c1, cell_set_ne' (by omega) h.c2, cell_set_ne' (by omega) h.c3, cell_set_ne' (by omega) h.c4, cell_set_ne' (by omega) h.c5, cell_set_ne' (by omega) h.c6, fun i => by rw [World.frozen?_setCell]; exact h.f i, by rw [World.size_setCell]; exact h.lt⟩
theorem Bq.set2 {W : World} {X : Nat} {v0 v1 v2 v3 v4 v5 v6 : Value} (u : Value) (h : Bq W X v0 v1 v2 v3 v4 v5 v6) : Bq (W.setCell ⟨X, 2, none⟩ u) X v0 v1 u v3 v4 v5 v6 :=
  ⟨cell_set_ne' (by omega) h.c0, cell_set_ne' (by omega) h.c1, World.cell?_setCell_same _ _ _ h.c2, cell_set_ne' (by omega) h.c3, cell_set_ne' (by omega) h.c4, cell_set_ne' (by omega) h.c5, cell_set_ne' (by omega) h.c6, fun i => by rw [World.frozen?_setCell]; exact h.f i, by rw [World.size_setCell]; exact h.lt⟩
theorem Bq.set3 {W : World} {X : Nat} {v0 v1 v2 v3 v4 v5 v6 : Value} (u : Value) (h : Bq W X v0 v1 v2 v3 v4 v5 v6) : Bq (W.setCell ⟨X, 3, none⟩ u) X v0 v1 v2 u v4 v5 v6 :=
  ⟨cell_set_ne' (by omega) h.c0, cell_set_ne' (by omega) h.c1, cell_set_ne' (by omega) h.c2, World.cell?_setCell_same _ _ _ h.c3, cell_set_ne' (by omega) h.c4, cell_set_ne' (by omega) h.c5, cell_set_ne' (by omega) h.c6, fun i => by rw [World.frozen?_setCell]; exact h.f i, by rw [World.size_setCell]; exact h.lt⟩
theorem Bq.set4 {W : World} {X : Nat} {v0 v1 v2 v3 v4 v5 v6 : Value} (u : Value) (h : Bq W X v0 v1 v2 v3 v4 v5 v6) : Bq (W.setCell ⟨X, 4, none⟩ u) X v0 v1 v2 v3 u v5 v6 :=
  ⟨cell_set_ne' (by omega) h.c0, cell_set_ne' (by omega) h.c1, cell_set_ne' (by omega) h.c2, cell_set_ne' (by omega) h.c3, World.cell?_setCell_same _ _ _ h.c4, cell_set_ne' (by omega) h.c5, cell_set_ne' (by omega) h.c6, fun i => by rw [World.frozen?_setCell]; exact h.f i, by rw [World.size_setCell]; exact h.lt⟩
theorem Bq.set5 {W : World} {X : Nat} {v0 v1 v2 v3 v4 v5 v6 : Value} (u : Value) (h : Bq W X v0 v1 v2 v3 v4 v5 v6) : Bq (W.setCell ⟨X, 5, none⟩ u) X v0 v1 v2 v3 v4 u v6 :=
  ⟨cell_set_ne' (by omega) h.c0, cell_set_ne' (by omega) h.c1, cell_set_ne' (by omega) h.c2, cell_set_ne' (by omega) h.c3, cell_set_ne' (by omega) h.c4, World.cell?_setCell_same _ _ _ h.c5, cell_set_ne' (by omega) h.c6, fun i => by rw [World.frozen?_setCell]; exact h.f i, by rw [World.size_setCell]; exact h.lt⟩
theorem Bq.set6 {W : World} {X : Nat} {v0 v1 v2 v3 v4 v5 v6 : Value} (u : Value) (h : Bq W X v0 v1 v2 v3 v4 v5 v6) : Bq (W.setCell ⟨X, 6, none⟩ u) X v0 v1 v2 v3 v4 v5 u :=
  ⟨cell_set_ne' (by omega) h.c0, cell_set_ne' (by omega) h.c1, cell_set_ne' (by omega) h.c2, cell_set_ne' (by omega) h.c3, cell_set_ne' (by omega) h.c4, cell_set_ne' (by omega) h.c5, World.cell?_setCell_same _ _ _ h.c6, fun i => by rw [World.frozen?_setCell]; exact h.f i, by rw [World.size_setCell]; exact h.lt⟩
theorem bq_new (w : World) (v0 v1 v2 v3 v4 v5 v6 : Value) (t : TypeId) : Bq (w.alloc (.cells #[v0, v1, v2, v3, v4, v5, v6] t)) w.heap.size v0 v1 v2 v3 v4 v5 v6 := by
  refine ⟨?_, ?_, ?_, ?_, ?_, ?_, ?_, fun i => World.frozen?_alloc_at _ _ _ _ rfl, by simp⟩
  all_goals (rw [World.cell?_alloc_at _ _ _ _ rfl]; rfl)

end Go.Proofs.Ytigbfmlpbobpfaa

/- Put together: RuY ExC ExMathE ExCo ExCode. -/
import Derived.Test.YtdmplojfidkipaaRuX
import Derived.Laws.OwnMore
import Derived.Maps.AppendAt
import Derived.Test.YtdmplojfidkipaaExP
import Derived.Test.YtdmplojfidkipaaTp
import Derived.Test.YtdmplojfidkipaaExMath
import Derived.Test.YtdmplojfidkipaaCivH

/- A row appended to a call's own row; a rule in a block of its own. -/
namespace Go.Proofs.Ytdmplojfidkipaa
open Go.RowKit Rul Go.Sort

theorem plus2 (b o j : Nat) : (⟨b, o, none⟩ : Addr).add j = ⟨b, o + j, none⟩ := by unfold Addr.add; split <;> simp_all
theorem cellsI_nil : cellsI [] = [] := rfl
theorem run_rowI {w : World} {B : Nat} {v : Value} {l k : List Int} (ty : TypeId) {A : Option Addr} {m c : Nat} (hm : m = k.length) (hnil : A = none → c = 0) (hrow : RowI w A k)
    (hown : OwnI w B v l) (hB : B ≤ w.heap.size) (hn : l.length ≤ 1000000) (hk : k.length ≤ 1000000) :
    ∃ v' w', (Builtin.append_ #[23, 23] ty #[v, .slice A m c]).run Try.prog w = .ok v' w' ∧ OwnI w' B v' (l ++ k) ∧ Below B w w' := by
  obtain ⟨i0, hi, hz0, hz1, hz2⟩ := info_parts int_info
  cases A with
  | none =>
    have hk0 : k = [] := by
      rcases k with _ | ⟨z, k⟩
      · rfl
      · obtain ⟨_, _, h, _⟩ := hrow (by simp)
        cases h
    subst hk0
    obtain rfl := hnil rfl
    subst hm
    exact ⟨v, w, run_append_owned_none (P := Try.prog) (w := w) B 23 ty 3 i0 1 Try.underlying23 hi v l.length (cellsI l) hown, by rw [List.append_nil]; exact hown, Below.refl _ _⟩
  | some a =>
    have hnews : ∀ j u, (cellsI k)[j]? = some u → w.cell? (a.add j) = some u := by
      rcases k with _ | ⟨z, k0⟩
      · intro j u hu; simp [cellsI] at hu
      · obtain ⟨b, off, he, _, hc⟩ := hrow (by simp)
        injection he with he
        subst he
        generalize hkk : z :: k0 = k at *
        clear hkk
        intro j u hu
        have hj : j < (cellsI k).length := (List.getElem?_eq_some_iff.1 hu).1
        rw [cellsI_len] at hj
        rw [plus2, hc j hj]
        rw [← hu]; simp [cellsI, hj]
    subst hm
    obtain ⟨v', w', hr, h2, h3, _, _⟩ := run_append_own_at (P := Try.prog) (w := w) B 23 ty 3 i0 _ 1 8 Try.underlying23 hi hz0 hz1 hz2 rfl (by decide) v l.length (cellsI l) hown a k.length c (cellsI k) (by rw [cellsI_len, Nat.mul_one]) hnews (by intro u hu; obtain ⟨z, _, rfl⟩ := List.mem_map.1 hu; rfl) (by unfold maxLen; omega) (by omega) hB
    exact ⟨v', w', hr, by rw [OwnI, cellsI_append, List.length_append]; exact h2, (Below.refl B w).grown h3 hB fun j hj => (hown.lt j hj).1⟩
theorem wp_rowI {ops : Array Oper} {rest : List Oper} {o : Oper} {a : Act} {Q : Exit → Act → World → Prop} {w : World} {B : Nat} {v : Value} {l k : List Int} (hgd : o.guard = none) (s x : Operand)
    (ho : o.op = .call { callee := .builtin .append, args := #[s, x], argTypes := #[23, 23] }) (hs : a.eval s = v) {A : Option Addr} {m c : Nat} (hx : a.eval x = .slice A m c) (hm : m = k.length) (hnil : A = none → c = 0) (hrow : RowI w A k)
    (hown : OwnI w B v l) (hB : B ≤ w.heap.size) (hn : l.length ≤ 1000000) (hk : k.length ≤ 1000000)
    (h : ∀ v' w', OwnI w' B v' (l ++ k) → Below B w w' → wpList Try.prog ops Q rest (a.put o.dst v') w') :
    wpList Try.prog ops Q (o :: rest) a w := by
  refine wpList_plain hgd fun K hK => ?_
  obtain ⟨v', w', hr, h2, h3⟩ := run_rowI o.type hm hnil hrow hown hB hn hk
  unfold Oper.wp execOp
  simp only [ho, resolve, invoke, builtin, Sem.run_bind, Sem.run_pure, Result.andThen_ok, List.map_toArray, List.map_cons, List.map_nil, hs, hx, hr]
  exact hK _ _ (h v' w' h2 h3)
theorem run_rowD {w : World} {B : Nat} {v : Value} {l k : List Wd} (ty : TypeId) {A : Option Addr} {m c : Nat} (hm : m = k.length) (hnil : A = none → c = 0) (hrow : RowD w A k)
    (hown : OwnD w B v l) (hB : B ≤ w.heap.size) (hn : l.length ≤ 1000000) (hk : k.length ≤ 1000000) :
    ∃ v' w', (Builtin.append_ #[22, 22] ty #[v, .slice A m c]).run Try.prog w = .ok v' w' ∧ OwnD w' B v' (l ++ k) ∧ Below B w w' := by
  obtain ⟨i0, hi, hz0, hz1, hz2⟩ := info_parts day_info
  cases A with
  | none =>
    have hk0 : k = [] := by
      rcases k with _ | ⟨z, k⟩
      · rfl
      · obtain ⟨_, _, h, _⟩ := hrow (by simp)
        cases h
    subst hk0
    obtain rfl := hnil rfl
    subst hm
    exact ⟨v, w, run_append_owned_none (P := Try.prog) (w := w) B 22 ty 45 i0 2 Try.underlying22 hi v l.length (cellsD l) hown, by rw [List.append_nil]; exact hown, Below.refl _ _⟩
  | some a =>
    have hnews : ∀ j u, (cellsD k)[j]? = some u → w.cell? (a.add j) = some u := by
      rcases k with _ | ⟨z, k0⟩
      · intro j u hu; simp [cellsD] at hu
      · obtain ⟨b, off, he, _, hc⟩ := hrow (by simp)
        injection he with he
        subst he
        generalize hkk : z :: k0 = k at *
        clear hkk
        intro j u hu
        have hj : j < (cellsD k).length := (List.getElem?_eq_some_iff.1 hu).1
        rw [cellsD_len] at hj
        obtain ⟨c1, c2⟩ := cellsD_get k (j / 2) (by omega)
        obtain ⟨r1, r2⟩ := hc (j / 2) (by omega)
        rw [plus2]
        rcases Nat.mod_two_eq_zero_or_one j with h0 | h0
        · have e : j / 2 * 2 = j := by omega
          rw [e] at c1 r1
          rw [r1, ← c1, hu]
        · have e : j / 2 * 2 + 1 = j := by omega
          rw [e] at c2
          rw [Nat.add_assoc, e] at r2
          rw [r2, ← c2, hu]
    subst hm
    obtain ⟨v', w', hr, h2, h3, _, _⟩ := run_append_own_at (P := Try.prog) (w := w) B 22 ty 45 i0 _ 2 16 Try.underlying22 hi hz0 hz1 hz2 rfl (by decide) v l.length (cellsD l) hown a k.length c (cellsD k) (cellsD_len k) hnews (by intro u hu; obtain ⟨z, _, h⟩ := List.mem_flatMap.1 hu; simp only [List.mem_cons, List.not_mem_nil, or_false] at h; rcases h with rfl | rfl <;> rfl) (by unfold maxLen; omega) (by omega) hB
    exact ⟨v', w', hr, by rw [OwnD, cellsD_append, List.length_append]; exact h2, (Below.refl B w).grown h3 hB fun j hj => (hown.lt j hj).1⟩
theorem wp_rowD {ops : Array Oper} {rest : List Oper} {o : Oper} {a : Act} {Q : Exit → Act → World → Prop} {w : World} {B : Nat} {v : Value} {l k : List Wd} (hgd : o.guard = none) (s x : Operand)
    (ho : o.op = .call { callee := .builtin .append, args := #[s, x], argTypes := #[22, 22] }) (hs : a.eval s = v) {A : Option Addr} {m c : Nat} (hx : a.eval x = .slice A m c) (hm : m = k.length) (hnil : A = none → c = 0) (hrow : RowD w A k)
    (hown : OwnD w B v l) (hB : B ≤ w.heap.size) (hn : l.length ≤ 1000000) (hk : k.length ≤ 1000000)
    (h : ∀ v' w', OwnD w' B v' (l ++ k) → Below B w w' → wpList Try.prog ops Q rest (a.put o.dst v') w') :
    wpList Try.prog ops Q (o :: rest) a w := by
  refine wpList_plain hgd fun K hK => ?_
  obtain ⟨v', w', hr, h2, h3⟩ := run_rowD o.type hm hnil hrow hown hB hn hk
  unfold Oper.wp execOp
  simp only [ho, resolve, invoke, builtin, Sem.run_bind, Sem.run_pure, Result.andThen_ok, List.map_toArray, List.map_cons, List.map_nil, hs, hx, hr]
  exact hK _ _ (h v' w' h2 h3)
structure Bq (W : World) (X : Nat) (v0 v1 v2 v3 v4 v5 v6 : Value) : Prop where
  c0 : W.cell? ⟨X, 0, none⟩ = some v0
  c1 : W.cell? ⟨X, 1, none⟩ = some v1
  c2 : W.cell? ⟨X, 2, none⟩ = some v2
  c3 : W.cell? ⟨X, 3, none⟩ = some v3
  c4 : W.cell? ⟨X, 4, none⟩ = some v4
  c5 : W.cell? ⟨X, 5, none⟩ = some v5
  c6 : W.cell? ⟨X, 6, none⟩ = some v6
  f : ∀ i, W.frozen? ⟨X, i, none⟩ = false
  lt : X < W.heap.size
theorem Bq.keep {W W1 : World} {X B : Nat} {v0 v1 v2 v3 v4 v5 v6 : Value} (h : Bq W X v0 v1 v2 v3 v4 v5 v6) (hb : Below B W W1) (hX : X < B) : Bq W1 X v0 v1 v2 v3 v4 v5 v6 :=
  ⟨(hb.cell (p := ⟨X, 0, none⟩) hX).trans h.c0, (hb.cell (p := ⟨X, 1, none⟩) hX).trans h.c1, (hb.cell (p := ⟨X, 2, none⟩) hX).trans h.c2, (hb.cell (p := ⟨X, 3, none⟩) hX).trans h.c3, (hb.cell (p := ⟨X, 4, none⟩) hX).trans h.c4, (hb.cell (p := ⟨X, 5, none⟩) hX).trans h.c5, (hb.cell (p := ⟨X, 6, none⟩) hX).trans h.c6, fun i => (hb.frozen (p := ⟨X, i, none⟩) hX).trans (h.f i), Nat.lt_of_lt_of_le h.lt hb.size⟩
theorem cell_set_ne' {W : World} {X i j : Nat} {v u : Value} (hn : i ≠ j) (h : W.cell? ⟨X, i, none⟩ = some v) : (W.setCell ⟨X, j, none⟩ u).cell? ⟨X, i, none⟩ = some v :=
  (World.cell?_setCell_other _ _ _ _ (by intro hc; injection hc with _ hc1; omega)).trans h
theorem Bq.set0 {W : World} {X : Nat} {v0 v1 v2 v3 v4 v5 v6 : Value} (u : Value) (h : Bq W X v0 v1 v2 v3 v4 v5 v6) : Bq (W.setCell ⟨X, 0, none⟩ u) X u v1 v2 v3 v4 v5 v6 :=
  ⟨World.cell?_setCell_same _ _ _ h.c0, cell_set_ne' (by omega) h.c1, cell_set_ne' (by omega) h.c2, cell_set_ne' (by omega) h.c3, cell_set_ne' (by omega) h.c4, cell_set_ne' (by omega) h.c5, cell_set_ne' (by omega) h.c6, fun i => by rw [World.frozen?_setCell]; exact h.f i, by rw [World.size_setCell]; exact h.lt⟩
theorem Bq.set1 {W : World} {X : Nat} {v0 v1 v2 v3 v4 v5 v6 : Value} (u : Value) (h : Bq W X v0 v1 v2 v3 v4 v5 v6) : Bq (W.setCell ⟨X, 1, none⟩ u) X v0 u v2 v3 v4 v5 v6 :=
  ⟨cell_set_ne' (by omega) h.c0, World.cell?_setCell_same _ _ _ h.c1, cell_set_ne' (by omega) h.c2, cell_set_ne' (by omega) h.c3, cell_set_ne' (by omega) h.c4, cell_set_ne' (by omega) h.c5, cell_set_ne' (by omega) h.c6, fun i => by rw [World.frozen?_setCell]; exact h.f i, by rw [World.size_setCell]; exact h.lt⟩
theorem Bq.set2 {W : World} {X : Nat} {v0 v1 v2 v3 v4 v5 v6 : Value} (u : Value) (h : Bq W X v0 v1 v2 v3 v4 v5 v6) : Bq (W.setCell ⟨X, 2, none⟩ u) X v0 v1 u v3 v4 v5 v6 :=
  ⟨cell_set_ne' (by omega) h.c0, cell_set_ne' (by omega) h.c1, World.cell?_setCell_same _ _ _ h.c2, cell_set_ne' (by omega) h.c3, cell_set_ne' (by omega) h.c4, cell_set_ne' (by omega) h.c5, cell_set_ne' (by omega) h.c6, fun i => by rw [World.frozen?_setCell]; exact h.f i, by rw [World.size_setCell]; exact h.lt⟩
theorem Bq.set3 {W : World} {X : Nat} {v0 v1 v2 v3 v4 v5 v6 : Value} (u : Value) (h : Bq W X v0 v1 v2 v3 v4 v5 v6) : Bq (W.setCell ⟨X, 3, none⟩ u) X v0 v1 v2 u v4 v5 v6 :=
  ⟨cell_set_ne' (by omega) h.c0, cell_set_ne' (by omega) h.c1, cell_set_ne' (by omega) h.c2, World.cell?_setCell_same _ _ _ h.c3, cell_set_ne' (by omega) h.c4, cell_set_ne' (by omega) h.c5, cell_set_ne' (by omega) h.c6, fun i => by rw [World.frozen?_setCell]; exact h.f i, by rw [World.size_setCell]; exact h.lt⟩
theorem Bq.set4 {W : World} {X : Nat} {v0 v1 v2 v3 v4 v5 v6 : Value} (u : Value) (h : Bq W X v0 v1 v2 v3 v4 v5 v6) : Bq (W.setCell ⟨X, 4, none⟩ u) X v0 v1 v2 v3 u v5 v6 :=
  ⟨cell_set_ne' (by omega) h.c0, cell_set_ne' (by omega) h.c1, cell_set_ne' (by omega) h.c2, cell_set_ne' (by omega) h.c3, World.cell?_setCell_same _ _ _ h.c4, cell_set_ne' (by omega) h.c5, cell_set_ne' (by omega) h.c6, fun i => by rw [World.frozen?_setCell]; exact h.f i, by rw [World.size_setCell]; exact h.lt⟩
theorem Bq.set5 {W : World} {X : Nat} {v0 v1 v2 v3 v4 v5 v6 : Value} (u : Value) (h : Bq W X v0 v1 v2 v3 v4 v5 v6) : Bq (W.setCell ⟨X, 5, none⟩ u) X v0 v1 v2 v3 v4 u v6 :=
  ⟨cell_set_ne' (by omega) h.c0, cell_set_ne' (by omega) h.c1, cell_set_ne' (by omega) h.c2, cell_set_ne' (by omega) h.c3, cell_set_ne' (by omega) h.c4, World.cell?_setCell_same _ _ _ h.c5, cell_set_ne' (by omega) h.c6, fun i => by rw [World.frozen?_setCell]; exact h.f i, by rw [World.size_setCell]; exact h.lt⟩
theorem Bq.set6 {W : World} {X : Nat} {v0 v1 v2 v3 v4 v5 v6 : Value} (u : Value) (h : Bq W X v0 v1 v2 v3 v4 v5 v6) : Bq (W.setCell ⟨X, 6, none⟩ u) X v0 v1 v2 v3 v4 v5 u :=
  ⟨cell_set_ne' (by omega) h.c0, cell_set_ne' (by omega) h.c1, cell_set_ne' (by omega) h.c2, cell_set_ne' (by omega) h.c3, cell_set_ne' (by omega) h.c4, cell_set_ne' (by omega) h.c5, World.cell?_setCell_same _ _ _ h.c6, fun i => by rw [World.frozen?_setCell]; exact h.f i, by rw [World.size_setCell]; exact h.lt⟩
theorem bq_new (w : World) (v0 v1 v2 v3 v4 v5 v6 : Value) (t : TypeId) : Bq (w.alloc (.cells #[v0, v1, v2, v3, v4, v5, v6] t)) w.heap.size v0 v1 v2 v3 v4 v5 v6 := by
  refine ⟨?_, ?_, ?_, ?_, ?_, ?_, ?_, fun i => World.frozen?_alloc_at _ _ _ _ rfl, by simp⟩
  all_goals (rw [World.cell?_alloc_at _ _ _ _ rfl]; rfl)

end Go.Proofs.Ytdmplojfidkipaa

/- Walks of package expand, the smaller calls: a number looked for in a list; the minutes at a time of day, those between two, those that aren't left out; the spans that begin there. -/
namespace Go.Proofs.Ytdmplojfidkipaa
open Go.RowKit Rul Go.Sort

theorem outB_eq (l : List Int) (m : Int) : outB l m = l.any (fun x => m == x) := by
  unfold outB
  congr 1
  funext x
  by_cases h : x = m
  · rw [h]
  · rw [beq_eq_false_iff_ne.2 h, beq_eq_false_iff_ne.2 fun g => h g.symm]
theorem OwnI.row0 {w : World} {B : Nat} {v : Value} {l : List Int} (h : OwnI w B v l) : ∃ A cap, v = .slice A l.length cap ∧ RowI w A l ∧ (A = none → cap = 0) ∧ l.length ≤ cap := by
  obtain ⟨A, cap, rfl, hr⟩ := h.row
  refine ⟨A, cap, rfl, hr, ?_⟩
  rcases h.2 with ⟨g, hn⟩ | ⟨g, cap2, cur, e, _, _, hc, _⟩
  · injection g with g1 g2 g3
    exact ⟨fun _ => g3, by omega⟩
  · injection e with e1 e2 e3
    subst e1 e3
    exact ⟨fun h0 => (by cases h0), hc⟩
/-- the front of a call's own row is its own. -/
theorem OwnI.cut {w : World} {B : Nat} {A : Option Addr} {n cap m : Nat} {l : List Int} (h : OwnI w B (.slice A n cap) l) (hm : m ≤ l.length) : OwnI w B (.slice A m cap) (l.take m) := by
  have hlm : (l.take m).length = m := by rw [List.length_take]; omega
  refine ⟨by rw [cellsI_len, Nat.mul_one], ?_⟩
  rw [hlm]
  rcases h.2 with ⟨g, hn⟩ | ⟨g, cap2, cur, e, hb, hg, hc, hx, hs, ht⟩
  · injection g with g1 g2 g3
    subst g1 g3
    obtain rfl : m = 0 := by omega
    exact Or.inl ⟨rfl, rfl⟩
  · injection e with e1 e2 e3
    subst e1 e3
    refine Or.inr ⟨g, cap, cur, rfl, hb, hg, by omega, hx, hs, ?_⟩
    rw [Nat.mul_one] at ht ⊢
    have : cellsI (l.take m) = (cellsI l).take m := by unfold cellsI; rw [List.map_take]
    rw [this, ← ht, List.take_take, Nat.min_eq_left hm]
theorem own_one (w : World) (B : Nat) (s : Int) (hB : B ≤ w.heap.size) : OwnI (w.alloc (.cells #[.int .i64 s] 3)) B (.slice (some ⟨w.heap.size, 0, none⟩) 1 1) [s] :=
  World.ownsRow_lit (size := 1) w #[.int .i64 s] 1 hB (by unfold maxLen; omega) rfl

set_option maxRecDepth 100000 in
set_option maxHeartbeats 1000000 in
theorem ixI_any (m : Int) (A : Option Addr) (n c : Nat) (l : List Int) (w : World) (hl : RowI w A l) (hn : n = l.length) (hsz : l.length ≤ 1000) :
    Calls Try.prog 67 #[.slice A n c, .int .i64 m] w (Finds w (l.any (fun x => m == x))) := by
  subst hn
  by_cases hnil : l = []
  · subst hnil
    go_enter Try.func67, Try.ntmps67
    go_wp2_with fail
    refine wp_loop_rounds 1 ?_
    rw [rounds_succ]
    go_wp2_with fail
    go_ret
    exact ⟨-1, rfl, rfl, start _⟩
  · obtain ⟨b1, o1, rfl, hb1, hc1⟩ := hl hnil
    have HC1 := hide hc1
    clear hl hc1 hnil
    go_enter Try.func67, Try.ntmps67
    go_wp2_with fail
    go_loopw [8] (fun i wr => ∃ j : Nat, j ≤ l.length ∧ i = .int .i64 j ∧ (∀ i (hi : i < l.length), i < j → (fun x => m == x) l[i] = false) ∧ Below w.heap.size w wr) (fun i _ => l.length - (intOf i).toNat)
    case atStart => exact ⟨0, Nat.zero_le _, rfl, fun i hi h => absurd h (Nat.not_lt_zero _), start _⟩
    case round =>
      obtain ⟨j, hj, rfl, heq, hbw⟩ := hrel
      have HE := hide heq
      clear heq
      by_cases hlt : j < l.length
      · obtain ⟨x, hx⟩ : ∃ x, l[j] = x := ⟨_, rfl⟩
        have p1 : wr.cell? ⟨b1, o1 + j, none⟩ = some (.int .i64 x) := by rw [← hx]; exact (hbw.cell (p := ⟨b1, _, none⟩) hb1).trans (HC1.out j hlt)
        have hi0 : (0 : Int) ≤ (j : Int) := by omega
        have hi1 : (j : Int) < (l.length : Int) := by omega
        cases hq : (m == x)
        · have HN := hide (none_step (fun x => m == x) l j hlt HE.out (by show (m == l[j]) = false; rw [hx]; exact hq))
          clear hx
          go_wp2_with fail
          go_roundw
          case rel => exact ⟨j + 1, by omega, by go_num, HN.out, hbw⟩
          case measure => simp [intOf]; omega
        · have HN := hide (any_at (fun x => m == x) l j hlt (by show (m == l[j]) = true; rw [hx]; exact hq))
          clear hx
          go_wp2_with fail
          go_ret
          exact ⟨_, rfl, by rw [HN.out]; exact decide_eq_true hi0, hbw⟩
      · obtain rfl : j = l.length := by omega
        have HF := hide (any_end (fun x => m == x) l l.length rfl HE.out)
        go_wp2_with fail
        go_ret
        exact ⟨-1, rfl, by rw [HF.out]; rfl, hbw⟩

set_option maxHeartbeats 400000 in
theorem contains_any (m : Int) (A : Option Addr) (n c : Nat) (l : List Int) (w : World) (hl : RowI w A l) (hn : n = l.length) (hsz : l.length ≤ 1000) :
    Calls Try.prog 53 #[.slice A n c, .int .i64 m] w (Ans w (.bool (outB l m))) := by
  subst hn
  have HL := hide hl
  clear hl
  go_enter Try.func53, Try.ntmps53
  go_wp2_with fail
  refine (ixI_any m A _ c l _ HL.out rfl hsz).mono ?_
  rintro e w1 ⟨v, rfl, hv, hb⟩
  have HV := hide hv
  clear hv
  go_wp2_with fail
  go_ret
  exact ⟨ret_bool (by rw [outB_eq, ← HV.out]), hb⟩

set_option maxRecDepth 100000 in
set_option maxHeartbeats 1000000 in
theorem without_any (X : Option Addr) (xn xc : Nat) (ex : List Int) (A : Option Addr) (n c : Nat) (l : List Int) (w : World) (hx : RowI w X ex) (hxn : xn = ex.length) (hxl : ex.length ≤ 1000) (hl : RowI w A l) (hn : n = l.length) (hsz : l.length ≤ 1000) :
    Calls Try.prog 34 #[.slice X xn xc, .slice A n c] w (GivesI w (l.filter fun m => !outB ex m)) := by
  subst hn
  have HX := hide hx
  have HR := hide hl
  have HXN := hide hxn
  clear hx hl hxn
  go_enter Try.func34, Try.ntmps34
  go_wp2_with fail
  go_loopw [5, 7, 10] (fun v _ i wr => ∃ j : Nat, j ≤ l.length ∧ i = .int .i64 j ∧ OwnI wr w.heap.size v ((l.take j).filter (fun m => !outB ex m)) ∧ Below w.heap.size w wr) (fun _ _ i _ => l.length - (intOf i).toNat)
  case atStart => exact ⟨0, Nat.zero_le _, rfl, ownI_nil _ _, start _⟩
  case round =>
    obtain ⟨j, hj, rfl, hown, hbw⟩ := hrel
    have HO := hide hown
    have HBR := hide hbw
    clear hown hbw
    by_cases hlt : j < l.length
    · obtain ⟨b1, o1, rfl, hb1, hc1⟩ := HR.out (by intro h0; rw [h0] at hlt; exact absurd hlt (Nat.not_lt_zero _))
      obtain ⟨m, hm⟩ : ∃ m, l[j] = m := ⟨_, rfl⟩
      have p1 : wr.cell? ⟨b1, o1 + j, none⟩ = some (.int .i64 m) := by rw [← hm]; exact (HBR.out.cell (p := ⟨b1, _, none⟩) hb1).trans (hc1 j hlt)
      have hi0 : (0 : Int) ≤ (j : Int) := by omega
      have hi1 : (j : Int) < (l.length : Int) := by omega
      have HX2 := hide (HX.out.keep HBR.out)
      clear hc1
      cases ho : outB ex m
      · have HN := hide (filt_yes (fun m => !outB ex m) l j hlt (by simp only [hm]; rw [ho]; rfl))
        rw [hm] at HN
        have HOU := hide ho
        clear ho hm
        go_wp2_with fail
        refine (ans_is (contains_any m X xn xc ex _ HX2.out HXN.out hxl) HOU.out).mono ?_
        rintro e v1 ⟨rfl, hb⟩
        replace HO := hide (HO.out.keep hb)
        replace HBR := hide (andthen HBR.out hb)
        clear hb p1
        have hz := HBR.out.size
        have hown := HO.out
        have hln : ((l.take j).filter (fun m => !outB ex m)).length ≤ 1000000 := Nat.le_trans (List.length_filter_le _ _) (Nat.le_trans (List.length_take_le _ _) (by omega))
        go_wp2_with (at_builtin; refine wp_oneI (l := (l.take j).filter (fun m => !outB ex m)) (p := m) rfl _ _ rfl rfl rfl rfl hown hz hln ?_; intro v3 w3 hown3 hb3)
        have HO3 := hide hown3
        have HB3 := hide (HBR.out.trans hb3)
        clear hown hown3 hb3 hz hln
        go_wp2_with fail
        go_roundw
        case rel => exact ⟨j + 1, by omega, by go_num, by rw [HN.out]; exact HO3.out, HB3.out⟩
        case measure => simp [intOf]; omega
      · have HN := hide (filt_no (fun m => !outB ex m) l j hlt (by simp only [hm]; rw [ho]; rfl))
        have HOU := hide ho
        clear ho hm
        go_wp2_with fail
        refine (ans_is (contains_any m X xn xc ex _ HX2.out HXN.out hxl) HOU.out).mono ?_
        rintro e v1 ⟨rfl, hb⟩
        replace HO := hide (HO.out.keep hb)
        replace HBR := hide (andthen HBR.out hb)
        clear hb p1
        go_wp2_with fail
        go_roundw
        case rel => exact ⟨j + 1, by omega, by go_num, by rw [HN.out]; exact HO.out, HBR.out⟩
        case measure => simp [intOf]; omega
    · obtain rfl : j = l.length := by omega
      rw [List.take_length] at HO
      go_wp2_with fail
      go_ret
      exact ⟨_, rfl, HO.out, HBR.out⟩

set_option maxRecDepth 100000 in
set_option maxHeartbeats 1000000 in
theorem between_any (a b : Int) (A : Option Addr) (n c : Nat) (l : List Int) (w : World) (hl : RowI w A l) (hn : n = l.length) (hsz : l.length ≤ 1000) :
    Calls Try.prog 52 #[.int .i64 a, .int .i64 b, .slice A n c] w (GivesI w (l.filter fun m => decide (a ≤ m) && decide (m ≤ b))) := by
  subst hn
  have HR := hide hl
  clear hl
  go_enter Try.func52, Try.ntmps52
  go_wp2_with fail
  go_loopw [7, 9, 12] (fun v _ i wr => ∃ j : Nat, j ≤ l.length ∧ i = .int .i64 j ∧ OwnI wr w.heap.size v ((l.take j).filter (fun m => decide (a ≤ m) && decide (m ≤ b))) ∧ Below w.heap.size w wr) (fun _ _ i _ => l.length - (intOf i).toNat)
  case atStart => exact ⟨0, Nat.zero_le _, rfl, ownI_nil _ _, start _⟩
  case round =>
    obtain ⟨j, hj, rfl, hown, hbw⟩ := hrel
    have HO := hide hown
    have HBR := hide hbw
    clear hown hbw
    by_cases hlt : j < l.length
    · obtain ⟨b1, o1, rfl, hb1, hc1⟩ := HR.out (by intro h0; rw [h0] at hlt; exact absurd hlt (Nat.not_lt_zero _))
      obtain ⟨m, hm⟩ : ∃ m, l[j] = m := ⟨_, rfl⟩
      have p1 : wr.cell? ⟨b1, o1 + j, none⟩ = some (.int .i64 m) := by rw [← hm]; exact (HBR.out.cell (p := ⟨b1, _, none⟩) hb1).trans (hc1 j hlt)
      have hi0 : (0 : Int) ≤ (j : Int) := by omega
      have hi1 : (j : Int) < (l.length : Int) := by omega
      clear hc1
      by_cases ha : a ≤ m
      · by_cases hb : m ≤ b
        · have HN := hide (filt_yes (fun m => decide (a ≤ m) && decide (m ≤ b)) l j hlt (by simp only [hm]; rw [decide_eq_true ha, decide_eq_true hb]; rfl))
          rw [hm] at HN
          clear hm
          have hz := HBR.out.size
          have hown := HO.out
          have hln : ((l.take j).filter (fun m => decide (a ≤ m) && decide (m ≤ b))).length ≤ 1000000 := Nat.le_trans (List.length_filter_le _ _) (Nat.le_trans (List.length_take_le _ _) (by omega))
          go_wp2_with (at_builtin; refine wp_oneI (l := (l.take j).filter (fun m => decide (a ≤ m) && decide (m ≤ b))) (p := m) rfl _ _ rfl rfl rfl rfl hown hz hln ?_; intro v3 w3 hown3 hb3)
          have HO3 := hide hown3
          have HB3 := hide (HBR.out.trans hb3)
          clear hown hown3 hb3 hz hln
          go_wp2_with fail
          go_roundw
          case rel => exact ⟨j + 1, by omega, by go_num, by rw [HN.out]; exact HO3.out, HB3.out⟩
          case measure => simp [intOf]; omega
        · have HN := hide (filt_no (fun m => decide (a ≤ m) && decide (m ≤ b)) l j hlt (by simp only [hm]; rw [decide_eq_false hb, Bool.and_false]))
          clear hm
          go_wp2_with fail
          go_roundw
          case rel => exact ⟨j + 1, by omega, by go_num, by rw [HN.out]; exact HO.out, HBR.out⟩
          case measure => simp [intOf]; omega
      · have HN := hide (filt_no (fun m => decide (a ≤ m) && decide (m ≤ b)) l j hlt (by simp only [hm]; rw [decide_eq_false ha, Bool.false_and]))
        clear hm
        go_wp2_with fail
        go_roundw
        case rel => exact ⟨j + 1, by omega, by go_num, by rw [HN.out]; exact HO.out, HBR.out⟩
        case measure => simp [intOf]; omega
    · obtain rfl : j = l.length := by omega
      rw [List.take_length] at HO
      go_wp2_with fail
      go_ret
      exact ⟨_, rfl, HO.out, HBR.out⟩

set_option maxRecDepth 100000 in
set_option maxHeartbeats 1000000 in
theorem minutesAt_any (t : Int) (A : Option Addr) (n c : Nat) (l : List Int) (w : World) (hl : RowI w A l) (hn : n = l.length) (hsz : l.length ≤ 1000) (ht0 : 0 ≤ t) (ht1 : t < 1440) (hd : ∀ x ∈ l, 0 ≤ x ∧ x < 36525) :
    Calls Try.prog 50 #[.int .i64 t, .slice A n c] w (GivesI w (l.map fun d => d * 1440 + t)) := by
  subst hn
  have HR := hide hl
  have HD := hide hd
  clear hl hd
  go_enter Try.func50, Try.ntmps50
  go_wp2_with (refine wp_makeI rfl _ _ rfl rfl (n := l.length) rfl rfl (by omega) ?_; intro v0 w0 hown0 hb0)
  have HO0 := hide hown0
  have HB0 := hide hb0
  clear hown0 hb0
  go_wp2_with fail
  go_loopw [5, 7, 13] (fun v _ i wr => ∃ j : Nat, j ≤ l.length ∧ i = .int .i64 j ∧ OwnI wr w.heap.size v ((l.take j).map (fun d => d * 1440 + t)) ∧ Below w.heap.size w wr) (fun _ _ i _ => l.length - (intOf i).toNat)
  case atStart => exact ⟨0, Nat.zero_le _, rfl, HO0.out, HB0.out⟩
  case round =>
    obtain ⟨j, hj, rfl, hown, hbw⟩ := hrel
    have HO := hide hown
    have HBR := hide hbw
    clear hown hbw
    by_cases hlt : j < l.length
    · obtain ⟨b1, o1, rfl, hb1, hc1⟩ := HR.out (by intro h0; rw [h0] at hlt; exact absurd hlt (Nat.not_lt_zero _))
      obtain ⟨m, hm⟩ : ∃ m, l[j] = m := ⟨_, rfl⟩
      have hmr := HD.out l[j] (List.getElem_mem _)
      rw [hm] at hmr
      have p1 : wr.cell? ⟨b1, o1 + j, none⟩ = some (.int .i64 m) := by rw [← hm]; exact (HBR.out.cell (p := ⟨b1, _, none⟩) hb1).trans (hc1 j hlt)
      have hi0 : (0 : Int) ≤ (j : Int) := by omega
      have hi1 : (j : Int) < (l.length : Int) := by omega
      have HTK : Hid (l.take (j + 1) = l.take j ++ [m]) := hide (by rw [List.take_succ_eq_append_getElem hlt, hm])
      clear hc1 hm
      obtain ⟨m0, m1⟩ := hmr
      have hz := HBR.out.size
      have hown := HO.out
      have hln : ((l.take j).map (fun d => d * 1440 + t)).length ≤ 1000000 := by rw [List.length_map]; exact Nat.le_trans (List.length_take_le _ _) (by omega)
      go_wp2_with (at_builtin; refine wp_oneI (l := (l.take j).map (fun d => d * 1440 + t)) (p := m * 1440 + t) rfl _ _ rfl rfl rfl rfl hown hz hln ?_; intro v3 w3 hown3 hb3)
      have HO3 := hide hown3
      have HB3 := hide (HBR.out.trans hb3)
      clear hown hown3 hb3 hz hln
      go_wp2_with fail
      go_roundw
      case rel => exact ⟨j + 1, by omega, by go_num, by rw [HTK.out, List.map_append]; exact HO3.out, HB3.out⟩
      case measure => simp [intOf]; omega
    · obtain rfl : j = l.length := by omega
      rw [List.take_length] at HO
      go_wp2_with fail
      go_ret
      exact ⟨_, rfl, HO.out, HBR.out⟩

theorem S2.wp_makeS {ops : Array Oper} {rest : List Oper} {o : Oper} {a : Act} {Q : Exit → Act → World → Prop} {w : World} (hgd : o.guard = none) (l c : Operand)
    (ho : o.op = .makeSlice 37 l c) (hl : a.eval l = .int .i64 0) {C : Int} {n : Nat} (hc : a.eval c = .int .i64 C) (hC : C = (n : Int)) (hn : n ≤ 1000000)
    (h : ∀ v w', S2.Own w' w.heap.size v [] → Below w.heap.size w w' → wpList Try.prog ops Q rest (a.put o.dst v) w') :
    wpList Try.prog ops Q (o :: rest) a w := by
  obtain ⟨i0, hi, hz0, hz1, hz2⟩ := info_parts S2.span_info
  refine wpList_make_own w hgd l c 37 ho w.heap.size 41 i0 _ 2 Try.underlying37 hi hz0 hz1 .i64 .i64 C n hl hc hC (by rw [hz2]; omega) (by unfold maxLen; omega) (Nat.le_refl _) ?_
  intro w' h2 h3
  exact h _ w' h2 ((Below.refl w.heap.size w).grown h3 (Nat.le_refl _) fun j hj => by cases hj)

set_option maxRecDepth 100000 in
set_option maxHeartbeats 2000000 in
theorem spansFrom_any (long : Int) (A : Option Addr) (n c : Nat) (l : List Int) (x : List (Int × Int) × Int) (w : World) (hl : RowI w A l) (hn : n = l.length) (hsz : l.length ≤ 1000) (hg1 : 1 ≤ long) (hg2 : long ≤ 10080) (hm : ∀ m ∈ l, 0 ≤ m ∧ m < 52596000)
    (hx1 : (∃ m ∈ l, 52596000 < m + long) → x = ([], 10)) (hx2 : (∀ m ∈ l, m + long ≤ 52596000) → x = (l.map fun m => (m, m + long), 0)) :
    Calls Try.prog 29 #[.int .i64 long, .slice A n c] w (R.GivesP w x) := by
  subst hn
  have HR := hide hl
  have HM := hide hm
  have HX1 := hide hx1
  have HX2 := hide hx2
  clear hl hm hx1 hx2
  go_enter Try.func29, Try.ntmps29
  go_wp2_with (refine S2.wp_makeS rfl _ _ rfl rfl (n := l.length) rfl rfl (by omega) ?_; intro v0 w0 hown0 hb0)
  have HO0 := hide hown0
  have HB0 := hide hb0
  clear hown0 hb0
  go_wp2_with fail
  go_loopw [6, 8, 9, 15] (fun v _ _ i wr => ∃ j : Nat, j ≤ l.length ∧ i = .int .i64 j ∧ S2.Own wr w.heap.size v ((l.take j).map (fun m => (m, m + long))) ∧ Hid (∀ q ∈ l.take j, q + long ≤ 52596000) ∧ Below w.heap.size w wr) (fun _ _ _ i _ => l.length - (intOf i).toNat)
  case atStart => exact ⟨0, Nat.zero_le _, rfl, HO0.out, hide (fun q hq => by simp at hq), HB0.out⟩
  case round =>
    obtain ⟨j, hj, rfl, hown, HQ, hbw⟩ := hrel
    have HO := hide hown
    have HBR := hide hbw
    clear hown hbw
    by_cases hlt : j < l.length
    · obtain ⟨b1, o1, rfl, hb1, hc1⟩ := HR.out (by intro h0; rw [h0] at hlt; exact absurd hlt (Nat.not_lt_zero _))
      obtain ⟨m, hm⟩ : ∃ m, l[j] = m := ⟨_, rfl⟩
      have hmr := HM.out l[j] (List.getElem_mem _)
      rw [hm] at hmr
      have HTK : Hid (l.take (j + 1) = l.take j ++ [m]) := hide (by rw [List.take_succ_eq_append_getElem hlt, hm])
      have hml : m ∈ l := by rw [← hm]; exact List.getElem_mem _
      have HML := hide hml
      have p1 : wr.cell? ⟨b1, o1 + j, none⟩ = some (.int .i64 m) := by rw [← hm]; exact (HBR.out.cell (p := ⟨b1, _, none⟩) hb1).trans (hc1 j hlt)
      have hi0 : (0 : Int) ≤ (j : Int) := by omega
      have hi1 : (j : Int) < (l.length : Int) := by omega
      clear hc1 hm hml
      obtain ⟨m0, m1⟩ := hmr
      have hbV := more (start wr) (.cells #[.int .i64 m, .int .i64 (m + long)] 41)
      have x0 : (wr.alloc (.cells #[.int .i64 m, .int .i64 (m + long)] 41)).cell? ⟨wr.heap.size, 0, none⟩ = some (.int .i64 m) := by rw [World.cell?_alloc_at _ _ _ _ rfl]; rfl
      have x1 : (wr.alloc (.cells #[.int .i64 m, .int .i64 (m + long)] 41)).cell? ⟨wr.heap.size, 1, none⟩ = some (.int .i64 (m + long)) := by rw [World.cell?_alloc_at _ _ _ _ rfl]; rfl
      replace HBR := hide (andthen HBR.out hbV)
      replace HO := hide (HO.out.keep hbV)
      clear hbV
      by_cases hk : m + long ≤ 52596000
      · have HK : Hid (Spn.okB (m, m + long) = true) := hide (S2.okB_yes _ _ (by omega) (by omega) hk)
        go_wp2_with fail
        generalize (wr.alloc (.cells #[.int .i64 m, .int .i64 (m + long)] 41)) = V at *
        generalize wr.heap.size = XS at *
        refine (S2.is_at m (m + long) true _ HK.out).mono ?_
        rintro e v1 ⟨rfl, hb⟩
        replace HBR := hide (andthen HBR.out hb)
        replace HO := hide (HO.out.keep hb)
        replace x0 := cell_keep hb x0
        replace x1 := cell_keep hb x1
        clear hb
        have hz := HBR.out.size
        have hown := HO.out
        have hln : ((l.take j).map (fun m => (m, m + long))).length ≤ 1000000 := by rw [List.length_map]; exact Nat.le_trans (List.length_take_le _ _) (by omega)
        go_wp2_with (at_builtin; refine S2.wp_one (l := (l.take j).map (fun m => (m, m + long))) (p := (m, m + long)) rfl _ _ rfl rfl rfl rfl hown hz hln ?_; intro v3 w3 hown3 hb3)
        have HO3 := hide hown3
        have HB3 := hide (HBR.out.trans hb3)
        clear hown hown3 hb3 hz hln
        go_wp2_with fail
        go_roundw
        case rel => exact ⟨j + 1, by omega, by go_num, by rw [HTK.out, List.map_append]; exact HO3.out, hide (by rw [HTK.out]; intro q hq; rcases List.mem_append.1 hq with g | g; exact HQ.out q g; rw [List.mem_singleton] at g; subst g; exact hk), HB3.out⟩
        case measure => simp [intOf]; omega
      · have HK : Hid (Spn.okB (m, m + long) = false) := hide (S2.okB_no _ _ fun h => hk h.2.2)
        have HE := hide (HX1.out ⟨m, HML.out, by omega⟩)
        go_wp2_with fail
        generalize (wr.alloc (.cells #[.int .i64 m, .int .i64 (m + long)] 41)) = V at *
        generalize wr.heap.size = XS at *
        refine (S2.is_at m (m + long) false _ HK.out).mono ?_
        rintro e v1 ⟨rfl, hb⟩
        replace HBR := hide (andthen HBR.out hb)
        clear hb
        go_wp2_with fail
        go_ret2
        exact R.gives_p HE.out rfl (S2.Own.none _ _) HBR.out
    · obtain rfl : j = l.length := by omega
      rw [List.take_length] at HO HQ
      have HE := hide (HX2.out HQ.out)
      go_wp2_with fail
      go_ret2
      exact R.gives_p HE.out rfl HO.out HBR.out

end Go.Proofs.Ytdmplojfidkipaa

/- Plain facts of the minutes that are kept, period by period: no word of a program. -/
namespace Go.Proofs.Ytdmplojfidkipaa.Rul
open Go.Proofs.Ytdmplojfidkipaa

/-- the last minute at which a rule can come; how many minutes are looked for. -/
def lstU (r : T) : Int := if 0 ≤ r.un then r.un else 52595999
/-- what is kept of the first k periods. -/
def fil (r : T) (s : Int) (k : Nat) : List Int := (candT r s k).filter (keepU r)
theorem mostN_cap (r : T) : (if 0 < r.ct then r.ct else 41) = (capN r : Int) := by
  unfold capN; split <;> omega
theorem candK_le (r : T) (s m : Int) (k : Nat) (h : m ∈ candK r s k) : m ≤ 52595999 := by
  have a := candK_mem r s m k h
  have b := per_bd _ _ _ a.1
  omega
theorem keep_lst (r : T) (s m : Int) (k : Nat) (h : m ∈ candK r s k) : keepU r m = decide (m ≤ lstU r) := by
  have := candK_le r s m k h
  unfold keepU lstU
  by_cases hu : 0 ≤ r.un
  · rw [if_pos hu, decide_eq_false (by omega), Bool.false_or]
  · rw [if_neg hu, decide_eq_true (by omega), Bool.true_or]
    exact (decide_eq_true this).symm
theorem fil_0 (r : T) (s : Int) : fil r s 0 = [] := rfl
theorem fil_succ (r : T) (s : Int) (k : Nat) : fil r s (k + 1) = fil r s k ++ (((daysL r (s / 1440) k).map fun d => d * 1440 + s % 1440).filter fun m => decide (s ≤ m) && decide (m ≤ lstU r)) := by
  unfold fil
  rw [candT_succ, List.filter_append]
  congr 1
  rw [List.filter_congr (q := fun m => decide (m ≤ lstU r)) fun m hm => keep_lst r s m k hm]
  unfold candK
  rw [List.filter_filter]
  congr 1
  funext m
  exact Bool.and_comm _ _
theorem fil_full (r : T) (s : Int) (k : Nat) (hk : k ≤ 36525) (h : capN r ≤ (fil r s k).length) : allL r s = (fil r s k).take (capN r) := by
  obtain ⟨t, e, _⟩ := cand_split r s k hk
  unfold allL
  rw [e, List.filter_append]
  exact List.take_append_of_le_length h
theorem fil_none (r : T) (s : Int) (k : Nat) (hk : k ≤ 36525) (h : perK r (s / 1440) k = false) : allL r s = (fil r s k).take (capN r) := by
  unfold allL; rw [cand_end r s k hk h]; rfl
theorem fil_past (r : T) (s : Int) (k : Nat) (hk : k ≤ 36525) (h : perK r (s / 1440) k = true) (hp : lstU r < perA r (s / 1440) k * 1440) : allL r s = (fil r s k).take (capN r) := by
  obtain ⟨t, e, ht⟩ := cand_split r s k hk
  unfold allL
  rw [e, List.filter_append, show t.filter (keepU r) = [] from List.filter_eq_nil_iff.2 fun m hm => ?_, List.append_nil]
  · rfl
  · obtain ⟨i, hi, hm⟩ := ht m hm
    have a := candK_mem r s m i hm
    have b := per_bd r (s / 1440) k h
    have c : perA r (s / 1440) k ≤ perA r (s / 1440) i := by
      rcases Nat.lt_or_ge k i with g | g
      · have := per_before r (s / 1440) k i g a.1; omega
      · obtain rfl : i = k := by omega
        exact Int.le_refl _
    rw [keep_lst r s m i hm, decide_eq_false (by omega)]
    decide
theorem fil_cut (r : T) (s : Int) (k m : Nat) (h : allL r s = (fil r s k).take (capN r)) (hm : m = min (capN r) (fil r s k).length) : (fil r s k).take m = allL r s := by
  rw [h, List.take_eq_take_iff]
  omega

end Go.Proofs.Ytdmplojfidkipaa.Rul

/- Walks of package expand: occurring. Written by recipes/ex8.py. -/
namespace Go.Proofs.Ytdmplojfidkipaa
open Go.RowKit Rul Go.Sort

set_option maxHeartbeats 400000 in
theorem mostOf_is (fr ev ct un : Int) (D M Y : Option Addr) (dn dc mn mc yn yc : Nat) (q : Int) (w : World) (h : (if 0 < ct then ct else 41) = q) :
    Calls Try.prog 47 #[.agg #[.int .i64 fr, .int .i64 ev, .int .i64 ct, .int .i64 un, .slice D dn dc, .slice M mn mc, .slice Y yn yc]] w (Ans w (.int .i64 q)) := by
  have hbx := more (start w) (.cells #[.int .i64 fr, .int .i64 ev, .int .i64 ct, .int .i64 un, .slice D dn dc, .slice M mn mc, .slice Y yn yc] 25)
  have s2 : (w.alloc (.cells #[.int .i64 fr, .int .i64 ev, .int .i64 ct, .int .i64 un, .slice D dn dc, .slice M mn mc, .slice Y yn yc] 25)).cell? ⟨w.heap.size, 2, none⟩ = some (.int .i64 ct) := by rw [World.cell?_alloc_at _ _ _ _ rfl]; rfl
  by_cases hc : 0 < ct
  · rw [if_pos hc] at h
    subst h
    go_enter Try.func47, Try.ntmps47
    go_wp2_with fail
    go_ret
    exact ⟨rfl, hbx⟩
  · rw [if_neg hc] at h
    subst h
    go_enter Try.func47, Try.ntmps47
    go_wp2_with fail
    go_ret
    exact ⟨rfl, hbx⟩

set_option maxHeartbeats 400000 in
theorem lastOf_is (fr ev ct un : Int) (D M Y : Option Addr) (dn dc mn mc yn yc : Nat) (q : Int) (w : World) (h : (if 0 ≤ un then un else 52595999) = q) :
    Calls Try.prog 48 #[.agg #[.int .i64 fr, .int .i64 ev, .int .i64 ct, .int .i64 un, .slice D dn dc, .slice M mn mc, .slice Y yn yc]] w (Ans w (.int .i64 q)) := by
  have hbx := more (start w) (.cells #[.int .i64 fr, .int .i64 ev, .int .i64 ct, .int .i64 un, .slice D dn dc, .slice M mn mc, .slice Y yn yc] 25)
  have s3 : (w.alloc (.cells #[.int .i64 fr, .int .i64 ev, .int .i64 ct, .int .i64 un, .slice D dn dc, .slice M mn mc, .slice Y yn yc] 25)).cell? ⟨w.heap.size, 3, none⟩ = some (.int .i64 un) := by rw [World.cell?_alloc_at _ _ _ _ rfl]; rfl
  by_cases hc : 0 ≤ un
  · rw [if_pos hc] at h
    subst h
    go_enter Try.func48, Try.ntmps48
    go_wp2_with fail
    go_ret
    exact ⟨rfl, hbx⟩
  · rw [if_neg hc] at h
    subst h
    go_enter Try.func48, Try.ntmps48
    go_wp2_with fail
    go_ret
    exact ⟨rfl, hbx⟩

theorem once_at (r : Rul.T) (hi : isB r = true) (h0 : r.fr = 0) : sameB r once = true := by
  have := R.rec_0 r h0
  unfold isB at hi; rw [this, Bool.or_false] at hi; exact hi
set_option maxRecDepth 100000 in
set_option maxHeartbeats 4000000 in
theorem occ_once (fr ev ct un : Int) (D M Y : Option Addr) (dn dc mn mc yn yc : Nat) (ds : List Wd) (ms ys : List Int) (s : Int) (w : World) (h : Lies w D dn M mn Y yn ds ms ys) (hi : isB ⟨fr, ev, ct, un, ds, ms, ys⟩ = true) (h0 : fr = 0) :
    Calls Try.prog 33 #[.agg #[.int .i64 fr, .int .i64 ev, .int .i64 ct, .int .i64 un, .slice D dn dc, .slice M mn mc, .slice Y yn yc], .int .i64 s] w (GivesI w [s]) := by
  have HS := hide (once_at ⟨fr, ev, ct, un, ds, ms, ys⟩ hi h0)
  have HBX := hide (more (start w) (.cells #[.int .i64 fr, .int .i64 ev, .int .i64 ct, .int .i64 un, .slice D dn dc, .slice M mn mc, .slice Y yn yc] 25))
  have HL := hide (h.keep HBX.out)
  have s0 : (w.alloc (.cells #[.int .i64 fr, .int .i64 ev, .int .i64 ct, .int .i64 un, .slice D dn dc, .slice M mn mc, .slice Y yn yc] 25)).cell? ⟨w.heap.size, 0, none⟩ = some (.int .i64 fr) := by rw [World.cell?_alloc_at _ _ _ _ rfl]; rfl
  have s1 : (w.alloc (.cells #[.int .i64 fr, .int .i64 ev, .int .i64 ct, .int .i64 un, .slice D dn dc, .slice M mn mc, .slice Y yn yc] 25)).cell? ⟨w.heap.size, 1, none⟩ = some (.int .i64 ev) := by rw [World.cell?_alloc_at _ _ _ _ rfl]; rfl
  have s2 : (w.alloc (.cells #[.int .i64 fr, .int .i64 ev, .int .i64 ct, .int .i64 un, .slice D dn dc, .slice M mn mc, .slice Y yn yc] 25)).cell? ⟨w.heap.size, 2, none⟩ = some (.int .i64 ct) := by rw [World.cell?_alloc_at _ _ _ _ rfl]; rfl
  have s3 : (w.alloc (.cells #[.int .i64 fr, .int .i64 ev, .int .i64 ct, .int .i64 un, .slice D dn dc, .slice M mn mc, .slice Y yn yc] 25)).cell? ⟨w.heap.size, 3, none⟩ = some (.int .i64 un) := by rw [World.cell?_alloc_at _ _ _ _ rfl]; rfl
  have s4 : (w.alloc (.cells #[.int .i64 fr, .int .i64 ev, .int .i64 ct, .int .i64 un, .slice D dn dc, .slice M mn mc, .slice Y yn yc] 25)).cell? ⟨w.heap.size, 4, none⟩ = some (.slice D dn dc) := by rw [World.cell?_alloc_at _ _ _ _ rfl]; rfl
  have s5 : (w.alloc (.cells #[.int .i64 fr, .int .i64 ev, .int .i64 ct, .int .i64 un, .slice D dn dc, .slice M mn mc, .slice Y yn yc] 25)).cell? ⟨w.heap.size, 5, none⟩ = some (.slice M mn mc) := by rw [World.cell?_alloc_at _ _ _ _ rfl]; rfl
  have s6 : (w.alloc (.cells #[.int .i64 fr, .int .i64 ev, .int .i64 ct, .int .i64 un, .slice D dn dc, .slice M mn mc, .slice Y yn yc] 25)).cell? ⟨w.heap.size, 6, none⟩ = some (.slice Y yn yc) := by rw [World.cell?_alloc_at _ _ _ _ rfl]; rfl
  clear h hi h0
  go_enter Try.func33, Try.ntmps33
  go_wp2_with fail
  generalize (w.alloc (.cells #[.int .i64 fr, .int .i64 ev, .int .i64 ct, .int .i64 un, .slice D dn dc, .slice M mn mc, .slice Y yn yc] 25)) = W at *
  have fs0 := fun d os => cell_regrown s0 d os
  have fs1 := fun d os => cell_regrown s1 d os
  have fs2 := fun d os => cell_regrown s2 d os
  have fs3 := fun d os => cell_regrown s3 d os
  have fs4 := fun d os => cell_regrown s4 d os
  have fs5 := fun d os => cell_regrown s5 d os
  have fs6 := fun d os => cell_regrown s6 d os
  have L1 := hide (fun d os => Lies.keep HL.out (below_regrown W d os))
  have hbq := fun d os => below_regrown W d os
  refine wp_region_quiet_below (by kernel_rfl) (by kernel_rfl) ?_
  repeat (first | go_big_quiet_step ((first | (go_at_call 41; exact Calls.regrown_of (once_any _)) | (go_at_call 40; exact Calls.regrown_of (ans_is (same_any fr ev ct un D M Y dn dc mn mc yn yc 0 0 0 (-1) none none none 0 0 0 0 0 0 ds ms ys [] [] [] _ (L1.out _ _) (lies_once _)) HS.out)))) | quiet_step ((first | (go_at_call 41; exact Calls.regrown_of (once_any _)) | (go_at_call 40; exact Calls.regrown_of (ans_is (same_any fr ev ct un D M Y dn dc mn mc yn yc 0 0 0 (-1) none none none 0 0 0 0 0 0 ds ms ys [] [] [] _ (L1.out _ _) (lies_once _)) HS.out)))))
  refine wpQuiet_nil ?_
  intro _ hw'
  obtain ⟨⟨nq, osq⟩, hw''⟩ := hw'
  subst hw''
  have hb := hbq nq osq
  replace HBX := hide (andthen HBX.out hb)
  replace HL := hide (HL.out.keep hb)
  replace s0 := cell_keep hb s0
  replace s1 := cell_keep hb s1
  replace s2 := cell_keep hb s2
  replace s3 := cell_keep hb s3
  replace s4 := cell_keep hb s4
  replace s5 := cell_keep hb s5
  replace s6 := cell_keep hb s6
  clear hb hbq fs0 fs1 fs2 fs3 fs4 fs5 fs6 L1
  generalize (grow (redrawn W nq) osq) = W1 at *
  go_wp2_with fail
  go_ret
  exact ⟨_, rfl, own_one _ _ s HBX.out.size, more HBX.out _⟩
set_option maxRecDepth 100000 in
set_option maxHeartbeats 8000000 in
theorem occ_rec (fr ev ct un : Int) (D M Y : Option Addr) (dn dc mn mc yn yc : Nat) (ds : List Wd) (ms ys : List Int) (s : Int) (w : World) (h : Lies w D dn M mn Y yn ds ms ys) (hr : recB ⟨fr, ev, ct, un, ds, ms, ys⟩ = true) (h1 : 0 ≤ s) (h2 : s < 52596000) :
    Calls Try.prog 33 #[.agg #[.int .i64 fr, .int .i64 ev, .int .i64 ct, .int .i64 un, .slice D dn dc, .slice M mn mc, .slice Y yn yc], .int .i64 s] w (GivesI w (allL ⟨fr, ev, ct, un, ds, ms, ys⟩ s)) := by
  have t1 : s.tdiv 1440 = s / 1440 := Int.tdiv_eq_ediv_of_nonneg (by omega)
  have t2 : s.tmod 1440 = s % 1440 := Int.tmod_eq_emod_of_nonneg (by omega)
  obtain ⟨day, hday⟩ : ∃ day, s / 1440 = day := ⟨_, rfl⟩
  obtain ⟨at0, hat⟩ : ∃ at0, s % 1440 = at0 := ⟨_, rfl⟩
  have hat1 : 0 ≤ at0 ∧ at0 < 1440 := by omega
  have hrng : rngB fr ev ct un = true := by rw [recB_is, Bool.and_eq_true] at hr; exact hr.1
  rw [R.rng_iff] at hrng
  obtain ⟨_, _, _, _, ct0, ct1, un0, un1, _⟩ := hrng
  have HS := hide (rec_once ⟨fr, ev, ct, un, ds, ms, ys⟩ hr).2
  obtain ⟨cn, hcn⟩ : ∃ cn, capN ⟨fr, ev, ct, un, ds, ms, ys⟩ = cn := ⟨_, rfl⟩
  have hcn1 : cn ≤ 41 := by rw [← hcn]; unfold capN; show (if 0 < ct then ct.toNat else 41) ≤ 41; split <;> omega
  have HMO : Hid ((if 0 < ct then ct else 41) = (cn : Int)) := hide (by rw [← hcn]; exact mostN_cap ⟨fr, ev, ct, un, ds, ms, ys⟩)
  obtain ⟨lst, hlst⟩ : ∃ lst, lstU ⟨fr, ev, ct, un, ds, ms, ys⟩ = lst := ⟨_, rfl⟩
  have HLA : Hid ((if 0 ≤ un then un else 52595999) = lst) := hide hlst
  have HLT := hide hlst
  have HCN := hide hcn
  have HBX := hide (more (start w) (.cells #[.int .i64 fr, .int .i64 ev, .int .i64 ct, .int .i64 un, .slice D dn dc, .slice M mn mc, .slice Y yn yc] 25))
  have HL := hide (h.keep HBX.out)
  have s0 : (w.alloc (.cells #[.int .i64 fr, .int .i64 ev, .int .i64 ct, .int .i64 un, .slice D dn dc, .slice M mn mc, .slice Y yn yc] 25)).cell? ⟨w.heap.size, 0, none⟩ = some (.int .i64 fr) := by rw [World.cell?_alloc_at _ _ _ _ rfl]; rfl
  have s1 : (w.alloc (.cells #[.int .i64 fr, .int .i64 ev, .int .i64 ct, .int .i64 un, .slice D dn dc, .slice M mn mc, .slice Y yn yc] 25)).cell? ⟨w.heap.size, 1, none⟩ = some (.int .i64 ev) := by rw [World.cell?_alloc_at _ _ _ _ rfl]; rfl
  have s2 : (w.alloc (.cells #[.int .i64 fr, .int .i64 ev, .int .i64 ct, .int .i64 un, .slice D dn dc, .slice M mn mc, .slice Y yn yc] 25)).cell? ⟨w.heap.size, 2, none⟩ = some (.int .i64 ct) := by rw [World.cell?_alloc_at _ _ _ _ rfl]; rfl
  have s3 : (w.alloc (.cells #[.int .i64 fr, .int .i64 ev, .int .i64 ct, .int .i64 un, .slice D dn dc, .slice M mn mc, .slice Y yn yc] 25)).cell? ⟨w.heap.size, 3, none⟩ = some (.int .i64 un) := by rw [World.cell?_alloc_at _ _ _ _ rfl]; rfl
  have s4 : (w.alloc (.cells #[.int .i64 fr, .int .i64 ev, .int .i64 ct, .int .i64 un, .slice D dn dc, .slice M mn mc, .slice Y yn yc] 25)).cell? ⟨w.heap.size, 4, none⟩ = some (.slice D dn dc) := by rw [World.cell?_alloc_at _ _ _ _ rfl]; rfl
  have s5 : (w.alloc (.cells #[.int .i64 fr, .int .i64 ev, .int .i64 ct, .int .i64 un, .slice D dn dc, .slice M mn mc, .slice Y yn yc] 25)).cell? ⟨w.heap.size, 5, none⟩ = some (.slice M mn mc) := by rw [World.cell?_alloc_at _ _ _ _ rfl]; rfl
  have s6 : (w.alloc (.cells #[.int .i64 fr, .int .i64 ev, .int .i64 ct, .int .i64 un, .slice D dn dc, .slice M mn mc, .slice Y yn yc] 25)).cell? ⟨w.heap.size, 6, none⟩ = some (.slice Y yn yc) := by rw [World.cell?_alloc_at _ _ _ _ rfl]; rfl
  clear h hr hcn hlst
  go_enter Try.func33, Try.ntmps33
  go_wp2_with fail
  generalize (w.alloc (.cells #[.int .i64 fr, .int .i64 ev, .int .i64 ct, .int .i64 un, .slice D dn dc, .slice M mn mc, .slice Y yn yc] 25)) = W0 at *
  have fs0 := fun d os => cell_regrown s0 d os
  have fs1 := fun d os => cell_regrown s1 d os
  have fs2 := fun d os => cell_regrown s2 d os
  have fs3 := fun d os => cell_regrown s3 d os
  have fs4 := fun d os => cell_regrown s4 d os
  have fs5 := fun d os => cell_regrown s5 d os
  have fs6 := fun d os => cell_regrown s6 d os
  have L1 := hide (fun d os => Lies.keep HL.out (below_regrown W0 d os))
  have hbq := fun d os => below_regrown W0 d os
  refine wp_region_quiet_below (by kernel_rfl) (by kernel_rfl) ?_
  repeat (first | go_big_quiet_step ((first | (go_at_call 41; exact Calls.regrown_of (once_any _)) | (go_at_call 40; exact Calls.regrown_of (ans_is (same_any fr ev ct un D M Y dn dc mn mc yn yc 0 0 0 (-1) none none none 0 0 0 0 0 0 ds ms ys [] [] [] _ (L1.out _ _) (lies_once _)) HS.out)))) | quiet_step ((first | (go_at_call 41; exact Calls.regrown_of (once_any _)) | (go_at_call 40; exact Calls.regrown_of (ans_is (same_any fr ev ct un D M Y dn dc mn mc yn yc 0 0 0 (-1) none none none 0 0 0 0 0 0 ds ms ys [] [] [] _ (L1.out _ _) (lies_once _)) HS.out)))))
  refine wpQuiet_nil ?_
  intro _ hw'
  obtain ⟨⟨nq, osq⟩, hw''⟩ := hw'
  subst hw''
  have hb := hbq nq osq
  replace HBX := hide (andthen HBX.out hb)
  replace HL := hide (HL.out.keep hb)
  replace s0 := cell_keep hb s0
  replace s1 := cell_keep hb s1
  replace s2 := cell_keep hb s2
  replace s3 := cell_keep hb s3
  replace s4 := cell_keep hb s4
  replace s5 := cell_keep hb s5
  replace s6 := cell_keep hb s6
  clear hb hbq fs0 fs1 fs2 fs3 fs4 fs5 fs6 L1
  generalize (grow (redrawn W0 nq) osq) = W1 at *
  go_wp2_with fail
  have fs0 := fun d os => cell_regrown s0 d os
  have fs1 := fun d os => cell_regrown s1 d os
  have fs2 := fun d os => cell_regrown s2 d os
  have fs3 := fun d os => cell_regrown s3 d os
  have fs4 := fun d os => cell_regrown s4 d os
  have fs5 := fun d os => cell_regrown s5 d os
  have fs6 := fun d os => cell_regrown s6 d os
  have L1 := hide (fun d os => Lies.keep HL.out (below_regrown W1 d os))
  have hbq := fun d os => below_regrown W1 d os
  refine wp_region_quiet_below (by kernel_rfl) (by kernel_rfl) ?_
  repeat (first | go_big_quiet_step ((first | (go_at_call 47; exact Calls.regrown_of (mostOf_is fr ev ct un D M Y dn dc mn mc yn yc _ _ HMO.out)) | (go_at_call 48; exact Calls.regrown_of (lastOf_is fr ev ct un D M Y dn dc mn mc yn yc _ _ HLA.out)))) | quiet_step ((first | (go_at_call 47; exact Calls.regrown_of (mostOf_is fr ev ct un D M Y dn dc mn mc yn yc _ _ HMO.out)) | (go_at_call 48; exact Calls.regrown_of (lastOf_is fr ev ct un D M Y dn dc mn mc yn yc _ _ HLA.out)))))
  refine wpQuiet_nil ?_
  intro _ hw'
  obtain ⟨⟨nq, osq⟩, hw''⟩ := hw'
  subst hw''
  have hb := hbq nq osq
  replace HBX := hide (andthen HBX.out hb)
  replace HL := hide (HL.out.keep hb)
  replace s0 := cell_keep hb s0
  replace s1 := cell_keep hb s1
  replace s2 := cell_keep hb s2
  replace s3 := cell_keep hb s3
  replace s4 := cell_keep hb s4
  replace s5 := cell_keep hb s5
  replace s6 := cell_keep hb s6
  clear hb hbq fs0 fs1 fs2 fs3 fs4 fs5 fs6 L1
  generalize (grow (redrawn W1 nq) osq) = W at *
  go_wp2_with fail
  have s0w := s0
  have s1w := s1
  have s2w := s2
  have s3w := s3
  have s4w := s4
  have s5w := s5
  have s6w := s6
  go_loopw [9, 10, 11, 12, 13, 14] (fun v kk _ _ _ _ wr => ∃ k : Nat, k ≤ 36525 ∧ kk = .int .i64 k ∧ OwnI wr W.heap.size v (fil ⟨fr, ev, ct, un, ds, ms, ys⟩ s k) ∧ Below W.heap.size W wr) (fun _ kk _ _ _ _ _ => 36526 - (intOf kk).toNat)
  case atStart => exact ⟨0, Nat.zero_le _, rfl, ownI_nil _ _, start _⟩
  case round =>
    obtain ⟨k, hk, rfl, hown, hbw⟩ := hrel
    obtain ⟨A0, c0, rfl, _, _, hcap⟩ := hown.row0
    have HO := hide hown
    have HBR := hide hbw
    clear hown hbw
    by_cases hfull : cn ≤ (fil ⟨fr, ev, ct, un, ds, ms, ys⟩ s k).length
    · have HE := hide (fil_full ⟨fr, ev, ct, un, ds, ms, ys⟩ s k hk (by rw [HCN.out]; exact hfull))
      obtain ⟨L, hL⟩ : ∃ L, fil ⟨fr, ev, ct, un, ds, ms, ys⟩ s k = L := ⟨_, rfl⟩
      rw [hL] at HO hcap hfull
      have HF : Hid (L.take cn = allL ⟨fr, ev, ct, un, ds, ms, ys⟩ s) := hide (by rw [← hL]; exact fil_cut ⟨fr, ev, ct, un, ds, ms, ys⟩ s k _ HE.out (by rw [HCN.out, hL]; omega))
      have hcl : (cn : Int) ≤ (L.length : Int) := by omega
      rw [hL]
      clear hL
      go_wp2_with fail
      go_ret
      exact ⟨_, rfl, by rw [← HF.out]; exact (OwnI.cut HO.out hfull).low HBX.out.size, andthen HBX.out HBR.out⟩
    · have hln : (fil ⟨fr, ev, ct, un, ds, ms, ys⟩ s k).length ≤ 1000000 := by omega
      replace HL := hide (HL.out.keep HBR.out)
      replace s0 := cell_keep HBR.out s0
      replace s1 := cell_keep HBR.out s1
      replace s2 := cell_keep HBR.out s2
      replace s3 := cell_keep HBR.out s3
      replace s4 := cell_keep HBR.out s4
      replace s5 := cell_keep HBR.out s5
      replace s6 := cell_keep HBR.out s6
      cases hK : perK ⟨fr, ev, ct, un, ds, ms, ys⟩ day k
      · have HE := hide (fil_none ⟨fr, ev, ct, un, ds, ms, ys⟩ s k hk (by rw [hday]; exact hK))
        have HK := hide hK
        clear hK
        obtain ⟨L, hL⟩ : ∃ L, fil ⟨fr, ev, ct, un, ds, ms, ys⟩ s k = L := ⟨_, rfl⟩
        rw [hL] at HO hcap hfull
        have HF : Hid (L.take L.length = allL ⟨fr, ev, ct, un, ds, ms, ys⟩ s) := hide (by rw [← hL]; exact fil_cut ⟨fr, ev, ct, un, ds, ms, ys⟩ s k _ HE.out (by rw [HCN.out, hL]; omega))
        have hcl : (L.length : Int) < (cn : Int) := by omega
        rw [hL]
        clear hL
        go_wp2_with fail
        refine (period_is fr ev ct un D M Y dn dc mn mc yn yc ds ms ys day k _ _ false _ HL.out rfl rfl HK.out).mono ?_
        rintro e u1 ⟨rfl, hb⟩
        replace HO := hide (HO.out.keep hb)
        replace HBR := hide (andthen HBR.out hb)
        replace s0 := cell_keep hb s0
        replace s1 := cell_keep hb s1
        replace s2 := cell_keep hb s2
        replace s3 := cell_keep hb s3
        replace s4 := cell_keep hb s4
        replace s5 := cell_keep hb s5
        replace s6 := cell_keep hb s6
        replace HL := hide (HL.out.keep hb)
        clear hb
        go_wp2_with fail
        go_ret
        exact ⟨_, rfl, by rw [← HF.out]; exact (OwnI.cut HO.out (Nat.le_refl _)).low HBX.out.size, andthen HBX.out HBR.out⟩
      · have hk2 : k < 36525 := by have := ((perK_iff _ _ _).1 hK).2.2.1; omega
        obtain ⟨a, ha⟩ : ∃ a, perA ⟨fr, ev, ct, un, ds, ms, ys⟩ day k = a := ⟨_, rfl⟩
        obtain ⟨b, hbb⟩ : ∃ b, perB ⟨fr, ev, ct, un, ds, ms, ys⟩ day k = b := ⟨_, rfl⟩
        have pb := per_bd _ _ _ hK
        rw [ha, hbb] at pb
        by_cases hpa : lst < a * 1440
        · have HE := hide (fil_past ⟨fr, ev, ct, un, ds, ms, ys⟩ s k hk (by rw [hday]; exact hK) (by rw [hday, ha, HLT.out]; exact hpa))
          have HK := hide hK
          have HP := hide (And.intro ha hbb)
          clear hK ha hbb
          obtain ⟨L, hL⟩ : ∃ L, fil ⟨fr, ev, ct, un, ds, ms, ys⟩ s k = L := ⟨_, rfl⟩
          rw [hL] at HO hcap hfull
          have HF : Hid (L.take L.length = allL ⟨fr, ev, ct, un, ds, ms, ys⟩ s) := hide (by rw [← hL]; exact fil_cut ⟨fr, ev, ct, un, ds, ms, ys⟩ s k _ HE.out (by rw [HCN.out, hL]; omega))
          have hcl : (L.length : Int) < (cn : Int) := by omega
          rw [hL]
          clear hL
          go_wp2_with fail
          refine (period_is fr ev ct un D M Y dn dc mn mc yn yc ds ms ys day k a b true _ HL.out HP.out.1 HP.out.2 HK.out).mono ?_
          rintro e u1 ⟨rfl, hb⟩
          replace HO := hide (HO.out.keep hb)
          replace HBR := hide (andthen HBR.out hb)
          replace s0 := cell_keep hb s0
          replace s1 := cell_keep hb s1
          replace s2 := cell_keep hb s2
          replace s3 := cell_keep hb s3
          replace s4 := cell_keep hb s4
          replace s5 := cell_keep hb s5
          replace s6 := cell_keep hb s6
          replace HL := hide (HL.out.keep hb)
          clear hb
          go_wp2_with fail
          go_ret
          exact ⟨_, rfl, by rw [← HF.out]; exact (OwnI.cut HO.out (Nat.le_refl _)).low HBX.out.size, andthen HBX.out HBR.out⟩
        · obtain ⟨l, hl⟩ : ∃ l, daysL ⟨fr, ev, ct, un, ds, ms, ys⟩ day k = l := ⟨_, rfl⟩
          have hll : l.length ≤ 366 := by have h1 := daysL_len ⟨fr, ev, ct, un, ds, ms, ys⟩ day k; rw [hl] at h1; exact h1
          have HDB : Hid (∀ x ∈ l, 0 ≤ x ∧ x < 36525) := hide fun x hx => by
            rw [← hl] at hx
            obtain ⟨j, hj, rfl⟩ := List.mem_iff_getElem.1 hx
            have h1 := daysL_in ⟨fr, ev, ct, un, ds, ms, ys⟩ day k j hj
            rw [ha, hbb] at h1
            omega
          have HN := hide (fil_succ ⟨fr, ev, ct, un, ds, ms, ys⟩ s k)
          obtain ⟨lm, hmm⟩ : ∃ lm, (l.map fun d => d * 1440 + at0) = lm := ⟨_, rfl⟩
          have hlm : lm.length ≤ 1000 := by rw [← hmm, List.length_map]; omega
          have HMM := hide hmm
          rw [hday, hat, hl, HLT.out, hmm] at HN
          have HDL := hide hl
          have HK := hide hK
          have HP := hide (And.intro ha hbb)
          clear hK ha hbb hl hmm
          go_wp2_with fail
          refine (period_is fr ev ct un D M Y dn dc mn mc yn yc ds ms ys day k a b true _ HL.out HP.out.1 HP.out.2 HK.out).mono ?_
          rintro e u1 ⟨rfl, hb⟩
          replace HO := hide (HO.out.keep hb)
          replace HBR := hide (andthen HBR.out hb)
          replace s0 := cell_keep hb s0
          replace s1 := cell_keep hb s1
          replace s2 := cell_keep hb s2
          replace s3 := cell_keep hb s3
          replace s4 := cell_keep hb s4
          replace s5 := cell_keep hb s5
          replace s6 := cell_keep hb s6
          replace HL := hide (HL.out.keep hb)
          clear hb
          go_wp2_with fail
          refine (of_any fr ev ct un D M Y dn dc mn mc yn yc ds ms ys day k _ HL.out).mono ?_
          rintro e u2 ⟨v2, rfl, hownl, hb⟩
          rw [HDL.out] at hownl
          obtain ⟨A1, c1, rfl, hrow1⟩ := hownl.row
          replace HO := hide (HO.out.keep hb)
          replace HBR := hide (andthen HBR.out hb)
          replace s0 := cell_keep hb s0
          replace s1 := cell_keep hb s1
          replace s2 := cell_keep hb s2
          replace s3 := cell_keep hb s3
          replace s4 := cell_keep hb s4
          replace s5 := cell_keep hb s5
          replace s6 := cell_keep hb s6
          replace HL := hide (HL.out.keep hb)
          have HR1 := hide hrow1
          clear hb hownl hrow1
          go_wp2_with fail
          refine (minutesAt_any at0 A1 _ c1 l _ HR1.out rfl (by omega) hat1.1 hat1.2 HDB.out).mono ?_
          rintro e u3 ⟨v3, rfl, hownm, hb⟩
          rw [HMM.out] at hownm
          obtain ⟨A2, c2, rfl, hrow2⟩ := hownm.row
          replace HO := hide (HO.out.keep hb)
          replace HBR := hide (andthen HBR.out hb)
          replace s0 := cell_keep hb s0
          replace s1 := cell_keep hb s1
          replace s2 := cell_keep hb s2
          replace s3 := cell_keep hb s3
          replace s4 := cell_keep hb s4
          replace s5 := cell_keep hb s5
          replace s6 := cell_keep hb s6
          replace HL := hide (HL.out.keep hb)
          have HR2 := hide hrow2
          clear hb hownm hrow2
          go_wp2_with fail
          refine (between_any s lst A2 _ c2 lm _ HR2.out rfl hlm).mono ?_
          rintro e u4 ⟨v4, rfl, hownb, hb⟩
          obtain ⟨A3, c3, rfl, hrow3, hnil3, _⟩ := hownb.row0
          replace HO := hide (HO.out.keep hb)
          replace HBR := hide (andthen HBR.out hb)
          replace s0 := cell_keep hb s0
          replace s1 := cell_keep hb s1
          replace s2 := cell_keep hb s2
          replace s3 := cell_keep hb s3
          replace s4 := cell_keep hb s4
          replace s5 := cell_keep hb s5
          replace s6 := cell_keep hb s6
          replace HL := hide (HL.out.keep hb)
          clear hb hownb
          have hl3 : (lm.filter fun m => decide (s ≤ m) && decide (m ≤ lst)).length ≤ 1000000 := Nat.le_trans (List.length_filter_le _ _) (Nat.le_trans hlm (by omega))
          have hz := HBR.out.size
          have hown := HO.out
          go_wp2_with (at_builtin; refine wp_rowI (l := fil ⟨fr, ev, ct, un, ds, ms, ys⟩ s k) (k := lm.filter fun m => decide (s ≤ m) && decide (m ≤ lst)) rfl _ _ rfl rfl rfl rfl hnil3 hrow3 hown hz hln hl3 ?_; intro v5 w5 hown5 hb5)
          have HO5 := hide hown5
          have HB5 := hide (HBR.out.trans hb5)
          clear hown hown5 hb5 hz hl3 hlm hrow3
          go_wp2_with fail
          go_roundw
          case rel => exact ⟨k + 1, by omega, by go_num, by rw [HN.out]; exact HO5.out, HB5.out⟩
          case measure => simp [intOf]; omega

end Go.Proofs.Ytdmplojfidkipaa

/- Walks of package expand: Starts, Spans. Written by recipes/ex9.py. -/
namespace Go.Proofs.Ytdmplojfidkipaa
open Go.RowKit Rul Go.Sort

set_option maxHeartbeats 1000000 in
theorem wrong_is (fr ev ct un : Int) (D M Y : Option Addr) (dn dc mn mc yn yc : Nat) (ds : List Wd) (ms ys : List Int) (s q : Int) (w : World) (h : Lies w D dn M mn Y yn ds ms ys) (hq : (if isB ⟨fr, ev, ct, un, ds, ms, ys⟩ = false then (12 : Int) else if s < 0 ∨ 52596000 ≤ s then 10 else 0) = q) :
    Calls Try.prog 20 #[.agg #[.int .i64 fr, .int .i64 ev, .int .i64 ct, .int .i64 un, .slice D dn dc, .slice M mn mc, .slice Y yn yc], .int .i64 s] w (Ans w (.int .i64 q)) := by
  have HBX := hide (more (start w) (.cells #[.int .i64 fr, .int .i64 ev, .int .i64 ct, .int .i64 un, .slice D dn dc, .slice M mn mc, .slice Y yn yc] 25))
  have HL := hide (h.keep HBX.out)
  have s0 : (w.alloc (.cells #[.int .i64 fr, .int .i64 ev, .int .i64 ct, .int .i64 un, .slice D dn dc, .slice M mn mc, .slice Y yn yc] 25)).cell? ⟨w.heap.size, 0, none⟩ = some (.int .i64 fr) := by rw [World.cell?_alloc_at _ _ _ _ rfl]; rfl
  have s1 : (w.alloc (.cells #[.int .i64 fr, .int .i64 ev, .int .i64 ct, .int .i64 un, .slice D dn dc, .slice M mn mc, .slice Y yn yc] 25)).cell? ⟨w.heap.size, 1, none⟩ = some (.int .i64 ev) := by rw [World.cell?_alloc_at _ _ _ _ rfl]; rfl
  have s2 : (w.alloc (.cells #[.int .i64 fr, .int .i64 ev, .int .i64 ct, .int .i64 un, .slice D dn dc, .slice M mn mc, .slice Y yn yc] 25)).cell? ⟨w.heap.size, 2, none⟩ = some (.int .i64 ct) := by rw [World.cell?_alloc_at _ _ _ _ rfl]; rfl
  have s3 : (w.alloc (.cells #[.int .i64 fr, .int .i64 ev, .int .i64 ct, .int .i64 un, .slice D dn dc, .slice M mn mc, .slice Y yn yc] 25)).cell? ⟨w.heap.size, 3, none⟩ = some (.int .i64 un) := by rw [World.cell?_alloc_at _ _ _ _ rfl]; rfl
  have s4 : (w.alloc (.cells #[.int .i64 fr, .int .i64 ev, .int .i64 ct, .int .i64 un, .slice D dn dc, .slice M mn mc, .slice Y yn yc] 25)).cell? ⟨w.heap.size, 4, none⟩ = some (.slice D dn dc) := by rw [World.cell?_alloc_at _ _ _ _ rfl]; rfl
  have s5 : (w.alloc (.cells #[.int .i64 fr, .int .i64 ev, .int .i64 ct, .int .i64 un, .slice D dn dc, .slice M mn mc, .slice Y yn yc] 25)).cell? ⟨w.heap.size, 5, none⟩ = some (.slice M mn mc) := by rw [World.cell?_alloc_at _ _ _ _ rfl]; rfl
  have s6 : (w.alloc (.cells #[.int .i64 fr, .int .i64 ev, .int .i64 ct, .int .i64 un, .slice D dn dc, .slice M mn mc, .slice Y yn yc] 25)).cell? ⟨w.heap.size, 6, none⟩ = some (.slice Y yn yc) := by rw [World.cell?_alloc_at _ _ _ _ rfl]; rfl
  clear h
  cases hi : isB ⟨fr, ev, ct, un, ds, ms, ys⟩
  · have HI := hide hi
    rw [if_pos hi] at hq
    clear hi
    subst hq
    go_enter Try.func20, Try.ntmps20
    go_wp2_with fail
    generalize (w.alloc (.cells #[.int .i64 fr, .int .i64 ev, .int .i64 ct, .int .i64 un, .slice D dn dc, .slice M mn mc, .slice Y yn yc] 25)) = W at *
    refine (ans_is (ruleIs_any fr ev ct un D M Y dn dc mn mc yn yc ds ms ys _ HL.out) HI.out).mono ?_
    rintro e u1 ⟨rfl, hb⟩
    replace HBX := hide (andthen HBX.out hb)
    replace HL := hide (HL.out.keep hb)
    replace s0 := cell_keep hb s0
    replace s1 := cell_keep hb s1
    replace s2 := cell_keep hb s2
    replace s3 := cell_keep hb s3
    replace s4 := cell_keep hb s4
    replace s5 := cell_keep hb s5
    replace s6 := cell_keep hb s6
    clear hb
    go_wp2_with fail
    go_ret
    exact ⟨rfl, HBX.out⟩
  · have HI := hide hi
    rw [if_neg (by rw [hi]; simp)] at hq
    clear hi
    by_cases hs : s < 0 ∨ 52596000 ≤ s
    · rw [if_pos hs] at hq
      have HS := hide hs
      clear hs
      subst hq
      go_enter Try.func20, Try.ntmps20
      go_wp2_with fail
      generalize (w.alloc (.cells #[.int .i64 fr, .int .i64 ev, .int .i64 ct, .int .i64 un, .slice D dn dc, .slice M mn mc, .slice Y yn yc] 25)) = W at *
      refine (ans_is (ruleIs_any fr ev ct un D M Y dn dc mn mc yn yc ds ms ys _ HL.out) HI.out).mono ?_
      rintro e u1 ⟨rfl, hb⟩
      replace HBX := hide (andthen HBX.out hb)
      replace HL := hide (HL.out.keep hb)
      replace s0 := cell_keep hb s0
      replace s1 := cell_keep hb s1
      replace s2 := cell_keep hb s2
      replace s3 := cell_keep hb s3
      replace s4 := cell_keep hb s4
      replace s5 := cell_keep hb s5
      replace s6 := cell_keep hb s6
      clear hb
      go_wp2_with fail
      refine (Clock_no s _ HS.out).mono ?_
      rintro e u2 ⟨rfl, hb⟩
      replace HBX := hide (andthen HBX.out hb)
      clear hb
      go_wp2_with fail
      go_ret
      exact ⟨rfl, more HBX.out _⟩
    · rw [if_neg hs] at hq
      have hs1 : 0 ≤ s := by omega
      have hs2 : s < 52596000 := by omega
      clear hs
      subst hq
      go_enter Try.func20, Try.ntmps20
      go_wp2_with fail
      generalize (w.alloc (.cells #[.int .i64 fr, .int .i64 ev, .int .i64 ct, .int .i64 un, .slice D dn dc, .slice M mn mc, .slice Y yn yc] 25)) = W at *
      refine (ans_is (ruleIs_any fr ev ct un D M Y dn dc mn mc yn yc ds ms ys _ HL.out) HI.out).mono ?_
      rintro e u1 ⟨rfl, hb⟩
      replace HBX := hide (andthen HBX.out hb)
      replace HL := hide (HL.out.keep hb)
      replace s0 := cell_keep hb s0
      replace s1 := cell_keep hb s1
      replace s2 := cell_keep hb s2
      replace s3 := cell_keep hb s3
      replace s4 := cell_keep hb s4
      replace s5 := cell_keep hb s5
      replace s6 := cell_keep hb s6
      clear hb
      go_wp2_with fail
      refine (Clock_yes s _ hs1 hs2).mono ?_
      rintro e u2 ⟨rfl, hb⟩
      replace HBX := hide (andthen HBX.out hb)
      clear hb
      go_wp2_with fail
      go_ret
      exact ⟨rfl, more HBX.out _⟩

theorem occ_any (fr ev ct un : Int) (D M Y : Option Addr) (dn dc mn mc yn yc : Nat) (ds : List Wd) (ms ys : List Int) (s : Int) (L : List Int) (w : World) (h : Lies w D dn M mn Y yn ds ms ys) (hi : isB ⟨fr, ev, ct, un, ds, ms, ys⟩ = true) (h1 : 0 ≤ s) (h2 : s < 52596000) (hL : (if fr = 0 then [s] else allL ⟨fr, ev, ct, un, ds, ms, ys⟩ s) = L) :
    Calls Try.prog 33 #[.agg #[.int .i64 fr, .int .i64 ev, .int .i64 ct, .int .i64 un, .slice D dn dc, .slice M mn mc, .slice Y yn yc], .int .i64 s] w (GivesI w L) := by
  by_cases h0 : fr = 0
  · rw [if_pos h0] at hL
    rw [← hL]; exact occ_once fr ev ct un D M Y dn dc mn mc yn yc ds ms ys s w h hi h0
  · rw [if_neg h0] at hL
    rw [← hL]; exact occ_rec fr ev ct un D M Y dn dc mn mc yn yc ds ms ys s w h (R.isB_rec _ hi h0) h1 h2
theorem all_len (r : Rul.T) (s : Int) (hi : isB r = true) : (if r.fr = 0 then [s] else allL r s).length ≤ 41 := by
  by_cases h0 : r.fr = 0
  · rw [if_pos h0]; simp
  · rw [if_neg h0]
    have a := allL_len r s
    have hr := R.isB_rec _ hi h0
    have b : capN r ≤ 41 := by
      have hrng : rngB r.fr r.ev r.ct r.un = true := by unfold recB at hr; rw [Bool.and_eq_true] at hr; exact hr.1
      rw [R.rng_iff] at hrng
      unfold capN
      split <;> omega
    omega
set_option maxRecDepth 100000 in
set_option maxHeartbeats 2000000 in
theorem left_any (fr ev ct un : Int) (D M Y : Option Addr) (dn dc mn mc yn yc : Nat) (ds : List Wd) (ms ys : List Int) (s : Int) (X : Option Addr) (xn xc : Nat) (ex : List Int) (w : World) (h : Lies w D dn M mn Y yn ds ms ys) (hx : RowI w X ex) (hxn : xn = ex.length) (hxl : ex.length ≤ 1000) (hi : isB ⟨fr, ev, ct, un, ds, ms, ys⟩ = true) (hs1 : 0 ≤ s) (hs2 : s < 52596000) :
    Calls Try.prog 21 #[.agg #[.int .i64 fr, .int .i64 ev, .int .i64 ct, .int .i64 un, .slice D dn dc, .slice M mn mc, .slice Y yn yc], .int .i64 s, .slice X xn xc] w (R.GivesE w (startsE ⟨fr, ev, ct, un, ds, ms, ys⟩ s ex)) := by
  have HBX := hide (more (start w) (.cells #[.int .i64 fr, .int .i64 ev, .int .i64 ct, .int .i64 un, .slice D dn dc, .slice M mn mc, .slice Y yn yc] 25))
  have HL := hide (h.keep HBX.out)
  have s0 : (w.alloc (.cells #[.int .i64 fr, .int .i64 ev, .int .i64 ct, .int .i64 un, .slice D dn dc, .slice M mn mc, .slice Y yn yc] 25)).cell? ⟨w.heap.size, 0, none⟩ = some (.int .i64 fr) := by rw [World.cell?_alloc_at _ _ _ _ rfl]; rfl
  have s1 : (w.alloc (.cells #[.int .i64 fr, .int .i64 ev, .int .i64 ct, .int .i64 un, .slice D dn dc, .slice M mn mc, .slice Y yn yc] 25)).cell? ⟨w.heap.size, 1, none⟩ = some (.int .i64 ev) := by rw [World.cell?_alloc_at _ _ _ _ rfl]; rfl
  have s2 : (w.alloc (.cells #[.int .i64 fr, .int .i64 ev, .int .i64 ct, .int .i64 un, .slice D dn dc, .slice M mn mc, .slice Y yn yc] 25)).cell? ⟨w.heap.size, 2, none⟩ = some (.int .i64 ct) := by rw [World.cell?_alloc_at _ _ _ _ rfl]; rfl
  have s3 : (w.alloc (.cells #[.int .i64 fr, .int .i64 ev, .int .i64 ct, .int .i64 un, .slice D dn dc, .slice M mn mc, .slice Y yn yc] 25)).cell? ⟨w.heap.size, 3, none⟩ = some (.int .i64 un) := by rw [World.cell?_alloc_at _ _ _ _ rfl]; rfl
  have s4 : (w.alloc (.cells #[.int .i64 fr, .int .i64 ev, .int .i64 ct, .int .i64 un, .slice D dn dc, .slice M mn mc, .slice Y yn yc] 25)).cell? ⟨w.heap.size, 4, none⟩ = some (.slice D dn dc) := by rw [World.cell?_alloc_at _ _ _ _ rfl]; rfl
  have s5 : (w.alloc (.cells #[.int .i64 fr, .int .i64 ev, .int .i64 ct, .int .i64 un, .slice D dn dc, .slice M mn mc, .slice Y yn yc] 25)).cell? ⟨w.heap.size, 5, none⟩ = some (.slice M mn mc) := by rw [World.cell?_alloc_at _ _ _ _ rfl]; rfl
  have s6 : (w.alloc (.cells #[.int .i64 fr, .int .i64 ev, .int .i64 ct, .int .i64 un, .slice D dn dc, .slice M mn mc, .slice Y yn yc] 25)).cell? ⟨w.heap.size, 6, none⟩ = some (.slice Y yn yc) := by rw [World.cell?_alloc_at _ _ _ _ rfl]; rfl
  have HX := hide (hx.keep HBX.out)
  have HXN := hide hxn
  have HI := hide hi
  obtain ⟨L, hL⟩ : ∃ L, (if fr = 0 then [s] else allL ⟨fr, ev, ct, un, ds, ms, ys⟩ s) = L := ⟨_, rfl⟩
  have hll := all_len ⟨fr, ev, ct, un, ds, ms, ys⟩ s hi
  rw [show (if (⟨fr, ev, ct, un, ds, ms, ys⟩ : Rul.T).fr = 0 then [s] else allL ⟨fr, ev, ct, un, ds, ms, ys⟩ s) = L from hL] at hll
  have HLE := hide hL
  clear h hx hxn
  by_cases hl : 40 < L.length
  · have HE := hide (R.starts_13 ⟨fr, ev, ct, un, ds, ms, ys⟩ s ex L hi hs1 hs2 hL hl)
    have gl : (40 : Int) < (L.length : Int) := by omega
    clear hi hL
    go_enter Try.func21, Try.ntmps21
    go_wp2_with fail
    generalize (w.alloc (.cells #[.int .i64 fr, .int .i64 ev, .int .i64 ct, .int .i64 un, .slice D dn dc, .slice M mn mc, .slice Y yn yc] 25)) = W at *
    refine (occ_any fr ev ct un D M Y dn dc mn mc yn yc ds ms ys s _ _ HL.out HI.out hs1 hs2 HLE.out).mono ?_
    rintro e u1 ⟨v1, rfl, hown, hb⟩
    obtain ⟨A, c, rfl, hrow⟩ := hown.row
    replace HX := hide (HX.out.keep hb)
    replace HBX := hide (andthen HBX.out hb)
    have HR := hide hrow
    clear hb hown hrow
    go_wp2_with fail
    go_ret2
    exact R.gives_e HE.out rfl (ownI_nil _ _) HBX.out
  · have HS := hide (R.starts_at ⟨fr, ev, ct, un, ds, ms, ys⟩ s ex L hi hs1 hs2 hL hl)
    have gl : (L.length : Int) ≤ 40 := by omega
    obtain ⟨K, hK⟩ : ∃ K, (L.filter fun m => !outB ex m) = K := ⟨_, rfl⟩
    have hkl : K.length ≤ 41 := by rw [← hK]; exact Nat.le_trans (List.length_filter_le _ _) hll
    rw [hK] at HS
    have HK := hide hK
    clear hi hL hl hK
    have hwo : ∀ (A : Option Addr) (c : Nat) (u : World), RowI u X ex → RowI u A L → Calls Try.prog 34 #[.slice X xn xc, .slice A L.length c] u (GivesI u K) := fun A c u g1 g2 => by
      rw [← HK.out]; exact without_any X xn xc ex A _ c L u g1 HXN.out hxl g2 rfl (by omega)
    by_cases hz : K.length = 0
    · have HE := hide (HS.out.1 (List.eq_nil_of_length_eq_zero hz))
      have gz : ((K.length : Int) == 0) = true := by rw [beq_iff_eq]; omega
      have gz2 : (K.length == 0) = true := by rw [beq_iff_eq]; exact hz
      clear hz
      go_enter Try.func21, Try.ntmps21
      go_wp2_with fail
      generalize (w.alloc (.cells #[.int .i64 fr, .int .i64 ev, .int .i64 ct, .int .i64 un, .slice D dn dc, .slice M mn mc, .slice Y yn yc] 25)) = W at *
      refine (occ_any fr ev ct un D M Y dn dc mn mc yn yc ds ms ys s _ _ HL.out HI.out hs1 hs2 HLE.out).mono ?_
      rintro e u1 ⟨v1, rfl, hown, hb⟩
      obtain ⟨A, c, rfl, hrow⟩ := hown.row
      replace HX := hide (HX.out.keep hb)
      replace HBX := hide (andthen HBX.out hb)
      have HR := hide hrow
      clear hb hown hrow
      go_wp2_with fail
      refine (hwo A c _ HX.out HR.out).mono ?_
      rintro e u2 ⟨v2, rfl, hown2, hb⟩
      replace HBX := hide (andthen HBX.out hb)
      obtain ⟨A2, c2, rfl, _⟩ := hown2.row
      clear hb hown2
      go_wp2_with fail
      go_ret2
      exact R.gives_e HE.out rfl (ownI_nil _ _) HBX.out
    · have HE := hide (HS.out.2 (by intro hc; rw [hc] at hz; exact hz rfl))
      have gz : ((K.length : Int) == 0) = false := by rw [beq_eq_false_iff_ne]; omega
      have gz2 : (K.length == 0) = false := by rw [beq_eq_false_iff_ne]; exact hz
      clear hz
      go_enter Try.func21, Try.ntmps21
      go_wp2_with fail
      generalize (w.alloc (.cells #[.int .i64 fr, .int .i64 ev, .int .i64 ct, .int .i64 un, .slice D dn dc, .slice M mn mc, .slice Y yn yc] 25)) = W at *
      refine (occ_any fr ev ct un D M Y dn dc mn mc yn yc ds ms ys s _ _ HL.out HI.out hs1 hs2 HLE.out).mono ?_
      rintro e u1 ⟨v1, rfl, hown, hb⟩
      obtain ⟨A, c, rfl, hrow⟩ := hown.row
      replace HX := hide (HX.out.keep hb)
      replace HBX := hide (andthen HBX.out hb)
      have HR := hide hrow
      clear hb hown hrow
      go_wp2_with fail
      have hz := HBX.out.size
      refine (hwo A c _ HX.out HR.out).mono ?_
      rintro e u2 ⟨v2, rfl, hown2, hb⟩
      replace HBX := hide (andthen HBX.out hb)
      have HO := hide (OwnI.low hown2 hz)
      obtain ⟨A2, c2, rfl, _⟩ := hown2.row
      clear hb hown2 hz
      go_wp2_with fail
      go_ret2
      exact R.gives_e HE.out rfl HO.out HBX.out

set_option maxRecDepth 100000 in
set_option maxHeartbeats 2000000 in
theorem starts_code (fr ev ct un : Int) (D M Y : Option Addr) (dn dc mn mc yn yc : Nat) (ds : List Wd) (ms ys : List Int) (s : Int) (X : Option Addr) (xn xc : Nat) (ex : List Int) (w : World) (h : Lies w D dn M mn Y yn ds ms ys) (hx : RowI w X ex) (hxn : xn = ex.length) (hxl : ex.length ≤ 1000) :
    Calls Try.prog 12 #[.agg #[.int .i64 fr, .int .i64 ev, .int .i64 ct, .int .i64 un, .slice D dn dc, .slice M mn mc, .slice Y yn yc], .int .i64 s, .slice X xn xc] w (R.GivesE w (startsE ⟨fr, ev, ct, un, ds, ms, ys⟩ s ex)) := by
  have HBX := hide (more (start w) (.cells #[.int .i64 fr, .int .i64 ev, .int .i64 ct, .int .i64 un, .slice D dn dc, .slice M mn mc, .slice Y yn yc] 25))
  have HL := hide (h.keep HBX.out)
  have s0 : (w.alloc (.cells #[.int .i64 fr, .int .i64 ev, .int .i64 ct, .int .i64 un, .slice D dn dc, .slice M mn mc, .slice Y yn yc] 25)).cell? ⟨w.heap.size, 0, none⟩ = some (.int .i64 fr) := by rw [World.cell?_alloc_at _ _ _ _ rfl]; rfl
  have s1 : (w.alloc (.cells #[.int .i64 fr, .int .i64 ev, .int .i64 ct, .int .i64 un, .slice D dn dc, .slice M mn mc, .slice Y yn yc] 25)).cell? ⟨w.heap.size, 1, none⟩ = some (.int .i64 ev) := by rw [World.cell?_alloc_at _ _ _ _ rfl]; rfl
  have s2 : (w.alloc (.cells #[.int .i64 fr, .int .i64 ev, .int .i64 ct, .int .i64 un, .slice D dn dc, .slice M mn mc, .slice Y yn yc] 25)).cell? ⟨w.heap.size, 2, none⟩ = some (.int .i64 ct) := by rw [World.cell?_alloc_at _ _ _ _ rfl]; rfl
  have s3 : (w.alloc (.cells #[.int .i64 fr, .int .i64 ev, .int .i64 ct, .int .i64 un, .slice D dn dc, .slice M mn mc, .slice Y yn yc] 25)).cell? ⟨w.heap.size, 3, none⟩ = some (.int .i64 un) := by rw [World.cell?_alloc_at _ _ _ _ rfl]; rfl
  have s4 : (w.alloc (.cells #[.int .i64 fr, .int .i64 ev, .int .i64 ct, .int .i64 un, .slice D dn dc, .slice M mn mc, .slice Y yn yc] 25)).cell? ⟨w.heap.size, 4, none⟩ = some (.slice D dn dc) := by rw [World.cell?_alloc_at _ _ _ _ rfl]; rfl
  have s5 : (w.alloc (.cells #[.int .i64 fr, .int .i64 ev, .int .i64 ct, .int .i64 un, .slice D dn dc, .slice M mn mc, .slice Y yn yc] 25)).cell? ⟨w.heap.size, 5, none⟩ = some (.slice M mn mc) := by rw [World.cell?_alloc_at _ _ _ _ rfl]; rfl
  have s6 : (w.alloc (.cells #[.int .i64 fr, .int .i64 ev, .int .i64 ct, .int .i64 un, .slice D dn dc, .slice M mn mc, .slice Y yn yc] 25)).cell? ⟨w.heap.size, 6, none⟩ = some (.slice Y yn yc) := by rw [World.cell?_alloc_at _ _ _ _ rfl]; rfl
  have HX := hide (hx.keep HBX.out)
  have HXN := hide hxn
  clear h hx hxn
  cases hi : isB ⟨fr, ev, ct, un, ds, ms, ys⟩
  · have HE := hide (R.starts_12 ⟨fr, ev, ct, un, ds, ms, ys⟩ s ex hi)
    have HW : Hid ((if isB ⟨fr, ev, ct, un, ds, ms, ys⟩ = false then (12 : Int) else if s < 0 ∨ 52596000 ≤ s then 10 else 0) = 12) := hide (by rw [if_pos hi])
    clear hi
    go_enter Try.func12, Try.ntmps12
    go_wp2_with fail
    generalize (w.alloc (.cells #[.int .i64 fr, .int .i64 ev, .int .i64 ct, .int .i64 un, .slice D dn dc, .slice M mn mc, .slice Y yn yc] 25)) = W at *
    refine (wrong_is fr ev ct un D M Y dn dc mn mc yn yc ds ms ys s _ _ HL.out HW.out).mono ?_
    rintro e u1 ⟨rfl, hb⟩
    replace HBX := hide (andthen HBX.out hb)
    replace HL := hide (HL.out.keep hb)
    replace s0 := cell_keep hb s0
    replace s1 := cell_keep hb s1
    replace s2 := cell_keep hb s2
    replace s3 := cell_keep hb s3
    replace s4 := cell_keep hb s4
    replace s5 := cell_keep hb s5
    replace s6 := cell_keep hb s6
    replace HX := hide (HX.out.keep hb)
    clear hb
    go_wp2_with fail
    go_ret2
    exact R.gives_e HE.out rfl (ownI_nil _ _) HBX.out
  have HI := hide hi
  by_cases hs : s < 0 ∨ 52596000 ≤ s
  · have HE := hide (R.starts_10 ⟨fr, ev, ct, un, ds, ms, ys⟩ s ex hi hs)
    have HW : Hid ((if isB ⟨fr, ev, ct, un, ds, ms, ys⟩ = false then (12 : Int) else if s < 0 ∨ 52596000 ≤ s then 10 else 0) = 10) := hide (by rw [if_neg (by rw [hi]; simp), if_pos hs])
    clear hi hs
    go_enter Try.func12, Try.ntmps12
    go_wp2_with fail
    generalize (w.alloc (.cells #[.int .i64 fr, .int .i64 ev, .int .i64 ct, .int .i64 un, .slice D dn dc, .slice M mn mc, .slice Y yn yc] 25)) = W at *
    refine (wrong_is fr ev ct un D M Y dn dc mn mc yn yc ds ms ys s _ _ HL.out HW.out).mono ?_
    rintro e u1 ⟨rfl, hb⟩
    replace HBX := hide (andthen HBX.out hb)
    replace HL := hide (HL.out.keep hb)
    replace s0 := cell_keep hb s0
    replace s1 := cell_keep hb s1
    replace s2 := cell_keep hb s2
    replace s3 := cell_keep hb s3
    replace s4 := cell_keep hb s4
    replace s5 := cell_keep hb s5
    replace s6 := cell_keep hb s6
    replace HX := hide (HX.out.keep hb)
    clear hb
    go_wp2_with fail
    go_ret2
    exact R.gives_e HE.out rfl (ownI_nil _ _) HBX.out
  · have HW : Hid ((if isB ⟨fr, ev, ct, un, ds, ms, ys⟩ = false then (12 : Int) else if s < 0 ∨ 52596000 ≤ s then 10 else 0) = 0) := hide (by rw [if_neg (by rw [hi]; simp), if_neg hs])
    have hs1 : 0 ≤ s := by omega
    have hs2 : s < 52596000 := by omega
    obtain ⟨⟨l, e2⟩, hS⟩ : ∃ x, startsE ⟨fr, ev, ct, un, ds, ms, ys⟩ s ex = x := ⟨_, rfl⟩
    have HSE := hide hS
    clear hi hs hS
    go_enter Try.func12, Try.ntmps12
    go_wp2_with fail
    generalize (w.alloc (.cells #[.int .i64 fr, .int .i64 ev, .int .i64 ct, .int .i64 un, .slice D dn dc, .slice M mn mc, .slice Y yn yc] 25)) = W at *
    refine (wrong_is fr ev ct un D M Y dn dc mn mc yn yc ds ms ys s _ _ HL.out HW.out).mono ?_
    rintro e u1 ⟨rfl, hb⟩
    replace HBX := hide (andthen HBX.out hb)
    replace HL := hide (HL.out.keep hb)
    replace s0 := cell_keep hb s0
    replace s1 := cell_keep hb s1
    replace s2 := cell_keep hb s2
    replace s3 := cell_keep hb s3
    replace s4 := cell_keep hb s4
    replace s5 := cell_keep hb s5
    replace s6 := cell_keep hb s6
    replace HX := hide (HX.out.keep hb)
    clear hb
    go_wp2_with fail
    refine (left_any fr ev ct un D M Y dn dc mn mc yn yc ds ms ys s X xn xc ex _ HL.out HX.out HXN.out hxl HI.out hs1 hs2).mono ?_
    rw [HSE.out]
    rintro e u2 ⟨v2, rfl, hown, hb⟩
    have HO := hide (OwnI.low hown HBX.out.size)
    replace HBX := hide (andthen HBX.out hb)
    clear hown hb
    go_wp2_with fail
    go_ret2
    exact R.gives_e HSE.out rfl HO.out HBX.out

set_option maxRecDepth 100000 in
set_option maxHeartbeats 2000000 in
theorem spans_code (fr ev ct un : Int) (D M Y : Option Addr) (dn dc mn mc yn yc : Nat) (ds : List Wd) (ms ys : List Int) (s long : Int) (X : Option Addr) (xn xc : Nat) (ex : List Int) (w : World) (h : Lies w D dn M mn Y yn ds ms ys) (hx : RowI w X ex) (hxn : xn = ex.length) (hxl : ex.length ≤ 1000) :
    Calls Try.prog 16 #[.agg #[.int .i64 fr, .int .i64 ev, .int .i64 ct, .int .i64 un, .slice D dn dc, .slice M mn mc, .slice Y yn yc], .int .i64 s, .int .i64 long, .slice X xn xc] w (R.GivesP w (spansE ⟨fr, ev, ct, un, ds, ms, ys⟩ s long ex)) := by
  have HBX := hide (more (start w) (.cells #[.int .i64 fr, .int .i64 ev, .int .i64 ct, .int .i64 un, .slice D dn dc, .slice M mn mc, .slice Y yn yc] 25))
  have HL := hide (h.keep HBX.out)
  have s0 : (w.alloc (.cells #[.int .i64 fr, .int .i64 ev, .int .i64 ct, .int .i64 un, .slice D dn dc, .slice M mn mc, .slice Y yn yc] 25)).cell? ⟨w.heap.size, 0, none⟩ = some (.int .i64 fr) := by rw [World.cell?_alloc_at _ _ _ _ rfl]; rfl
  have s1 : (w.alloc (.cells #[.int .i64 fr, .int .i64 ev, .int .i64 ct, .int .i64 un, .slice D dn dc, .slice M mn mc, .slice Y yn yc] 25)).cell? ⟨w.heap.size, 1, none⟩ = some (.int .i64 ev) := by rw [World.cell?_alloc_at _ _ _ _ rfl]; rfl
  have s2 : (w.alloc (.cells #[.int .i64 fr, .int .i64 ev, .int .i64 ct, .int .i64 un, .slice D dn dc, .slice M mn mc, .slice Y yn yc] 25)).cell? ⟨w.heap.size, 2, none⟩ = some (.int .i64 ct) := by rw [World.cell?_alloc_at _ _ _ _ rfl]; rfl
  have s3 : (w.alloc (.cells #[.int .i64 fr, .int .i64 ev, .int .i64 ct, .int .i64 un, .slice D dn dc, .slice M mn mc, .slice Y yn yc] 25)).cell? ⟨w.heap.size, 3, none⟩ = some (.int .i64 un) := by rw [World.cell?_alloc_at _ _ _ _ rfl]; rfl
  have s4 : (w.alloc (.cells #[.int .i64 fr, .int .i64 ev, .int .i64 ct, .int .i64 un, .slice D dn dc, .slice M mn mc, .slice Y yn yc] 25)).cell? ⟨w.heap.size, 4, none⟩ = some (.slice D dn dc) := by rw [World.cell?_alloc_at _ _ _ _ rfl]; rfl
  have s5 : (w.alloc (.cells #[.int .i64 fr, .int .i64 ev, .int .i64 ct, .int .i64 un, .slice D dn dc, .slice M mn mc, .slice Y yn yc] 25)).cell? ⟨w.heap.size, 5, none⟩ = some (.slice M mn mc) := by rw [World.cell?_alloc_at _ _ _ _ rfl]; rfl
  have s6 : (w.alloc (.cells #[.int .i64 fr, .int .i64 ev, .int .i64 ct, .int .i64 un, .slice D dn dc, .slice M mn mc, .slice Y yn yc] 25)).cell? ⟨w.heap.size, 6, none⟩ = some (.slice Y yn yc) := by rw [World.cell?_alloc_at _ _ _ _ rfl]; rfl
  have HX := hide (hx.keep HBX.out)
  have HXN := hide hxn
  clear h hx hxn
  cases hi : isB ⟨fr, ev, ct, un, ds, ms, ys⟩
  · have HE := hide (R.spans_12 ⟨fr, ev, ct, un, ds, ms, ys⟩ s long ex hi)
    have HW : Hid ((if isB ⟨fr, ev, ct, un, ds, ms, ys⟩ = false then (12 : Int) else if s < 0 ∨ 52596000 ≤ s then 10 else 0) = 12) := hide (by rw [if_pos hi])
    clear hi
    go_enter Try.func16, Try.ntmps16
    go_wp2_with fail
    generalize (w.alloc (.cells #[.int .i64 fr, .int .i64 ev, .int .i64 ct, .int .i64 un, .slice D dn dc, .slice M mn mc, .slice Y yn yc] 25)) = W at *
    refine (wrong_is fr ev ct un D M Y dn dc mn mc yn yc ds ms ys s _ _ HL.out HW.out).mono ?_
    rintro e u1 ⟨rfl, hb⟩
    replace HBX := hide (andthen HBX.out hb)
    replace HL := hide (HL.out.keep hb)
    replace s0 := cell_keep hb s0
    replace s1 := cell_keep hb s1
    replace s2 := cell_keep hb s2
    replace s3 := cell_keep hb s3
    replace s4 := cell_keep hb s4
    replace s5 := cell_keep hb s5
    replace s6 := cell_keep hb s6
    replace HX := hide (HX.out.keep hb)
    clear hb
    go_wp2_with fail
    go_ret2
    exact R.gives_p HE.out rfl (S2.Own.none _ _) HBX.out
  have HI := hide hi
  by_cases hs : s < 0 ∨ 52596000 ≤ s
  · have HE := hide (R.spans_10 ⟨fr, ev, ct, un, ds, ms, ys⟩ s long ex hi hs)
    have HW : Hid ((if isB ⟨fr, ev, ct, un, ds, ms, ys⟩ = false then (12 : Int) else if s < 0 ∨ 52596000 ≤ s then 10 else 0) = 10) := hide (by rw [if_neg (by rw [hi]; simp), if_pos hs])
    clear hi hs
    go_enter Try.func16, Try.ntmps16
    go_wp2_with fail
    generalize (w.alloc (.cells #[.int .i64 fr, .int .i64 ev, .int .i64 ct, .int .i64 un, .slice D dn dc, .slice M mn mc, .slice Y yn yc] 25)) = W at *
    refine (wrong_is fr ev ct un D M Y dn dc mn mc yn yc ds ms ys s _ _ HL.out HW.out).mono ?_
    rintro e u1 ⟨rfl, hb⟩
    replace HBX := hide (andthen HBX.out hb)
    replace HL := hide (HL.out.keep hb)
    replace s0 := cell_keep hb s0
    replace s1 := cell_keep hb s1
    replace s2 := cell_keep hb s2
    replace s3 := cell_keep hb s3
    replace s4 := cell_keep hb s4
    replace s5 := cell_keep hb s5
    replace s6 := cell_keep hb s6
    replace HX := hide (HX.out.keep hb)
    clear hb
    go_wp2_with fail
    go_ret2
    exact R.gives_p HE.out rfl (S2.Own.none _ _) HBX.out
  have HW : Hid ((if isB ⟨fr, ev, ct, un, ds, ms, ys⟩ = false then (12 : Int) else if s < 0 ∨ 52596000 ≤ s then 10 else 0) = 0) := hide (by rw [if_neg (by rw [hi]; simp), if_neg hs])
  have hs1 : 0 ≤ s := by omega
  have hs2 : s < 52596000 := by omega
  by_cases hg1 : long < 1
  · have HE := hide (R.spans_15 ⟨fr, ev, ct, un, ds, ms, ys⟩ s long ex hi hs1 hs2 (Or.inl hg1))
    clear hi hs
    go_enter Try.func16, Try.ntmps16
    go_wp2_with fail
    generalize (w.alloc (.cells #[.int .i64 fr, .int .i64 ev, .int .i64 ct, .int .i64 un, .slice D dn dc, .slice M mn mc, .slice Y yn yc] 25)) = W at *
    refine (wrong_is fr ev ct un D M Y dn dc mn mc yn yc ds ms ys s _ _ HL.out HW.out).mono ?_
    rintro e u1 ⟨rfl, hb⟩
    replace HBX := hide (andthen HBX.out hb)
    replace HL := hide (HL.out.keep hb)
    replace s0 := cell_keep hb s0
    replace s1 := cell_keep hb s1
    replace s2 := cell_keep hb s2
    replace s3 := cell_keep hb s3
    replace s4 := cell_keep hb s4
    replace s5 := cell_keep hb s5
    replace s6 := cell_keep hb s6
    replace HX := hide (HX.out.keep hb)
    clear hb
    go_wp2_with fail
    go_ret2
    exact R.gives_p HE.out rfl (S2.Own.none _ _) HBX.out
  by_cases hg2 : 10080 < long
  · have HE := hide (R.spans_15 ⟨fr, ev, ct, un, ds, ms, ys⟩ s long ex hi hs1 hs2 (Or.inr hg2))
    clear hi hs
    go_enter Try.func16, Try.ntmps16
    go_wp2_with fail
    generalize (w.alloc (.cells #[.int .i64 fr, .int .i64 ev, .int .i64 ct, .int .i64 un, .slice D dn dc, .slice M mn mc, .slice Y yn yc] 25)) = W at *
    refine (wrong_is fr ev ct un D M Y dn dc mn mc yn yc ds ms ys s _ _ HL.out HW.out).mono ?_
    rintro e u1 ⟨rfl, hb⟩
    replace HBX := hide (andthen HBX.out hb)
    replace HL := hide (HL.out.keep hb)
    replace s0 := cell_keep hb s0
    replace s1 := cell_keep hb s1
    replace s2 := cell_keep hb s2
    replace s3 := cell_keep hb s3
    replace s4 := cell_keep hb s4
    replace s5 := cell_keep hb s5
    replace s6 := cell_keep hb s6
    replace HX := hide (HX.out.keep hb)
    clear hb
    go_wp2_with fail
    go_ret2
    exact R.gives_p HE.out rfl (S2.Own.none _ _) HBX.out
  obtain ⟨⟨l, e2⟩, hS⟩ : ∃ x, startsE ⟨fr, ev, ct, un, ds, ms, ys⟩ s ex = x := ⟨_, rfl⟩
  have HSE := hide hS
  have hsp := R.spans_at ⟨fr, ev, ct, un, ds, ms, ys⟩ s long e2 ex l hi hs1 hs2 ⟨by omega, by omega⟩ hS
  have hst := R.starts_in ⟨fr, ev, ct, un, ds, ms, ys⟩ s ex
  rw [hS] at hst
  have HM := hide hst.1
  have HLL := hide hst.2
  by_cases he : e2 = 0
  · have HS := hide (hsp.2 he)
    obtain ⟨⟨x1, x2⟩, hx⟩ : ∃ x, spansE ⟨fr, ev, ct, un, ds, ms, ys⟩ s long ex = x := ⟨_, rfl⟩
    have HXE := hide hx
    rw [hx] at HS
    have hll : l.length ≤ 41 := hst.2
    subst he
    clear hi hs hS hsp hst hx
    rw [HXE.out]
    go_enter Try.func16, Try.ntmps16
    go_wp2_with fail
    generalize (w.alloc (.cells #[.int .i64 fr, .int .i64 ev, .int .i64 ct, .int .i64 un, .slice D dn dc, .slice M mn mc, .slice Y yn yc] 25)) = W at *
    refine (wrong_is fr ev ct un D M Y dn dc mn mc yn yc ds ms ys s _ _ HL.out HW.out).mono ?_
    rintro e u1 ⟨rfl, hb⟩
    replace HBX := hide (andthen HBX.out hb)
    replace HL := hide (HL.out.keep hb)
    replace s0 := cell_keep hb s0
    replace s1 := cell_keep hb s1
    replace s2 := cell_keep hb s2
    replace s3 := cell_keep hb s3
    replace s4 := cell_keep hb s4
    replace s5 := cell_keep hb s5
    replace s6 := cell_keep hb s6
    replace HX := hide (HX.out.keep hb)
    clear hb
    go_wp2_with fail
    refine (left_any fr ev ct un D M Y dn dc mn mc yn yc ds ms ys s X xn xc ex _ HL.out HX.out HXN.out hxl HI.out hs1 hs2).mono ?_
    rw [HSE.out]
    rintro e u2 ⟨v2, rfl, hown, hb⟩
    obtain ⟨A, c, rfl, hrow⟩ := hown.row
    have HR := hide hrow
    replace HBX := hide (andthen HBX.out hb)
    clear hown hb hrow
    go_wp2_with fail
    refine (spansFrom_any long A _ c l (x1, x2) _ HR.out rfl (by omega) (by omega) (by omega) HM.out HS.out.1 HS.out.2).mono ?_
    rintro e u3 ⟨v3, rfl, hown3, hb⟩
    have HO := hide (S2.Own.low hown3 HBX.out.size)
    replace HBX := hide (andthen HBX.out hb)
    clear hown3 hb
    go_wp2_with fail
    go_ret2
    exact R.gives_p rfl rfl HO.out HBX.out
  · have HE := hide (hsp.1 he)
    have ge : (e2 != 0) = true := by rw [bne_iff_ne]; exact he
    clear hi hs hS hsp hst he
    go_enter Try.func16, Try.ntmps16
    go_wp2_with fail
    generalize (w.alloc (.cells #[.int .i64 fr, .int .i64 ev, .int .i64 ct, .int .i64 un, .slice D dn dc, .slice M mn mc, .slice Y yn yc] 25)) = W at *
    refine (wrong_is fr ev ct un D M Y dn dc mn mc yn yc ds ms ys s _ _ HL.out HW.out).mono ?_
    rintro e u1 ⟨rfl, hb⟩
    replace HBX := hide (andthen HBX.out hb)
    replace HL := hide (HL.out.keep hb)
    replace s0 := cell_keep hb s0
    replace s1 := cell_keep hb s1
    replace s2 := cell_keep hb s2
    replace s3 := cell_keep hb s3
    replace s4 := cell_keep hb s4
    replace s5 := cell_keep hb s5
    replace s6 := cell_keep hb s6
    replace HX := hide (HX.out.keep hb)
    clear hb
    go_wp2_with fail
    refine (left_any fr ev ct un D M Y dn dc mn mc yn yc ds ms ys s X xn xc ex _ HL.out HX.out HXN.out hxl HI.out hs1 hs2).mono ?_
    rw [HSE.out]
    rintro e u2 ⟨v2, rfl, hown, hb⟩
    replace HBX := hide (andthen HBX.out hb)
    clear hown hb
    go_wp2_with fail
    go_ret2
    exact R.gives_p HE.out rfl (S2.Own.none _ _) HBX.out

end Go.Proofs.Ytdmplojfidkipaa

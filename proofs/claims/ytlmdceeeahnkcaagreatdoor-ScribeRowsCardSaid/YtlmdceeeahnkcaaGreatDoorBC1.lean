/- ClA; ClB of the recipes, what is needed of them. -/
import Derived.Test.YtlmdceeeahnkcaaGreatDoorBM2
import Derived.Test.YtlmdceeeahnkcaaGreatDoorBS11
import Derived.Test.YtlmdceeeahnkcaaGreatDoorBS8
import Derived.Test.YtlmdceeeahnkcaaGreatDoorBS3
import Derived.Test.YtlmdceeeahnkcaaGreatDoorBS4
namespace Go.Proofs.YtlmdceeeahnkcaaGreatDoor.S2
open Go.RowKit Spn Cl

/-- the cells of a row of claims. -/
def cellsC (l : List C) : List Value := l.flatMap fun a => [.int .i64 a.1, .int .i64 a.2.1, .int .i64 a.2.2]
theorem cellsC_cons (a : C) (l : List C) : cellsC (a :: l) = .int .i64 a.1 :: .int .i64 a.2.1 :: .int .i64 a.2.2 :: cellsC l := rfl
theorem cellsC_append (l k : List C) : cellsC (l ++ k) = cellsC l ++ cellsC k := by simp [cellsC]
theorem cellsC_len : ∀ l : List C, (cellsC l).length = l.length * 3
  | [] => rfl
  | a :: l => by rw [cellsC_cons, List.length_cons, List.length_cons, List.length_cons, cellsC_len l, List.length_cons]; omega
theorem cellsC_get : ∀ (l : List C) (i : Nat) (h : i < l.length), (cellsC l)[i * 3]? = some (.int .i64 l[i].1) ∧ (cellsC l)[i * 3 + 1]? = some (.int .i64 l[i].2.1) ∧ (cellsC l)[i * 3 + 2]? = some (.int .i64 l[i].2.2)
  | [], i, h => absurd h (Nat.not_lt_zero i)
  | a :: l, 0, _ => by simp [cellsC_cons]
  | a :: l, i + 1, h => by
    have hi : i < l.length := by simpa using h
    have := cellsC_get l i hi
    rw [cellsC_cons, show (i + 1) * 3 = i * 3 + 1 + 1 + 1 by omega]
    simpa using this
theorem cellsC_one (l : List C) : ∀ u ∈ cellsC l, u.oneCell' = true := by
  intro u hu
  obtain ⟨a, _, h⟩ := List.mem_flatMap.1 hu
  simp only [List.mem_cons, List.not_mem_nil, or_false] at h
  rcases h with rfl | rfl | rfl <;> rfl

/-- a slice that begins at A reads as the row. -/
def RowC (w : World) (A : Option Addr) (l : List C) : Prop :=
  l ≠ [] → ∃ b off, A = some ⟨b, off, none⟩ ∧ b < w.heap.size ∧ ∀ i (h : i < l.length),
    w.cell? ⟨b, off + i * 3, none⟩ = some (.int .i64 l[i].1) ∧ w.cell? ⟨b, off + i * 3 + 1, none⟩ = some (.int .i64 l[i].2.1) ∧ w.cell? ⟨b, off + i * 3 + 2, none⟩ = some (.int .i64 l[i].2.2)
theorem RowC.nil (w : World) (A : Option Addr) : RowC w A [] := fun h => absurd rfl h
theorem RowC.keep {w w1 : World} {A : Option Addr} {l : List C} (h : RowC w A l) (hb : Below w.heap.size w w1) : RowC w1 A l := fun hl => by
  obtain ⟨b, off, e, hlt, hc⟩ := h hl
  exact ⟨b, off, e, Nat.lt_of_lt_of_le hlt hb.size, fun i hi => ⟨(hb.cell (p := ⟨b, _, none⟩) hlt).trans (hc i hi).1, (hb.cell (p := ⟨b, _, none⟩) hlt).trans (hc i hi).2.1, (hb.cell (p := ⟨b, _, none⟩) hlt).trans (hc i hi).2.2⟩⟩
/-- a call's own slice. -/
abbrev OwnC (w : World) (B : Nat) (v : Value) (l : List C) : Prop := w.ownsRow B 52 3 v l.length (cellsC l)
theorem OwnC.row {w : World} {B : Nat} {v : Value} {l : List C} (h : OwnC w B v l) : ∃ A cap, v = .slice A l.length cap ∧ RowC w A l := by
  rcases h.2 with ⟨rfl, hn⟩ | ⟨g, cap, cur, rfl, hb, hg, hnc, hcm, hcs, htake⟩
  · refine ⟨none, 0, by rw [hn], fun hl => absurd (List.eq_nil_of_length_eq_zero hn) hl⟩
  · refine ⟨some ⟨g, 0, none⟩, cap, rfl, fun _ => ⟨g, 0, rfl, (h.lt g rfl).2, fun i hi => ?_⟩⟩
    have hc := World.ownsRow.cells h (g := g) rfl
    obtain ⟨c1, c2, c3⟩ := cellsC_get l i hi
    have g1 := hc _ _ c1
    have g2 := hc _ _ c2
    have g3 := hc _ _ c3
    rw [plus] at g1 g2 g3
    rw [Nat.zero_add]
    exact ⟨g1, g2, g3⟩
theorem OwnC.keep {w w1 : World} {B : Nat} {v : Value} {l : List C} (h : OwnC w B v l) (hb : Below w.heap.size w w1) : OwnC w1 B v l :=
  World.ownsRow.kept (row := none) h ⟨hb.os, hb.tape, hb.output, hb.size, fun i hi _ => hb.block i hi⟩ (by cases v.ownBlock <;> simp)
theorem OwnC.low {w : World} {B B' : Nat} {v : Value} {l : List C} (h : OwnC w B' v l) (hB : B ≤ B') : OwnC w B v l := by
  refine ⟨h.1, ?_⟩
  rcases h.2 with h2 | ⟨g, cap, cur, h1, h2, h3⟩
  · exact Or.inl h2
  · exact Or.inr ⟨g, cap, cur, h1, Nat.le_trans hB h2, h3⟩
theorem ownC_nil (w : World) (B : Nat) : OwnC w B (.slice none 0 0) [] := World.ownsRow_nil _ _ _ _
/-- a call hands back a row of its own and leaves all else. -/
def GivesC (W : World) (l : List C) (e : Ending) (w : World) : Prop := ∃ v, e = .returned v ∧ OwnC w W.heap.size v l ∧ Below W.heap.size W w
theorem claim_info : (Tryz.prog.info? 52).map (fun i => (i.zero, i.size, i.bytes)) = some (some (.agg #[.int .i64 0, .int .i64 0, .int .i64 0]), 3, 24) := by kernel_rfl

/-- one claim more behind a call's own row. -/
theorem wp_oneC {ops : Array Oper} {rest : List Oper} {o : Oper} {a : Act} {Q : Exit → Act → World → Prop} {w : World} {B : Nat} {v : Value} {l : List C} {p : C} (hgd : o.guard = none) (s x : Operand)
    (ho : o.op = .call { callee := .builtin .append, args := #[s, x], argTypes := #[30, 30] }) (hs : a.eval s = v) {N : Nat} (hN : w.heap.size = N) (hx : a.eval x = .slice (some ⟨N, 0, none⟩) 1 1)
    (hown : OwnC w B v l) (hB : B ≤ w.heap.size) (hn : l.length ≤ 1000000)
    (h : ∀ v' w', OwnC w' B v' (l ++ [p]) → Below B w w' → wpList Tryz.prog ops Q rest (a.put o.dst v') w') :
    wpList Tryz.prog ops Q (o :: rest) a (w.alloc (.cells #[.int .i64 p.1, .int .i64 p.2.1, .int .i64 p.2.2] 52)) := by
  subst hN
  obtain ⟨i0, hi, hz0, hz1, hz2⟩ := info_parts claim_info
  refine wpList_append_own _ hgd s x 30 ho B 52 i0 _ 3 24 Tryz.underlying30 hi hz0 hz1 hz2 rfl (by decide) v l.length (cellsC l) hs (hown.alloc _) ⟨w.heap.size, 0, none⟩ 1 1 [.int .i64 p.1, .int .i64 p.2.1, .int .i64 p.2.2] hx rfl ?_ ?_ ?_ ?_ ?_ ?_
  · intro j u hu
    rw [plus, World.cell?_alloc_at _ _ _ _ rfl]
    exact (by simpa using hu)
  · intro u hu
    simp only [List.mem_cons, List.not_mem_nil, or_false] at hu
    rcases hu with rfl | rfl | rfl <;> rfl
  · unfold maxLen; omega
  · omega
  · simp only [World.size_alloc]; omega
  · intro v' w' h2 h3 _
    refine h v' w' (by rw [OwnC, cellsC_append, List.length_append]; exact h2) (((Below.refl B w).alloc hB _).grown h3 (by simp only [World.size_alloc]; omega) fun j hj => (hown.lt j hj).1)

/-- a row behind a call's own row. -/
theorem run_rowC {w : World} {B : Nat} {v : Value} {l k : List C} (ty : TypeId) {A : Option Addr} {m c : Nat} (hm : m = k.length) (hnone : A = none → c = 0)
    (hrow : RowC w A k) (hown : OwnC w B v l) (hB : B ≤ w.heap.size) (hn : l.length ≤ 1000000) (hk : k.length ≤ 1000000) :
    ∃ v' w', (Builtin.append_ #[30, 30] ty #[v, .slice A m c]).run Tryz.prog w = .ok v' w' ∧ OwnC w' B v' (l ++ k) ∧ Below B w w' := by
  obtain ⟨i0, hi, hz0, hz1, hz2⟩ := info_parts claim_info
  subst hm
  cases A with
  | none =>
    obtain rfl : k = [] := by
      rcases k with _ | ⟨z, k⟩
      · rfl
      · obtain ⟨_, _, h, _⟩ := hrow (by simp)
        cases h
    rw [hnone rfl]
    exact ⟨v, w, run_append_owned_none (P := Tryz.prog) (w := w) B 30 ty 52 i0 3 Tryz.underlying30 hi v l.length (cellsC l) hown, by rw [List.append_nil]; exact hown, Below.refl _ _⟩
  | some a =>
    have hnews : ∀ j u, (cellsC k)[j]? = some u → w.cell? (a.add j) = some u := by
      rcases k with _ | ⟨z, k0⟩
      · intro j u hu; simp [cellsC] at hu
      · obtain ⟨b, off, he, _, hc⟩ := hrow (by simp)
        injection he with he
        subst he
        generalize z :: k0 = k at *
        intro j u hu
        have hj : j < (cellsC k).length := (List.getElem?_eq_some_iff.1 hu).1
        rw [cellsC_len] at hj
        obtain ⟨c1, c2, c3⟩ := cellsC_get k (j / 3) (by omega)
        obtain ⟨r1, r2, r3⟩ := hc (j / 3) (by omega)
        have hadd : (⟨b, off, none⟩ : Addr).add j = ⟨b, off + j, none⟩ := by unfold Addr.add; split <;> simp_all
        rw [hadd]
        rcases (by omega : j / 3 * 3 = j ∨ j / 3 * 3 + 1 = j ∨ j / 3 * 3 + 2 = j) with e | e | e
        · rw [e] at c1 r1; rw [r1, ← c1, hu]
        · rw [e] at c2; rw [Nat.add_assoc, e] at r2; rw [r2, ← c2, hu]
        · rw [e] at c3; rw [Nat.add_assoc, e] at r3; rw [r3, ← c3, hu]
    obtain ⟨v', w', hr, h2, h3, _, _⟩ := run_append_own_at (P := Tryz.prog) (w := w) B 30 ty 52 i0 _ 3 24 Tryz.underlying30 hi hz0 hz1 hz2 rfl (by decide) v l.length (cellsC l) hown a k.length c (cellsC k) (cellsC_len k) hnews (cellsC_one k) (by unfold maxLen; omega) (by omega) hB
    exact ⟨v', w', hr, by rw [OwnC, cellsC_append, List.length_append]; exact h2, (Below.refl B w).grown h3 hB fun j hj => (hown.lt j hj).1⟩
theorem OwnC.row0 {w : World} {B : Nat} {v : Value} {l : List C} (h : OwnC w B v l) : ∃ A cap, v = .slice A l.length cap ∧ RowC w A l ∧ (A = none → cap = 0) := by
  obtain ⟨A, cap, rfl, hr⟩ := h.row
  refine ⟨A, cap, rfl, hr, fun hA => ?_⟩
  subst hA
  rcases h.2 with ⟨h1, _⟩ | ⟨g, cap, cur, h1, _⟩
  · injection h1
  · injection h1 with h1; cases h1
theorem wp_rowC {ops : Array Oper} {rest : List Oper} {o : Oper} {a : Act} {Q : Exit → Act → World → Prop} {w : World} {B : Nat} {v : Value} {l k : List C} (hgd : o.guard = none) (s x : Operand)
    (ho : o.op = .call { callee := .builtin .append, args := #[s, x], argTypes := #[30, 30] }) (hs : a.eval s = v) {A : Option Addr} {m c : Nat} (hx : a.eval x = .slice A m c) (hm : m = k.length) (hnone : A = none → c = 0)
    (hrow : RowC w A k) (hown : OwnC w B v l) (hB : B ≤ w.heap.size) (hn : l.length ≤ 1000000) (hk : k.length ≤ 1000000)
    (h : ∀ v' w', OwnC w' B v' (l ++ k) → Below B w w' → wpList Tryz.prog ops Q rest (a.put o.dst v') w') :
    wpList Tryz.prog ops Q (o :: rest) a w := by
  refine wpList_plain hgd fun K hK => ?_
  obtain ⟨v', w', hr, h2, h3⟩ := run_rowC o.type hm hnone hrow hown hB hn hk
  unfold Oper.wp execOp
  simp only [ho, resolve, invoke, builtin, Sem.run_bind, Sem.run_pure, Result.andThen_ok, List.map_toArray, List.map_cons, List.map_nil, hs, hx, hr]
  exact hK _ _ (h v' w' h2 h3)
/-- .. another call's own row. -/
theorem wp_ownC {ops : Array Oper} {rest : List Oper} {o : Oper} {a : Act} {Q : Exit → Act → World → Prop} {w : World} {B B2 : Nat} {v y : Value} {l k : List C} (hgd : o.guard = none) (s x : Operand)
    (ho : o.op = .call { callee := .builtin .append, args := #[s, x], argTypes := #[30, 30] }) (hs : a.eval s = v) (hx : a.eval x = y) (hy : OwnC w B2 y k)
    (hown : OwnC w B v l) (hB : B ≤ w.heap.size) (hn : l.length ≤ 1000000) (hk : k.length ≤ 1000000)
    (h : ∀ v' w', OwnC w' B v' (l ++ k) → Below B w w' → wpList Tryz.prog ops Q rest (a.put o.dst v') w') :
    wpList Tryz.prog ops Q (o :: rest) a w := by
  obtain ⟨A, cap, rfl, hr, h0⟩ := hy.row0
  exact wp_rowC hgd s x ho hs hx rfl h0 hr hown hB hn hk h
end Go.Proofs.YtlmdceeeahnkcaaGreatDoor.S2
namespace Go.Proofs.YtlmdceeeahnkcaaGreatDoor.S2
open Go.RowKit Spn Cl Go.Sort

theorem okC_lo (r f t : Int) (h : ¬ 0 ≤ r) : okC (r, (f, t)) = false := by unfold okC; rw [decide_eq_false h]; rfl
theorem okC_hi (r f t : Int) (h : ¬ r < 8) : okC (r, (f, t)) = false := by unfold okC; rw [decide_eq_false h, Bool.false_and, Bool.and_false]
theorem okC_is (r f t : Int) (h0 : 0 ≤ r) (h : r < 8) : okC (r, (f, t)) = okB (f, t) := by unfold okC; rw [decide_eq_true h0, decide_eq_true h]; rfl
theorem box3 (w : World) (r f t : Int) : (w.alloc (.cells #[.int .i64 r, .int .i64 f, .int .i64 t] 52)).cell? ⟨w.heap.size, 0, none⟩ = some (.int .i64 r) ∧ (w.alloc (.cells #[.int .i64 r, .int .i64 f, .int .i64 t] 52)).cell? ⟨w.heap.size, 1, none⟩ = some (.int .i64 f) ∧ (w.alloc (.cells #[.int .i64 r, .int .i64 f, .int .i64 t] 52)).cell? ⟨w.heap.size, 2, none⟩ = some (.int .i64 t) := by
  refine ⟨?_, ?_, ?_⟩ <;> rw [World.cell?_alloc_at _ _ _ _ rfl] <;> rfl

set_option maxHeartbeats 800000 in
theorem cIs_any (r f t : Int) (w : World) :
    Calls Tryz.prog 115 #[.agg #[.int .i64 r, .int .i64 f, .int .i64 t]] w fun e w' => e = .returned (.bool (okC (r, (f, t)))) ∧ Below w.heap.size w w' := by
  by_cases h1 : 0 ≤ r
  · by_cases h2 : r < 8
    · have HE := hide (okC_is r f t h1 h2)
      go_enter Tryz.func115, Tryz.ntmps115
      go_wp2_with fail
      refine (is_any f t _).mono ?_
      rintro e w1 ⟨rfl, hb1⟩
      generalize okB (f, t) = q at *
      go_wp2_with fail
      go_ret
      exact ⟨ret_bool (by rw [HE.out]), andthen (more (start _) _) hb1⟩
    · have HE := hide (okC_hi r f t h2)
      go_enter Tryz.func115, Tryz.ntmps115
      go_wp2_with fail
      go_ret
      exact ⟨ret_bool (by rw [HE.out]), more (start _) _⟩
  · have HE := hide (okC_lo r f t h1)
    go_enter Tryz.func115, Tryz.ntmps115
    go_wp2_with fail
    go_ret
    exact ⟨ret_bool (by rw [HE.out]), more (start _) _⟩
theorem cIs_at (r f t : Int) (b : Bool) (w : World) (h : okC (r, (f, t)) = b) :
    Calls Tryz.prog 115 #[.agg #[.int .i64 r, .int .i64 f, .int .i64 t]] w fun e w' => e = .returned (.bool b) ∧ Below w.heap.size w w' := by
  subst h; exact cIs_any r f t w

set_option maxHeartbeats 800000 in
theorem R.cIs_any (r f t : Int) (w : World) :
    Calls Tryz.prog 96 #[.agg #[.int .i64 r, .int .i64 f, .int .i64 t]] w fun e w' => e = .returned (.bool (okC (r, (f, t)))) ∧ Below w.heap.size w w' := by
  by_cases h1 : 0 ≤ r
  · by_cases h2 : r < 8
    · have HE := hide (okC_is r f t h1 h2)
      go_enter Tryz.func96, Tryz.ntmps96
      go_wp2_with fail
      refine (R.is_any f t _).mono ?_
      rintro e w1 ⟨rfl, hb1⟩
      generalize okB (f, t) = q at *
      go_wp2_with fail
      go_ret
      exact ⟨ret_bool (by rw [HE.out]), andthen (more (start _) _) hb1⟩
    · have HE := hide (okC_hi r f t h2)
      go_enter Tryz.func96, Tryz.ntmps96
      go_wp2_with fail
      go_ret
      exact ⟨ret_bool (by rw [HE.out]), more (start _) _⟩
  · have HE := hide (okC_lo r f t h1)
    go_enter Tryz.func96, Tryz.ntmps96
    go_wp2_with fail
    go_ret
    exact ⟨ret_bool (by rw [HE.out]), more (start _) _⟩
theorem R.cIs_at (r f t : Int) (b : Bool) (w : World) (h : okC (r, (f, t)) = b) :
    Calls Tryz.prog 96 #[.agg #[.int .i64 r, .int .i64 f, .int .i64 t]] w fun e w' => e = .returned (.bool b) ∧ Below w.heap.size w w' := by
  subst h; exact R.cIs_any r f t w

end Go.Proofs.YtlmdceeeahnkcaaGreatDoor.S2

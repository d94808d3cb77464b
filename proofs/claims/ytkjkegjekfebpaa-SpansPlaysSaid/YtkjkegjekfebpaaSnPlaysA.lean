/- SpansPlays of every input; an argument of steps opened. -/
import Derived.Test.YtkjkegjekfebpaaSnPlays
import Derived.Test.YtkjkegjekfebpaaSpRow
import Derived.Deep.Slices
import Derived.ChangeSame
namespace Go.Proofs.Ytkjkegjekfebpaa
open Go.ChangeShapes Go.WideShapes Go.ChangeAt Go.RowKit Go.Joins Spn

theorem step_cells : Try.prog.cellsOf 31 = 3 := by kernel_rfl
section
variable {H : Type} {enc : TypeId × Value → H}
theorem open_steps {W : World} {A : Option Addr} {n c base : Nat} {sp : Nat → Bool} {hd : Bool} {d : DataW H} {p : List MemPlace} (h : DataW.Trod enc Try.prog W base sp hd 23 (.slice A n c) d p) :
    ∃ l : List (Int × Sp), n = l.length ∧ l.length ≤ maxLen ∧ SRow W A l := by
  obtain ⟨fuel, hf⟩ := h
  rcases Go.Deep.open_slice Try.underlying23 hf with ⟨hcs, _⟩ | ⟨a, len, cap, m, k, D, Pl, hcs, hb, hl, hm, hmm, _, hx⟩
  · simp [Value.cells] at hcs
    obtain ⟨rfl, rfl, rfl⟩ := hcs
    exact ⟨[], rfl, Nat.zero_le _, fun h0 => absurd rfl h0⟩
  · simp [Value.cells] at hcs
    obtain ⟨rfl, rfl, rfl⟩ := hcs
    have hnm : n ≤ m := by rw [hmm]; split <;> omega
    have each : ∀ i, i < m → ∃ q : Int × Sp, W.cell? (a.add (i * 3)) = some (.int .i64 q.1) ∧ W.cell? (a.add (i * 3 + 1)) = some (.int .i64 q.2.1) ∧ W.cell? (a.add (i * 3 + 2)) = some (.int .i64 q.2.2) := by
      intro i hi
      obtain ⟨cs', h1, h2⟩ := hx i hi
      rw [step_cells] at h1
      obtain ⟨_, hlen, hcell⟩ := World.cells?_some h1
      obtain ⟨xs, k2, hk, hxy, _, hxl, hfl⟩ := DataW.trod_struct Try.underlying31 h2
      match cs', hlen with
      | [v0, v1, v2], _ =>
        have g0 := hfl 0 _ rfl
        have g1 := hfl 1 _ rfl
        have e0 := hcell 0 (by omega)
        have e1 := hcell 1 (by omega)
        have e2 := hcell 2 (by omega)
        rw [Go.Deep.add_add] at e0 e1 e2
        simp [int_cells, span_cells] at g0 g1 e0 e1 e2
        match xs, hxl with
        | [y0, y1], _ =>
          simp at g0 g1
          obtain ⟨z0, q0, _, _⟩ := DataW.trod_int Try.underlying3 g0
          obtain ⟨xs2, k3, hk3, hxy2, _, hxl2, hfl2⟩ := DataW.trod_struct Try.underlying25 g1
          have g2 := hfl2 0 _ rfl
          have g3 := hfl2 1 _ rfl
          match xs2, hxl2 with
          | [y2, y3], _ =>
            simp [int_cells] at g2 g3
            obtain ⟨z1, q1, _, _⟩ := DataW.trod_int Try.underlying3 g2
            obtain ⟨z2, q2, _, _⟩ := DataW.trod_int Try.underlying3 g3
            simp only [List.cons.injEq, and_true] at q0 q1 q2
            subst q0 q1 q2
            exact ⟨(z0, z1, z2), e0, e1, e2⟩
    obtain ⟨q, hq⟩ := Go.Deep.choose_lt each
    refine ⟨(List.range n).map q, by simp, by simp; omega, fun hne => ?_⟩
    have hn : 0 < n := by
      rcases Nat.eq_zero_or_pos n with h0 | h0
      · subst h0; simp at hne
      · exact h0
    obtain ⟨b, off, spot⟩ := a
    have c0 := (hq 0 (by omega)).1
    have hspot : spot = none := by simpa [Addr.add] using World.cell?_spot c0
    subst hspot
    have hbl : b < W.heap.size := by
      have := World.block_lt_of_cell? _ _ c0
      simpa [Addr.add] using this
    refine ⟨b, off, rfl, hbl, fun i hi' => ?_⟩
    have hin : i < n := by simpa using hi'
    obtain ⟨g0, g1, g2⟩ := hq i (by omega)
    rw [add_plain] at g0 g1 g2
    simp only [List.getElem_map, List.getElem_range]
    exact ⟨g0, by rw [Nat.add_assoc]; exact g1, by rw [Nat.add_assoc]; exact g2⟩
end

set_option maxRecDepth 100000 in
set_option maxHeartbeats 1600000 in
theorem plays_many (A A2 : Option Addr) (c c2 : Nat) (n n2 : Nat) (x y : Int) (w : World) (hn : n ≤ maxLen) (hn2 : n2 ≤ maxLen) (hl : 30 < n ∨ (¬ 30 < n ∧ 60 < n2)) :
    Calls Try.prog 3 #[.slice A n c, .slice A2 n2 c2, .agg #[.int .i64 x, .int .i64 y]] w fun e w' => e = .returned (.bool true) ∧ Below w.heap.size w w' := by
  unfold maxLen at hn hn2
  have HB := more (start w) (.cells #[.int .i64 x, .int .i64 y] 25)
  rcases hl with hl | ⟨hl, hl2⟩
  all_goals
    go_enter Try.func3, Try.ntmps3
    go_wp2_with fail
    refine (known_any _).mono ?_
    rintro e w1 ⟨rfl, hb⟩
    replace HB := andthen HB hb
    go_wp2_with fail
    go_ret
    exact ⟨rfl, HB⟩
theorem plays_law (A : Option Addr) (n c : Nat) (l : List Sp) (A2 : Option Addr) (n2 c2 : Nat) (st : List (Int × Sp)) (x y : Int) (w : World) (h : Row w A l) (he : n = l.length) (hn : l.length ≤ maxLen) (h2 : SRow w A2 st) (he2 : n2 = st.length) (hn2 : st.length ≤ maxLen) :
    Calls Try.prog 3 #[.slice A n c, .slice A2 n2 c2, .agg #[.int .i64 x, .int .i64 y]] w fun e w' => e = .returned (.bool true) ∧ Below w.heap.size w w' := by
  subst he he2
  by_cases g1 : 30 < l.length
  · exact plays_many A A2 c c2 _ _ x y w hn hn2 (Or.inl g1)
  · by_cases g2 : 60 < st.length
    · exact plays_many A A2 c c2 _ _ x y w hn hn2 (Or.inr ⟨g1, g2⟩)
    · exact plays_main A A2 c c2 l st x y w h h2 (by omega) (by omega)
end Go.Proofs.Ytkjkegjekfebpaa

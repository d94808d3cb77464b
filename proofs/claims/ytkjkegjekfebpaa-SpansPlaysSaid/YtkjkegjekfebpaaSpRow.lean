/- What every row of layer 2 shares: arguments opened to what the walks ask. -/
import Derived.Test.YtkjkegjekfebpaaRows
import Derived.Test.YtkjkegjekfebpaaSpD
import Derived.ProofKit
import Derived.SizedLaws
import Derived.Lib.RowBridge
import Derived.Lib.SmallJoins
import Derived.Deep.SlicePairs
import Derived.OpenShut
import Derived.Carry
namespace Go.Proofs.Ytkjkegjekfebpaa
open Go.ChangeShapes Go.WideShapes Go.ChangeAt Go.RowKit Go.Joins Spn

theorem own : ownKnob Try.prog.godebug = none := by kernel_rfl
theorem laidOut : laidOutB Try.prog = true := by kernel_rfl
theorem span_cells : Try.prog.cellsOf 25 = 2 := by kernel_rfl
theorem int_cells : Try.prog.cellsOf 3 = 1 := by kernel_rfl
section
variable {H : Type} {enc : TypeId × Value → H}
theorem open_spans {W : World} {A : Option Addr} {n c base : Nat} {sp : Nat → Bool} {hd : Bool} {d : DataW H} {p : List MemPlace} (h : DataW.Trod enc Try.prog W base sp hd 22 (.slice A n c) d p) :
    ∃ l : List Sp, n = l.length ∧ l.length ≤ maxLen ∧ Row W A l := by
  obtain ⟨fuel, hf⟩ := h
  rcases Go.Deep.open_slice_pairs Try.underlying22 Try.underlying25 span_cells rfl rfl int_cells int_cells hf with ⟨hcs, _⟩ | ⟨a, len, cap, m, k, V0, V1, D0, D1, P0, P1, hcs, _, hl, hm, hmm, _, hi⟩
  · simp [Value.cells] at hcs
    obtain ⟨rfl, rfl, rfl⟩ := hcs
    exact ⟨[], rfl, Nat.zero_le _, Row.nil _ _⟩
  · simp [Value.cells] at hcs
    obtain ⟨rfl, rfl, rfl⟩ := hcs
    have hnm : n ≤ m := by rw [hmm]; split <;> omega
    refine ⟨(List.range n).map fun i => (intOf (V0 i), intOf (V1 i)), by simp, by simp; omega, fun hne => ?_⟩
    have hn : 0 < n := by
      rcases Nat.eq_zero_or_pos n with h0 | h0
      · subst h0; simp at hne
      · exact h0
    obtain ⟨b, off, spot⟩ := a
    have c0 := (hi 0 (by omega)).1
    have hspot : spot = none := by simpa [Addr.add] using World.cell?_spot c0
    subst hspot
    have hb : b < W.heap.size := by
      have := World.block_lt_of_cell? _ _ c0
      simpa [Addr.add] using this
    refine ⟨b, off, rfl, hb, fun i hi' => ?_⟩
    have hin : i < n := by simpa using hi'
    obtain ⟨g0, g1, t0, t1⟩ := hi i (by omega)
    obtain ⟨z0, e0, _, _⟩ := DataW.trod_int Try.underlying3 t0
    obtain ⟨z1, e1, _, _⟩ := DataW.trod_int Try.underlying3 t1
    simp only [List.cons.injEq, and_true] at e0 e1
    rw [add_plain] at g0 g1
    rw [g0, Nat.add_assoc, g1, e0, e1]
    simp [e0, e1, intOf]
end

end Go.Proofs.Ytkjkegjekfebpaa

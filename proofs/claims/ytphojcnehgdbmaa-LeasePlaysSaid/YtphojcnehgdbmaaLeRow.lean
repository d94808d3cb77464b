/- What the rows of layer 13 share: rows of claims, rows of steps among the arguments opened. -/
import Derived.Test.YtphojcnehgdbmaaRows
import Derived.Test.YtphojcnehgdbmaaBC1
import Derived.ProofKit
import Derived.SizedLaws
import Derived.Lib.RowBridge
import Derived.Lib.SmallJoins
import Derived.Deep.SlicePairs
import Derived.OpenShut
import Derived.Carry
import Derived.Deep.Slices
import Derived.ChangeSame
namespace Go.Proofs.Ytphojcnehgdbmaa
open Go.ChangeShapes Go.WideShapes Go.ChangeAt Go.RowKit Go.Joins

theorem own : ownKnob Try.prog.godebug = none := by kernel_rfl
theorem laidOut : laidOutB Try.prog = true := by kernel_rfl
theorem int_cells : Try.prog.cellsOf 3 = 1 := by kernel_rfl
theorem span_cells : Try.prog.cellsOf 52 = 2 := by kernel_rfl
theorem claim_cells : Try.prog.cellsOf 55 = 3 := by kernel_rfl
theorem claims_cells : Try.prog.cellsOf 23 = 1 := by kernel_rfl
theorem step_cells : Try.prog.cellsOf 30 = 2 := by kernel_rfl
theorem add_plain13 (b off k : Nat) : (⟨b, off, none⟩ : Addr).add k = ⟨b, off + k, none⟩ := by simp [Addr.add]
/-- a step in memory: what is done, and where its claims lie. -/
structure Stp where
  what : Int
  A : Option Addr
  c : Nat
  l : List Cl.C
/-- a row of steps in memory. -/
def RowT (w : World) (A : Option Addr) (ts : List Stp) : Prop :=
  ts ≠ [] → ∃ b off, A = some ⟨b, off, none⟩ ∧ b < w.heap.size ∧ ∀ i (h : i < ts.length), w.cell? ⟨b, off + i * 2, none⟩ = some (.int .i64 ts[i].what) ∧ w.cell? ⟨b, off + i * 2 + 1, none⟩ = some (.slice ts[i].A ts[i].l.length ts[i].c)
theorem RowT.nil (w : World) (A : Option Addr) : RowT w A [] := fun h => absurd rfl h
theorem RowT.keep {w w1 : World} {A : Option Addr} {ts : List Stp} (h : RowT w A ts) (hb : Below w.heap.size w w1) : RowT w1 A ts := fun hl => by
  obtain ⟨b, off, e, hlt, hc⟩ := h hl
  exact ⟨b, off, e, Nat.lt_of_lt_of_le hlt hb.size, fun i hi => ⟨(hb.cell (p := ⟨b, _, none⟩) hlt).trans (hc i hi).1, (hb.cell (p := ⟨b, _, none⟩) hlt).trans (hc i hi).2⟩⟩
/-- each step's claims. -/
def Stps (w : World) (ts : List Stp) : Prop := ∀ s ∈ ts, S2.RowC w s.A s.l ∧ s.l.length ≤ maxLen ∧ (s.A = none → s.c = 0)
theorem Stps.keep {w w1 : World} {ts : List Stp} (h : Stps w ts) (hb : Below w.heap.size w w1) : Stps w1 ts := fun s hs => ⟨(h s hs).1.keep hb, (h s hs).2⟩
section
variable {H : Type} {enc : TypeId × Value → H}
set_option maxRecDepth 10000 in
theorem claims_of_trod {W : World} {cs : List Value} {base fuel : Nat} {sp : Nat → Bool} {hd : Bool} {y : DataW H × List MemPlace} (hf : DataW.trod enc Try.prog W base sp hd fuel 23 cs = some y) :
    ∃ (A : Option Addr) (n c : Nat) (l : List Cl.C), cs = [.slice A n c] ∧ n = l.length ∧ l.length ≤ maxLen ∧ S2.RowC W A l ∧ (A = none → c = 0) := by
  rcases Go.Deep.open_slice Try.underlying23 hf with ⟨hcs, _⟩ | ⟨a, len, cap, m, k, D, Pl, hcs, hb, hl, hm, hmm, _, hx⟩
  · exact ⟨none, 0, 0, [], hcs, rfl, Nat.zero_le _, fun h0 => absurd rfl h0, fun _ => rfl⟩
  · have hnm : len ≤ m := by rw [hmm]; split <;> omega
    have each : ∀ i, i < m → ∃ q : Int × Int × Int, W.cell? (a.add (i * 3)) = some (.int .i64 q.1) ∧ W.cell? (a.add (i * 3 + 1)) = some (.int .i64 q.2.1) ∧ W.cell? (a.add (i * 3 + 2)) = some (.int .i64 q.2.2) := by
      intro i hi
      obtain ⟨cs', h1, h2⟩ := hx i hi
      rw [claim_cells] at h1
      obtain ⟨_, hlen, hcell⟩ := World.cells?_some h1
      obtain ⟨xs, k2, hk, hxy, _, hxl, hfl⟩ := DataW.trod_struct Try.underlying55 h2
      match cs', hlen with
      | [v0, v1, v2], _ =>
        have g0 := hfl 0 _ rfl
        have g1 := hfl 1 _ rfl
        have e0 := hcell 0 (by omega)
        have e1 := hcell 1 (by omega)
        have e2 := hcell 2 (by omega)
        rw [Go.Deep.add_add] at e0 e1 e2
        simp [int_cells, span_cells] at g0 g1 e0 e1 e2
        match xs, hxl with
        | [y0, y1], _ =>
          simp at g0 g1
          obtain ⟨z0, q0, _, _⟩ := DataW.trod_int Try.underlying3 g0
          obtain ⟨xs2, k3, hk3, hxy2, _, hxl2, hfl2⟩ := DataW.trod_struct Try.underlying52 g1
          have g2 := hfl2 0 _ rfl
          have g3 := hfl2 1 _ rfl
          match xs2, hxl2 with
          | [y2, y3], _ =>
            simp [int_cells] at g2 g3
            obtain ⟨z1, q1, _, _⟩ := DataW.trod_int Try.underlying3 g2
            obtain ⟨z2, q2, _, _⟩ := DataW.trod_int Try.underlying3 g3
            simp only [List.cons.injEq, and_true] at q0 q1 q2
            subst q0 q1 q2
            exact ⟨(z0, z1, z2), e0, e1, e2⟩
    obtain ⟨q, hq⟩ := Go.Deep.choose_lt each
    refine ⟨some a, len, cap, (List.range len).map q, hcs, by simp, by simp; omega, fun hne => ?_, fun h => by cases h⟩
    have hn : 0 < len := by
      rcases Nat.eq_zero_or_pos len with h0 | h0
      · subst h0; simp at hne
      · exact h0
    obtain ⟨b, off, spot⟩ := a
    have c0 := (hq 0 (by omega)).1
    have hspot : spot = none := by simpa [Addr.add] using World.cell?_spot c0
    subst hspot
    have hbl : b < W.heap.size := by
      have := World.block_lt_of_cell? _ _ c0
      simpa [Addr.add] using this
    refine ⟨b, off, rfl, hbl, fun i hi' => ?_⟩
    have hin : i < len := by simpa using hi'
    obtain ⟨g0, g1, g2⟩ := hq i (by omega)
    rw [add_plain13] at g0 g1 g2
    simp only [List.getElem_map, List.getElem_range]
    exact ⟨g0, by rw [Nat.add_assoc]; exact g1, by rw [Nat.add_assoc]; exact g2⟩
theorem open_claims {W : World} {A : Option Addr} {n c base : Nat} {sp : Nat → Bool} {hd : Bool} {d : DataW H} {p : List MemPlace} (h : DataW.Trod enc Try.prog W base sp hd 23 (.slice A n c) d p) :
    ∃ l : List Cl.C, n = l.length ∧ l.length ≤ maxLen ∧ S2.RowC W A l ∧ (A = none → c = 0) := by
  obtain ⟨fuel, hf⟩ := h
  obtain ⟨A', n', c', l, hcs, k⟩ := claims_of_trod hf
  simp [Value.cells] at hcs
  obtain ⟨rfl, rfl, rfl⟩ := hcs
  exact ⟨l, k⟩
set_option maxRecDepth 10000 in
theorem open_steps {W : World} {A : Option Addr} {n c base : Nat} {sp : Nat → Bool} {hd : Bool} {d : DataW H} {p : List MemPlace} (h : DataW.Trod enc Try.prog W base sp hd 22 (.slice A n c) d p) :
    ∃ ts : List Stp, n = ts.length ∧ ts.length ≤ maxLen ∧ RowT W A ts ∧ Stps W ts := by
  obtain ⟨fuel, hf⟩ := h
  rcases Go.Deep.open_slice Try.underlying22 hf with ⟨hcs, _⟩ | ⟨a, len, cap, m, k, D, Pl, hcs, hb, hl, hm, hmm, _, hx⟩
  · simp [Value.cells] at hcs
    obtain ⟨rfl, rfl, rfl⟩ := hcs
    exact ⟨[], rfl, Nat.zero_le _, RowT.nil _ _, fun q hq => absurd hq List.not_mem_nil⟩
  · simp [Value.cells] at hcs
    obtain ⟨rfl, rfl, rfl⟩ := hcs
    have hnm : n ≤ m := by rw [hmm]; split <;> omega
    have each : ∀ i, i < m → ∃ q : Stp, (W.cell? (a.add (i * 2)) = some (.int .i64 q.what) ∧ W.cell? (a.add (i * 2 + 1)) = some (.slice q.A q.l.length q.c)) ∧ S2.RowC W q.A q.l ∧ q.l.length ≤ maxLen ∧ (q.A = none → q.c = 0) := by
      intro i hi
      obtain ⟨cs', h1, h2⟩ := hx i hi
      rw [step_cells] at h1
      obtain ⟨_, hlen, hcell⟩ := World.cells?_some h1
      obtain ⟨xs, k2, hk, hxy, _, hxl, hfl⟩ := DataW.trod_struct Try.underlying30 h2
      match cs', hlen with
      | [v0, v1], _ =>
        have g0 := hfl 0 _ rfl
        have g1 := hfl 1 _ rfl
        have e0 := hcell 0 (by omega)
        have e1 := hcell 1 (by omega)
        rw [Go.Deep.add_add] at e0 e1
        simp [int_cells, claims_cells] at g0 g1 e0 e1
        match xs, hxl with
        | [y0, y1], _ =>
          simp at g0 g1
          obtain ⟨z0, q0, _, _⟩ := DataW.trod_int Try.underlying3 g0
          obtain ⟨B, len1, c1, l1, q1, rfl, hm1, hr1, hn1⟩ := claims_of_trod g1
          simp only [List.cons.injEq, and_true] at q0 q1
          subst q0 q1
          exact ⟨⟨z0, B, c1, l1⟩, ⟨e0, e1⟩, hr1, hm1, hn1⟩
    haveI : Inhabited Stp := ⟨⟨0, none, 0, []⟩⟩
    obtain ⟨q, hq⟩ := Go.Deep.choose_lt each
    refine ⟨(List.range n).map q, by simp, by simp; omega, fun hne => ?_, fun z hz => ?_⟩
    · have hn : 0 < n := by
        rcases Nat.eq_zero_or_pos n with h0 | h0
        · subst h0; simp at hne
        · exact h0
      obtain ⟨b, off, spot⟩ := a
      have c0 := (hq 0 (by omega)).1.1
      have hspot : spot = none := by simpa [Addr.add] using World.cell?_spot c0
      subst hspot
      have hbl : b < W.heap.size := by
        have := World.block_lt_of_cell? _ _ c0
        simpa [Addr.add] using this
      refine ⟨b, off, rfl, hbl, fun i hi' => ?_⟩
      have hin : i < n := by simpa using hi'
      obtain ⟨g0, g1⟩ := (hq i (by omega)).1
      rw [add_plain13] at g0 g1
      simp only [List.getElem_map, List.getElem_range]
      exact ⟨g0, by rw [Nat.add_assoc]; exact g1⟩
    · obtain ⟨i, hi, rfl⟩ := List.mem_map.1 hz
      exact (hq i (by have := List.mem_range.1 hi; omega)).2
end
end Go.Proofs.Ytphojcnehgdbmaa

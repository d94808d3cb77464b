/- What every row of layer 4 shares: a rule among the arguments opened to what the walks ask. -/
import Derived.Test.YtocnobgdlgndjaaGreatRows
import Derived.Test.YtocnobgdlgndjaaGreatBW5
import Derived.ProofKit
import Derived.SizedLaws
import Derived.Lib.RowBridge
import Derived.Lib.SmallJoins
import Derived.Deep.SlicePairs
import Derived.OpenShut
import Derived.Carry
namespace Go.Proofs.YtocnobgdlgndjaaGreat
open Go.ChangeShapes Go.WideShapes Go.ChangeAt Go.RowKit Go.Joins Rul

theorem own : ownKnob Tryz.prog.godebug = none := by kernel_rfl
theorem laidOut : laidOutB Tryz.prog = true := by kernel_rfl
theorem day_cells : Tryz.prog.cellsOf 83 = 2 := by kernel_rfl
theorem int_cells : Tryz.prog.cellsOf 3 = 1 := by kernel_rfl
theorem ints_cells : Tryz.prog.cellsOf 24 = 1 := by kernel_rfl
theorem days_cells : Tryz.prog.cellsOf 25 = 1 := by kernel_rfl
theorem rule_cells : Tryz.prog.cellsOf 27 = 7 := by kernel_rfl
theorem array7 {α : Type} {cs : Array α} (h : cs.size = 7) : ∃ c0 c1 c2 c3 c4 c5 c6, cs = #[c0, c1, c2, c3, c4, c5, c6] := by
  obtain ⟨l⟩ := cs
  match l, h with
  | [c0, c1, c2, c3, c4, c5, c6], _ => exact ⟨c0, c1, c2, c3, c4, c5, c6, rfl⟩
theorem add_flat (b off k : Nat) : (⟨b, off, none⟩ : Addr).add k = ⟨b, off + k, none⟩ := by simp [Addr.add]
section
variable {H : Type} {enc : TypeId × Value → H}
theorem open_days {W : World} {cs : List Value} {base fuel : Nat} {sp : Nat → Bool} {hd : Bool} {y : DataW H × List MemPlace} (hf : DataW.trod enc Tryz.prog W base sp hd fuel 25 cs = some y) :
    ∃ (A : Option Addr) (n c : Nat) (l : List Wd), cs = [.slice A n c] ∧ n = l.length ∧ l.length ≤ maxLen ∧ RowD W A l := by
  rcases Go.Deep.open_slice_pairs Tryz.underlying25 Tryz.underlying83 day_cells rfl rfl int_cells int_cells hf with ⟨hcs, _⟩ | ⟨a, len, cap, m, k, V0, V1, D0, D1, P0, P1, hcs, _, hl, hm, hmm, _, hi⟩
  · exact ⟨none, 0, 0, [], hcs, rfl, Nat.zero_le _, RowD.nil _ _⟩
  · have hnm : len ≤ m := by rw [hmm]; split <;> omega
    refine ⟨some a, len, cap, (List.range len).map fun i => (intOf (V0 i), intOf (V1 i)), hcs, by simp, by simp; omega, fun hne => ?_⟩
    have hn : 0 < len := by
      rcases Nat.eq_zero_or_pos len with h0 | h0
      · subst h0; simp at hne
      · exact h0
    obtain ⟨b, off, spot⟩ := a
    have c0 := (hi 0 (by omega)).1
    have hspot : spot = none := by simpa [Addr.add] using World.cell?_spot c0
    subst hspot
    have hb : b < W.heap.size := by
      have := World.block_lt_of_cell? _ _ c0
      simpa [Addr.add] using this
    refine ⟨b, off, rfl, hb, fun i hi' => ?_⟩
    have hin : i < len := by simpa using hi'
    obtain ⟨g0, g1, t0, t1⟩ := hi i (by omega)
    obtain ⟨z0, e0, _, _⟩ := DataW.trod_int Tryz.underlying3 t0
    obtain ⟨z1, e1, _, _⟩ := DataW.trod_int Tryz.underlying3 t1
    simp only [List.cons.injEq, and_true] at e0 e1
    rw [add_flat] at g0 g1
    rw [g0, Nat.add_assoc, g1, e0, e1]
    simp [e0, e1, intOf]
theorem open_nums {W : World} {cs : List Value} {base fuel : Nat} {sp : Nat → Bool} {hd : Bool} {y : DataW H × List MemPlace} (hf : DataW.trod enc Tryz.prog W base sp hd fuel 24 cs = some y) :
    ∃ (A : Option Addr) (n c : Nat) (l : List Int), cs = [.slice A n c] ∧ n = l.length ∧ l.length ≤ maxLen ∧ RowI W A l := by
  rcases open_ints Tryz.underlying24 Tryz.underlying3 int_cells hf with ⟨hcs, _⟩ | ⟨a, len, cap, zs, hcs, _, hl, hm, hzl, _, hi, _⟩
  · exact ⟨none, 0, 0, [], hcs, rfl, Nat.zero_le _, RowI.nil _ _⟩
  · have hnm : len ≤ zs.length := by rw [hzl]; split <;> omega
    refine ⟨some a, len, cap, zs.take len, hcs, by simp; omega, by simp; omega, fun hne => ?_⟩
    have hn : 0 < len := by
      rcases Nat.eq_zero_or_pos len with h0 | h0
      · subst h0; simp at hne
      · exact h0
    obtain ⟨b, off, spot⟩ := a
    have c0 := hi 0 (by omega)
    have hspot : spot = none := by simpa [Addr.add] using World.cell?_spot c0
    subst hspot
    have hb : b < W.heap.size := by
      have := World.block_lt_of_cell? _ _ c0
      simpa [Addr.add] using this
    refine ⟨b, off, rfl, hb, fun i hi' => ?_⟩
    have hin : i < len := by simp at hi'; omega
    have g := hi i (by omega)
    rw [add_flat] at g
    rw [g, List.getElem_take, getD_at 0 zs i (by omega)]
set_option maxRecDepth 100000 in
theorem open_rule {r : Reach} {b0 : Nat} {W : World} {v : Value} {base : Nat} {sp : Nat → Bool} {hd : Bool} {d : DataW H} {p : List MemPlace} (hv : Value.okWide Tryz.prog W r b0 27 v) (h : DataW.Trod enc Tryz.prog W base sp hd 27 v d p) :
    ∃ (fr ev ct un : Int) (D M Y : Option Addr) (dn dc mn mc yn yc : Nat) (ds : List Wd) (ms ys : List Int), v = .agg #[.int .i64 fr, .int .i64 ev, .int .i64 ct, .int .i64 un, .slice D dn dc, .slice M mn mc, .slice Y yn yc] ∧
      (dn = ds.length ∧ ds.length ≤ maxLen ∧ RowD W D ds) ∧ (mn = ms.length ∧ ms.length ≤ maxLen ∧ RowI W M ms) ∧ (yn = ys.length ∧ ys.length ≤ maxLen ∧ RowI W Y ys) := by
  obtain ⟨cs, rfl, hsz⟩ := okWide_struct Tryz.underlying27 hv
  obtain ⟨v0, v1, v2, v3, v4, v5, v6, rfl⟩ := array7 (hsz.trans rule_cells)
  obtain ⟨fuel, hf⟩ := h
  obtain ⟨xs, n, _, hx, hl, hlen, hfl⟩ := DataW.trod_struct Tryz.underlying27 hf
  have g0 := hfl 0 _ rfl
  have g1 := hfl 1 _ rfl
  have g2 := hfl 2 _ rfl
  have g3 := hfl 3 _ rfl
  have g4 := hfl 4 _ rfl
  have g5 := hfl 5 _ rfl
  have g6 := hfl 6 _ rfl
  match xs, hlen with
  | [y0, y1, y2, y3, y4, y5, y6], _ =>
    simp [int_cells, ints_cells, days_cells, Value.cells] at g0 g1 g2 g3 g4 g5 g6
    obtain ⟨z0, e0, _, _⟩ := DataW.trod_int Tryz.underlying3 g0
    obtain ⟨z1, e1, _, _⟩ := DataW.trod_int Tryz.underlying3 g1
    obtain ⟨z2, e2, _, _⟩ := DataW.trod_int Tryz.underlying3 g2
    obtain ⟨z3, e3, _, _⟩ := DataW.trod_int Tryz.underlying3 g3
    obtain ⟨D, dn, dc, ds, e4, k4⟩ := open_days g4
    obtain ⟨M, mn, mc, ms, e5, k5⟩ := open_nums g5
    obtain ⟨Y, yn, yc, ys, e6, k6⟩ := open_nums g6
    simp only [List.cons.injEq, and_true] at e0 e1 e2 e3 e4 e5 e6
    subst e0 e1 e2 e3 e4 e5 e6
    exact ⟨z0, z1, z2, z3, D, M, Y, dn, dc, mn, mc, yn, yc, ds, ms, ys, rfl, k4, k5, k6⟩
end

end Go.Proofs.YtocnobgdlgndjaaGreat

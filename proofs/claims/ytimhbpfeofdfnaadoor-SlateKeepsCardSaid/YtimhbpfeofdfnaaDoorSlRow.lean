/- What the rows of layer 16 share: texts, rows of texts, rows of steps among the arguments opened; from the world's shape to what the walks ask; a world that meets the condition. Written by recipes/sl7.py. -/
import Derived.Test.YtimhbpfeofdfnaaDoorRows
import Derived.Test.YtimhbpfeofdfnaaDoorSlZ
import Derived.Test.YtimhbpfeofdfnaaDoorSlY
import Derived.Deep.SlicePairs
import Derived.Deep.Slices
import Derived.ProofKit
import Derived.SizedLaws
import Derived.Lib.RowBridge
import Derived.Lib.SmallJoins
import Derived.OpenShut
import Derived.Carry
import Derived.SliceStrings
import Derived.LaidMore
import Derived.Lay
import Derived.Lib.LaidTab
import Derived.Stop.LaidErr
import Derived.Stop.Joined
import Derived.Handed
import Derived.Shelf.Vars
namespace Go.Proofs.YtimhbpfeofdfnaaDoor
open Go.ChangeShapes Go.WideShapes Go.ChangeAt Go.RowKit Go.Joins Sl

theorem own : ownKnob Tryd.prog.godebug = none := by kernel_rfl
theorem laidOut : laidOutB Tryd.prog = true := by kernel_rfl
theorem add_flat8 (b off k : Nat) : (⟨b, off, none⟩ : Addr).add k = ⟨b, off + k, none⟩ := by simp [Addr.add]
theorem string_cells : Tryd.prog.cellsOf 9 = 1 := by kernel_rfl
theorem int_cells : Tryd.prog.cellsOf 3 = 1 := by kernel_rfl
theorem texts_cells : Tryd.prog.cellsOf 30 = 1 := by kernel_rfl
theorem step_cells : Tryd.prog.cellsOf 32 = 3 := by kernel_rfl
section
variable {H : Type} {enc : TypeId × Value → H}
theorem texts_of_trod {W : World} {cs : List Value} {base fuel : Nat} {sp : Nat → Bool} {hd : Bool} {y : DataW H × List MemPlace} (hf : DataW.trod enc Tryd.prog W base sp hd fuel 30 cs = some y) :
    ∃ (A : Option Addr) (n c : Nat) (l : List Tx), cs = [.slice A n c] ∧ n = l.length ∧ l.length ≤ maxLen ∧ RowS W A l := by
  rcases Go.ChangeShapes.open_strings Tryd.underlying30 Tryd.underlying9 string_cells hf with ⟨hcs, _⟩ | ⟨a, len, cap, ss, hcs, _, hl, hm, hz, _, hcell, _⟩
  · exact ⟨none, 0, 0, [], hcs, rfl, Nat.zero_le _, RowS.nil _ _⟩
  · have hnm : len ≤ ss.length := by rw [hz]; split <;> omega
    refine ⟨some a, len, cap, (ss.take len).map (·.data.toList), hcs, by simp; omega, by simp; omega, fun hne => ?_⟩
    have hn : 0 < len := by
      rcases Nat.eq_zero_or_pos len with h0 | h0
      · subst h0; simp at hne
      · exact h0
    obtain ⟨b, off, spot⟩ := a
    have c0 := hcell 0 (by omega)
    have hspot : spot = none := by simpa [Addr.add] using World.cell?_spot c0
    subst hspot
    have hb : b < W.heap.size := by
      have := World.block_lt_of_cell? _ _ c0
      simpa [Addr.add] using this
    refine ⟨b, off, rfl, hb, fun i hi' => ?_⟩
    have hin : i < len := by simp at hi'; omega
    have g := hcell i (by omega)
    rw [add_flat8] at g
    rw [g, List.getElem_map, List.getElem_take, data_str]
    congr 2
    simp [List.getD_eq_getElem?_getD, List.getElem?_eq_getElem (show i < ss.length by omega)]
theorem open_texts {W : World} {A : Option Addr} {n c base : Nat} {sp : Nat → Bool} {hd : Bool} {d : DataW H} {p : List MemPlace} (h : DataW.Trod enc Tryd.prog W base sp hd 30 (.slice A n c) d p) :
    ∃ l : List Tx, n = l.length ∧ l.length ≤ maxLen ∧ RowS W A l := by
  obtain ⟨fuel, hf⟩ := h
  obtain ⟨A', n', c', l, hcs, k⟩ := texts_of_trod hf
  simp [Value.cells] at hcs
  obtain ⟨rfl, rfl, rfl⟩ := hcs
  exact ⟨l, k⟩
set_option maxRecDepth 10000 in
theorem open_steps {W : World} {A : Option Addr} {n c base : Nat} {sp : Nat → Bool} {hd : Bool} {d : DataW H} {p : List MemPlace} (h : DataW.Trod enc Tryd.prog W base sp hd 22 (.slice A n c) d p) :
    ∃ ts : List Stp, n = ts.length ∧ ts.length ≤ maxLen ∧ RowT W A ts ∧ Stps W ts := by
  obtain ⟨fuel, hf⟩ := h
  rcases Go.Deep.open_slice Tryd.underlying22 hf with ⟨hcs, _⟩ | ⟨a, len, cap, m, k, D, Pl, hcs, hb, hl, hm, hmm, _, hx⟩
  · simp [Value.cells] at hcs
    obtain ⟨rfl, rfl, rfl⟩ := hcs
    exact ⟨[], rfl, Nat.zero_le _, RowT.nil _ _, fun q hq => absurd hq List.not_mem_nil⟩
  · simp [Value.cells] at hcs
    obtain ⟨rfl, rfl, rfl⟩ := hcs
    have hnm : n ≤ m := by rw [hmm]; split <;> omega
    have each : ∀ i, i < m → ∃ q : Stp, (W.cell? (a.add (i * 3)) = some (.int .i64 q.what) ∧ W.cell? (a.add (i * 3 + 1)) = some (.int .i64 q.n) ∧ W.cell? (a.add (i * 3 + 2)) = some (.slice q.A q.l.length q.c)) ∧ RowS W q.A q.l ∧ q.l.length ≤ maxLen ∧ q.n ≤ 9223372036854775807 := by
      intro i hi
      obtain ⟨cs', h1, h2⟩ := hx i hi
      rw [step_cells] at h1
      obtain ⟨_, hlen, hcell⟩ := World.cells?_some h1
      obtain ⟨xs, k2, hk, hxy, _, hxl, hfl⟩ := DataW.trod_struct Tryd.underlying32 h2
      match cs', hlen with
      | [v0, v1, v2], _ =>
        have g0 := hfl 0 _ rfl
        have g1 := hfl 1 _ rfl
        have g2 := hfl 2 _ rfl
        have e0 := hcell 0 (by omega)
        have e1 := hcell 1 (by omega)
        have e2 := hcell 2 (by omega)
        rw [Go.Deep.add_add] at e0 e1 e2
        simp [int_cells, texts_cells] at g0 g1 g2 e0 e1 e2
        match xs, hxl with
        | [y0, y1, y2], _ =>
          simp at g0 g1 g2
          obtain ⟨z0, q0, _, _⟩ := DataW.trod_int Tryd.underlying3 g0
          obtain ⟨z1, q1, _, hw1⟩ := DataW.trod_int Tryd.underlying3 g1
          obtain ⟨B, len1, c1, l1, q2, rfl, hm1, hr1⟩ := texts_of_trod g2
          simp only [List.cons.injEq, and_true] at q0 q1 q2
          subst q0 q1 q2
          exact ⟨⟨z0, z1, B, c1, l1⟩, ⟨e0, e1, e2⟩, hr1, hm1, (bounds_i64 hw1).2⟩
    haveI : Inhabited Stp := ⟨⟨0, 0, none, 0, []⟩⟩
    obtain ⟨q, hq⟩ := Go.Deep.choose_lt each
    refine ⟨(List.range n).map q, by simp, by simp; omega, fun hne => ?_, fun z hz => ?_⟩
    · have hn : 0 < n := by
        rcases Nat.eq_zero_or_pos n with h0 | h0
        · subst h0; simp at hne
        · exact h0
      obtain ⟨b, off, spot⟩ := a
      have c0 := (hq 0 (by omega)).1.1
      have hspot : spot = none := by simpa [Addr.add] using World.cell?_spot c0
      subst hspot
      have hbl : b < W.heap.size := by
        have := World.block_lt_of_cell? _ _ c0
        simpa [Addr.add] using this
      refine ⟨b, off, rfl, hbl, fun i hi' => ?_⟩
      have hin : i < n := by simpa using hi'
      obtain ⟨g0, g1, g2⟩ := (hq i (by omega)).1
      rw [add_flat8] at g0 g1 g2
      simp only [List.getElem_map, List.getElem_range]
      exact ⟨g0, by rw [Nat.add_assoc]; exact g1, by rw [Nat.add_assoc]; exact g2⟩
    · obtain ⟨i, hi, rfl⟩ := List.mem_map.1 hz
      exact (hq i (by have := List.mem_range.1 hi; omega)).2
end

/-- the tables that the rows list. -/
def tabs : List (String × DataW Unit) := Rows.slatePlaysRow.laid
theorem env_of {W : World} (hs : W.ShapedOpen Tryd.prog) : Env W :=
  ⟨cell_of_shapedOpen_int (zero := #[.int .i64 0]) (t := 3) hs (of_decide_eq_true (by kernel_rfl)) (by kernel_rfl) rfl (by kernel_rfl) (by kernel_rfl) Tryd.underlying3⟩
theorem door_met (os : Os) (args : Array Value) : laidMetH Tryd.prog tabs ((World.laidAll Tryd.prog os tabs).forCall (fun _ _ => 0) ⟨#[], args, []⟩).memory := by
  rw [MakeChecks.laidMetH_plain _ _ _ (by kernel_rfl)]
  exact laidMet_laidAll _ (by kernel_rfl) (by kernel_rfl)
/-- a row whose contract asks of the listed tables and of the world's shape. -/
theorem returns_laid {H : Type} {enc : TypeId × Value → H} {a : Assume} {C : Checked} {os : Os} {f : FuncId} {fn : Func} {s : ChangeSpec} {apart fresh handsOn again : Bool} {laid : List (String × DataW Unit)}
    (own : ownKnob C.prog.godebug = none) (started : os.Started) (noInit : C.prog.inits.idxOf? f = none) (hfn : C.prog.funcs[f]? = some fn)
    (witness : ∃ (w : World) (tape : Tape) (i : Input), w.os = os ∧ (w.forCall tape i).Shaped C.prog ∧ i.vars = [] ∧ Input.okWide C.prog (w.forCall tape i) .any w.heap.size f i ∧
      ((s.pre enc C.prog fn [] apart (w.forCall tape i).memory i.args ∧ laidMetH C.prog laid (w.forCall tape i).memory) ∧ sizedMet enc C.prog fn (OpenSpec.ofChange s) apart (w.forCall tape i).memory i.args) ∧ a.holds C.prog (lone (Frame.enter C.prog f i.args .normal) [] (w.forCall tape i)))
    (contract : ∀ (W : World) (base : Nat) (args : Array Value) (ds gs : List (DataW H)) (before : List MemPlace),
      (∀ (j : Nat) t v, fn.params[j]? = some t → args[j]? = some v → Value.okWide C.prog W .any base t v) →
      DataW.Whole enc C.prog fn.params.toList s.vars apart W args.toList ds gs before → laidMetH C.prog laid W → W.ShapedOpen C.prog →
      Calls C.prog f args W fun e W' => ∃ v, e = .returned v ∧ s.post enc C.prog fn apart fresh handsOn again W args v W') :
    ReturnsInHanded a C os f .any (fun w args => (s.pre enc C.prog fn [] apart w args ∧ laidMetH C.prog laid w) ∧ sizedMet enc C.prog fn (OpenSpec.ofChange s) apart w args) (s.post enc C.prog fn apart fresh handsOn again) := by
  refine returnsInHanded_of_calls own started noInit witness ?_
  intro w tape i _ hsh _ hok hpre _
  obtain ⟨_, _, _, fn', hfn', _, _, _, _, hval⟩ := hok
  obtain rfl : fn' = fn := Option.some.inj (hfn'.symm.trans hfn)
  obtain ⟨⟨⟨ds, gs, before, hw, _⟩, hx⟩, _⟩ := hpre
  have hx' : laidMetH C.prog laid (w.forCall tape i).memory := hx
  refine (contract (w.forCall tape i) w.heap.size i.args ds gs before hval (DataW.Whole.of_heap (w' := w.forCall tape i) (by rfl) hw) (laidMetH.of_heap (w' := w.forCall tape i) (by rfl) hx') hsh).mono fun e W' ⟨v, he, hp⟩ => ?_
  subst he
  exact ChangeSpec.post_blind hp

theorem exact_all (x : ByteArray) (k : Int) (y : ByteArray) (w : World) (he : Env w) (h0 : 0 ≤ k) (h1 : k ≤ 255) : Calls Tryd.prog 5 #[.string x, .int .u8 k, .string y] w (Ans w (.bool true)) := by
  rw [str_of x, str_of y]; exact exact_any _ k _ w he ⟨h0, h1⟩
theorem keeps_all (A : Option Addr) (na ca : Nat) (a : List Tx) (B : Option Addr) (nb cb : Nat) (b : List Tx) (n : Int) (w : World) (he : Env w) (ha : RowS w A a) (hna : na = a.length) (hma : a.length ≤ maxLen) (hb : RowS w B b) (hnb : nb = b.length) (hmb : b.length ≤ maxLen) (h0 : 0 ≤ n) (h1 : n ≤ 255) :
    Calls Tryd.prog 4 #[.slice A na ca, .slice B nb cb, .int .u8 n] w (Ans w (.bool true)) := keeps_any A na ca a B nb cb b n w he ha hna hb hnb ⟨h0, h1⟩ hma hmb
theorem plays_all (x : ByteArray) (A : Option Addr) (n c : Nat) (ts : List Stp) (w : World) (he : Env w) (hr : RowT w A ts ∧ Stps w ts) (hn : n = ts.length) (hm : ts.length ≤ maxLen) :
    Calls Tryd.prog 3 #[.string x, .slice A n c] w (Ans w (.bool true)) := by
  rw [str_of x]; exact plays_any _ A n c ts w he hr.1 hr.2 hn hm
end Go.Proofs.YtimhbpfeofdfnaaDoor

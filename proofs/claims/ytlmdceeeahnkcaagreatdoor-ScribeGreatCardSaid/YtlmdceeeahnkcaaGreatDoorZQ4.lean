/- RuRow; ScG; DeRow of the recipes, what is needed of them. -/
import Derived.Test.YtlmdceeeahnkcaaGreatDoorRows
import Derived.Test.YtlmdceeeahnkcaaGreatDoorBW5
import Derived.ProofKit
import Derived.SizedLaws
import Derived.Lib.RowBridge
import Derived.Lib.SmallJoins
import Derived.Deep.SlicePairs
import Derived.OpenShut
import Derived.Carry
import Derived.Deep.Slices
import Derived.ChangeSame
import Derived.Test.YtlmdceeeahnkcaaGreatDoorZQ3
namespace Go.Proofs.YtlmdceeeahnkcaaGreatDoor
open Go.ChangeShapes Go.WideShapes Go.ChangeAt Go.RowKit Go.Joins Rul

theorem own : ownKnob Tryz.prog.godebug = none := by kernel_rfl
theorem laidOut : laidOutB Tryz.prog = true := by kernel_rfl
theorem day_cells : Tryz.prog.cellsOf 108 = 2 := by kernel_rfl
theorem int_cells : Tryz.prog.cellsOf 3 = 1 := by kernel_rfl
theorem ints_cells : Tryz.prog.cellsOf 24 = 1 := by kernel_rfl
theorem days_cells : Tryz.prog.cellsOf 25 = 1 := by kernel_rfl
theorem rule_cells : Tryz.prog.cellsOf 27 = 7 := by kernel_rfl
theorem add_flat (b off k : Nat) : (⟨b, off, none⟩ : Addr).add k = ⟨b, off + k, none⟩ := by simp [Addr.add]
section
variable {H : Type} {enc : TypeId × Value → H}
theorem open_days {W : World} {cs : List Value} {base fuel : Nat} {sp : Nat → Bool} {hd : Bool} {y : DataW H × List MemPlace} (hf : DataW.trod enc Tryz.prog W base sp hd fuel 25 cs = some y) :
    ∃ (A : Option Addr) (n c : Nat) (l : List Wd), cs = [.slice A n c] ∧ n = l.length ∧ l.length ≤ maxLen ∧ RowD W A l := by
  rcases Go.Deep.open_slice_pairs Tryz.underlying25 Tryz.underlying108 day_cells rfl rfl int_cells int_cells hf with ⟨hcs, _⟩ | ⟨a, len, cap, m, k, V0, V1, D0, D1, P0, P1, hcs, _, hl, hm, hmm, _, hi⟩
  · exact ⟨none, 0, 0, [], hcs, rfl, Nat.zero_le _, RowD.nil _ _⟩
  · have hnm : len ≤ m := by rw [hmm]; split <;> omega
    refine ⟨some a, len, cap, (List.range len).map fun i => (intOf (V0 i), intOf (V1 i)), hcs, by simp, by simp; omega, fun hne => ?_⟩
    have hn : 0 < len := by
      rcases Nat.eq_zero_or_pos len with h0 | h0
      · subst h0; simp at hne
      · exact h0
    obtain ⟨b, off, spot⟩ := a
    have c0 := (hi 0 (by omega)).1
    have hspot : spot = none := by simpa [Addr.add] using World.cell?_spot c0
    subst hspot
    have hb : b < W.heap.size := by
      have := World.block_lt_of_cell? _ _ c0
      simpa [Addr.add] using this
    refine ⟨b, off, rfl, hb, fun i hi' => ?_⟩
    have hin : i < len := by simpa using hi'
    obtain ⟨g0, g1, t0, t1⟩ := hi i (by omega)
    obtain ⟨z0, e0, _, _⟩ := DataW.trod_int Tryz.underlying3 t0
    obtain ⟨z1, e1, _, _⟩ := DataW.trod_int Tryz.underlying3 t1
    simp only [List.cons.injEq, and_true] at e0 e1
    rw [add_flat] at g0 g1
    rw [g0, Nat.add_assoc, g1, e0, e1]
    simp [e0, e1, intOf]
theorem open_nums {W : World} {cs : List Value} {base fuel : Nat} {sp : Nat → Bool} {hd : Bool} {y : DataW H × List MemPlace} (hf : DataW.trod enc Tryz.prog W base sp hd fuel 24 cs = some y) :
    ∃ (A : Option Addr) (n c : Nat) (l : List Int), cs = [.slice A n c] ∧ n = l.length ∧ l.length ≤ maxLen ∧ RowI W A l := by
  rcases open_ints Tryz.underlying24 Tryz.underlying3 int_cells hf with ⟨hcs, _⟩ | ⟨a, len, cap, zs, hcs, _, hl, hm, hzl, _, hi, _⟩
  · exact ⟨none, 0, 0, [], hcs, rfl, Nat.zero_le _, RowI.nil _ _⟩
  · have hnm : len ≤ zs.length := by rw [hzl]; split <;> omega
    refine ⟨some a, len, cap, zs.take len, hcs, by simp; omega, by simp; omega, fun hne => ?_⟩
    have hn : 0 < len := by
      rcases Nat.eq_zero_or_pos len with h0 | h0
      · subst h0; simp at hne
      · exact h0
    obtain ⟨b, off, spot⟩ := a
    have c0 := hi 0 (by omega)
    have hspot : spot = none := by simpa [Addr.add] using World.cell?_spot c0
    subst hspot
    have hb : b < W.heap.size := by
      have := World.block_lt_of_cell? _ _ c0
      simpa [Addr.add] using this
    refine ⟨b, off, rfl, hb, fun i hi' => ?_⟩
    have hin : i < len := by simp at hi'; omega
    have g := hi i (by omega)
    rw [add_flat] at g
    rw [g, List.getElem_take, getD_at 0 zs i (by omega)]
end

end Go.Proofs.YtlmdceeeahnkcaaGreatDoor
namespace Go.Proofs.YtlmdceeeahnkcaaGreatDoor
open Go.RowKit Rul De Cl Go.Sort

/-- a block that may be written. -/
theorem box_cells (w : World) (t : TypeId) (x0 x1 x2 x3 x4 x5 x6 : Value) {X : Nat} (hX : w.heap.size = X) :
    let W := w.alloc (.cells #[x0, x1, x2, x3, x4, x5, x6] t)
    W.cell? ⟨X, 0, none⟩ = some x0 ∧ W.cell? ⟨X, 1, none⟩ = some x1 ∧ W.cell? ⟨X, 2, none⟩ = some x2 ∧ W.cell? ⟨X, 3, none⟩ = some x3 ∧ W.cell? ⟨X, 4, none⟩ = some x4 ∧ W.cell? ⟨X, 5, none⟩ = some x5 ∧ W.cell? ⟨X, 6, none⟩ = some x6 := by
  subst hX
  refine ⟨?_, ?_, ?_, ?_, ?_, ?_, ?_⟩
  all_goals (rw [World.cell?_alloc_at _ _ _ _ rfl]; rfl)
structure BlkAt (w : World) (b : Nat) (vs : List Value) : Prop where
  cell : ∀ i (h : i < vs.length), w.cell? ⟨b, i, none⟩ = some vs[i]
  free : ∀ i, w.frozen? ⟨b, i, none⟩ = false
  lt : b < w.heap.size
theorem blk_new (w : World) (vs : Array Value) (t : TypeId) : BlkAt (w.alloc (.cells vs t)) w.heap.size vs.toList :=
  ⟨fun i h => cell_new w vs t i _ (by rw [Array.length_toList] at h; rw [Array.getElem?_eq_getElem h]; simp), fun i => World.frozen?_alloc_at _ _ _ _ rfl, by simp⟩

/-- few elements in each list. -/
theorem few14_any (fr ev ct un : Int) (D M Y : Option Addr) (dn dc mn mc yn yc : Nat) (w : World) :
    Calls Tryz.prog 29 #[.agg #[.int .i64 fr, .int .i64 ev, .int .i64 ct, .int .i64 un, .slice D dn dc, .slice M mn mc, .slice Y yn yc]] w (Ans w (.bool (decide (dn ≤ 20) && decide (mn ≤ 20) && decide (yn ≤ 20)))) := by
  have q := box_cells w 27 (.int .i64 fr) (.int .i64 ev) (.int .i64 ct) (.int .i64 un) (.slice D dn dc) (.slice M mn mc) (.slice Y yn yc) rfl
  have HB := hide (more (start w) (.cells #[.int .i64 fr, .int .i64 ev, .int .i64 ct, .int .i64 un, .slice D dn dc, .slice M mn mc, .slice Y yn yc] 27))
  obtain ⟨q0, q1, q2, q3, q4, q5, q6⟩ := q
  clear q0 q1 q2 q3
  by_cases h0 : dn ≤ 20
  · by_cases h1 : mn ≤ 20
    · by_cases h2 : yn ≤ 20
      · rw [decide_eq_true h0, decide_eq_true h1, decide_eq_true h2]
        have i0 : (dn : Int) ≤ 20 := by omega
        have i1 : (mn : Int) ≤ 20 := by omega
        have i2 : (yn : Int) ≤ 20 := by omega
        go_enter Tryz.func29, Tryz.ntmps29
        go_wp2_with fail
        go_ret
        exact ⟨rfl, HB.out⟩
      · rw [decide_eq_true h0, decide_eq_true h1, decide_eq_false h2]
        have i0 : (dn : Int) ≤ 20 := by omega
        have i1 : (mn : Int) ≤ 20 := by omega
        have i2 : ¬ (yn : Int) ≤ 20 := by omega
        go_enter Tryz.func29, Tryz.ntmps29
        go_wp2_with fail
        go_ret
        exact ⟨rfl, HB.out⟩
    · rw [decide_eq_true h0, decide_eq_false h1]
      have i0 : (dn : Int) ≤ 20 := by omega
      have i1 : ¬ (mn : Int) ≤ 20 := by omega
      go_enter Tryz.func29, Tryz.ntmps29
      go_wp2_with fail
      go_ret
      exact ⟨rfl, HB.out⟩
  · rw [decide_eq_false h0]
    have i0 : ¬ (dn : Int) ≤ 20 := by omega
    go_enter Tryz.func29, Tryz.ntmps29
    go_wp2_with fail
    go_ret
    exact ⟨rfl, HB.out⟩

/-- few of all that an event has. -/
def fewEB (dn mn yn us ts on xn : Nat) : Bool := (decide (dn ≤ 20) && decide (mn ≤ 20) && decide (yn ≤ 20)) && decide (us ≤ 30) && decide (ts ≤ 60) && decide (on ≤ 10) && decide (xn ≤ 20)
theorem fewEB_iff (dn mn yn us ts on xn : Nat) : fewEB dn mn yn us ts on xn = true ↔ dn ≤ 20 ∧ mn ≤ 20 ∧ yn ≤ 20 ∧ us ≤ 30 ∧ ts ≤ 60 ∧ on ≤ 10 ∧ xn ≤ 20 := by simp [fewEB, and_assoc]
set_option maxRecDepth 100000 in
set_option maxHeartbeats 2000000 in
theorem fewE_any (U T : ByteArray) (s l : Int) (O : Option Addr) (on oc : Nat) (fr ev ct un : Int) (D M Y X : Option Addr) (dn dc mn mc yn yc xn xc : Nat) (w : World) :
    Calls Tryz.prog 14 #[.agg #[.string U, .string T, .int .i64 s, .int .i64 l, .slice O on oc, .int .i64 fr, .int .i64 ev, .int .i64 ct, .int .i64 un, .slice D dn dc, .slice M mn mc, .slice Y yn yc, .slice X xn xc]] w (Ans w (.bool (fewEB dn mn yn U.size T.size on xn))) := by
  have hk := blk_new w #[.string U, .string T, .int .i64 s, .int .i64 l, .slice O on oc, .int .i64 fr, .int .i64 ev, .int .i64 ct, .int .i64 un, .slice D dn dc, .slice M mn mc, .slice Y yn yc, .slice X xn xc] 29
  have HB := hide (more (start w) (.cells #[.string U, .string T, .int .i64 s, .int .i64 l, .slice O on oc, .int .i64 fr, .int .i64 ev, .int .i64 ct, .int .i64 un, .slice D dn dc, .slice M mn mc, .slice Y yn yc, .slice X xn xc] 29))
  have s0 := hk.cell 0 (by simp)
  have s1 := hk.cell 1 (by simp)
  have s4 := hk.cell 4 (by simp)
  have s5 := hk.cell 5 (by simp)
  have s6 := hk.cell 6 (by simp)
  have s7 := hk.cell 7 (by simp)
  have s8 := hk.cell 8 (by simp)
  have s9 := hk.cell 9 (by simp)
  have s10 := hk.cell 10 (by simp)
  have s11 := hk.cell 11 (by simp)
  have s12 := hk.cell 12 (by simp)
  simp only [List.getElem_cons_zero, List.getElem_cons_succ] at s0 s1 s4 s5 s6 s7 s8 s9 s10 s11 s12
  clear hk
  obtain ⟨b, hb⟩ : ∃ b, (decide (dn ≤ 20) && decide (mn ≤ 20) && decide (yn ≤ 20)) = b := ⟨_, rfl⟩
  have HFB := hide hb
  cases b
  · have HV := hide (show fewEB dn mn yn U.size T.size on xn = false from by unfold fewEB; rw [hb]; rfl)
    clear hb
    go_enter Tryz.func14, Tryz.ntmps14
    go_wp2_with fail
    refine (ans_is (few14_any fr ev ct un D M Y dn dc mn mc yn yc _) HFB.out).mono ?_
    rintro e w1 ⟨rfl, hb1⟩
    replace HB := hide (andthen HB.out hb1)
    replace s0 := cell_keep hb1 s0
    replace s1 := cell_keep hb1 s1
    replace s4 := cell_keep hb1 s4
    replace s12 := cell_keep hb1 s12
    clear s5 s6 s7 s8 s9 s10 s11 hb1
    go_wp2_with fail
    go_ret
    rw [HV.out]
    first | exact ⟨rfl, HB.out⟩ | exact ⟨ret_bool (decide_eq_true (by omega)), HB.out⟩ | exact ⟨ret_bool (decide_eq_false (by omega)), HB.out⟩
  · by_cases g0 : U.size ≤ 30
    · by_cases g1 : T.size ≤ 60
      · by_cases g2 : on ≤ 10
        · by_cases g3 : xn ≤ 20
          · have i0 : (U.size : Int) ≤ 30 := by omega
            have i1 : (T.size : Int) ≤ 60 := by omega
            have i2 : (on : Int) ≤ 10 := by omega
            have i3 : (xn : Int) ≤ 20 := by omega
            have HV := hide (show fewEB dn mn yn U.size T.size on xn = true from by unfold fewEB; rw [hb, decide_eq_true g0, decide_eq_true g1, decide_eq_true g2, decide_eq_true g3]; rfl)
            clear hb
            go_enter Tryz.func14, Tryz.ntmps14
            go_wp2_with fail
            refine (ans_is (few14_any fr ev ct un D M Y dn dc mn mc yn yc _) HFB.out).mono ?_
            rintro e w1 ⟨rfl, hb1⟩
            replace HB := hide (andthen HB.out hb1)
            replace s0 := cell_keep hb1 s0
            replace s1 := cell_keep hb1 s1
            replace s4 := cell_keep hb1 s4
            replace s12 := cell_keep hb1 s12
            clear s5 s6 s7 s8 s9 s10 s11 hb1
            go_wp2_with fail
            go_ret
            rw [HV.out]
            first | exact ⟨rfl, HB.out⟩ | exact ⟨ret_bool (decide_eq_true (by omega)), HB.out⟩ | exact ⟨ret_bool (decide_eq_false (by omega)), HB.out⟩
          · have i0 : (U.size : Int) ≤ 30 := by omega
            have i1 : (T.size : Int) ≤ 60 := by omega
            have i2 : (on : Int) ≤ 10 := by omega
            have i3 : ¬ (xn : Int) ≤ 20 := by omega
            have HV := hide (show fewEB dn mn yn U.size T.size on xn = false from by unfold fewEB; rw [hb, decide_eq_true g0, decide_eq_true g1, decide_eq_true g2, decide_eq_false g3]; rfl)
            clear hb
            go_enter Tryz.func14, Tryz.ntmps14
            go_wp2_with fail
            refine (ans_is (few14_any fr ev ct un D M Y dn dc mn mc yn yc _) HFB.out).mono ?_
            rintro e w1 ⟨rfl, hb1⟩
            replace HB := hide (andthen HB.out hb1)
            replace s0 := cell_keep hb1 s0
            replace s1 := cell_keep hb1 s1
            replace s4 := cell_keep hb1 s4
            replace s12 := cell_keep hb1 s12
            clear s5 s6 s7 s8 s9 s10 s11 hb1
            go_wp2_with fail
            go_ret
            rw [HV.out]
            first | exact ⟨rfl, HB.out⟩ | exact ⟨ret_bool (decide_eq_true (by omega)), HB.out⟩ | exact ⟨ret_bool (decide_eq_false (by omega)), HB.out⟩
        · have i0 : (U.size : Int) ≤ 30 := by omega
          have i1 : (T.size : Int) ≤ 60 := by omega
          have i2 : ¬ (on : Int) ≤ 10 := by omega
          have HV := hide (show fewEB dn mn yn U.size T.size on xn = false from by unfold fewEB; rw [hb, decide_eq_true g0, decide_eq_true g1, decide_eq_false g2]; rfl)
          clear hb
          go_enter Tryz.func14, Tryz.ntmps14
          go_wp2_with fail
          refine (ans_is (few14_any fr ev ct un D M Y dn dc mn mc yn yc _) HFB.out).mono ?_
          rintro e w1 ⟨rfl, hb1⟩
          replace HB := hide (andthen HB.out hb1)
          replace s0 := cell_keep hb1 s0
          replace s1 := cell_keep hb1 s1
          replace s4 := cell_keep hb1 s4
          replace s12 := cell_keep hb1 s12
          clear s5 s6 s7 s8 s9 s10 s11 hb1
          go_wp2_with fail
          go_ret
          rw [HV.out]
          first | exact ⟨rfl, HB.out⟩ | exact ⟨ret_bool (decide_eq_true (by omega)), HB.out⟩ | exact ⟨ret_bool (decide_eq_false (by omega)), HB.out⟩
      · have i0 : (U.size : Int) ≤ 30 := by omega
        have i1 : ¬ (T.size : Int) ≤ 60 := by omega
        have HV := hide (show fewEB dn mn yn U.size T.size on xn = false from by unfold fewEB; rw [hb, decide_eq_true g0, decide_eq_false g1]; rfl)
        clear hb
        go_enter Tryz.func14, Tryz.ntmps14
        go_wp2_with fail
        refine (ans_is (few14_any fr ev ct un D M Y dn dc mn mc yn yc _) HFB.out).mono ?_
        rintro e w1 ⟨rfl, hb1⟩
        replace HB := hide (andthen HB.out hb1)
        replace s0 := cell_keep hb1 s0
        replace s1 := cell_keep hb1 s1
        replace s4 := cell_keep hb1 s4
        replace s12 := cell_keep hb1 s12
        clear s5 s6 s7 s8 s9 s10 s11 hb1
        go_wp2_with fail
        go_ret
        rw [HV.out]
        first | exact ⟨rfl, HB.out⟩ | exact ⟨ret_bool (decide_eq_true (by omega)), HB.out⟩ | exact ⟨ret_bool (decide_eq_false (by omega)), HB.out⟩
    · have i0 : ¬ (U.size : Int) ≤ 30 := by omega
      have HV := hide (show fewEB dn mn yn U.size T.size on xn = false from by unfold fewEB; rw [hb, decide_eq_false g0]; rfl)
      clear hb
      go_enter Tryz.func14, Tryz.ntmps14
      go_wp2_with fail
      refine (ans_is (few14_any fr ev ct un D M Y dn dc mn mc yn yc _) HFB.out).mono ?_
      rintro e w1 ⟨rfl, hb1⟩
      replace HB := hide (andthen HB.out hb1)
      replace s0 := cell_keep hb1 s0
      replace s1 := cell_keep hb1 s1
      replace s4 := cell_keep hb1 s4
      replace s12 := cell_keep hb1 s12
      clear s5 s6 s7 s8 s9 s10 s11 hb1
      go_wp2_with fail
      go_ret
      rw [HV.out]
      first | exact ⟨rfl, HB.out⟩ | exact ⟨ret_bool (decide_eq_true (by omega)), HB.out⟩ | exact ⟨ret_bool (decide_eq_false (by omega)), HB.out⟩

/-- few of all that an event has. -/
def fewV (e : Ev.E) : Bool := fewEB e.r.ds.length e.r.ms.length e.r.ys.length (str e.uid).size (str e.text).size e.rooms.length e.ex.length
def fewD (d : D) : Bool := fewV d.e && (fewV d.b.e && decide (d.cl.length ≤ 200))
theorem fewV_c (e : Ev.E) (m : Mem) (b : Bool) (w : World) (hb : fewV e = b) : Calls Tryz.prog 14 #[.agg (evC e m).toArray] w (Ans w (.bool b)) :=
  hb ▸ fewE_any (str e.uid) (str e.text) e.st e.lg m.O e.rooms.length m.oc e.r.fr e.r.ev e.r.ct e.r.un m.D m.M m.Y m.X e.r.ds.length m.dc e.r.ms.length m.mc e.r.ys.length m.yc e.ex.length m.xc w
set_option maxRecDepth 100000 in
set_option maxHeartbeats 4000000 in
theorem fewD_c (d : D) (m : DM) (b : Bool) (w : World) (hb : fewD d = b) : Calls Tryz.prog 9 #[.agg (dC d m).toArray] w (Ans w (.bool b)) := by
  subst hb
  have key : ∀ (z0 z1 : Bool), fewV d.e = z0 → fewV d.b.e = z1 → Calls Tryz.prog 9 #[.agg (dC d m).toArray] w (Ans w (.bool (z0 && (z1 && decide (d.cl.length ≤ 200))))) := by
    intro z0 z1 h0 h1
    have HB := hide (more (start w) (.cells (dC d m).toArray 34))
    have R0 := range_new w (dC d m) 34
    have S0 := dAt_of R0
    have a3 := range_cell R0 16 16 _ rfl rfl
    have E0 := hide S0.ev
    have E1 := hide (range_end (pre := [.int .i64 d.b.id.1, .int .i64 d.b.id.2, .int .i64 d.b.st]) S0.bk 22 rfl)
    have C0 := hide h0
    have C1 := hide h1
    clear R0 S0 h0 h1
    obtain ⟨kd, ⟨i, j⟩, e, cl, pe, nn, ⟨⟨i2, j2⟩, st, e2⟩⟩ := d
    dsimp only at *
    have HD : decide (cl.length ≤ 200) = decide ((cl.length : Int) ≤ 200) := by
      by_cases h : cl.length ≤ 200
      · rw [decide_eq_true h, decide_eq_true (by omega)]
      · rw [decide_eq_false h, decide_eq_false (by omega)]
    rw [HD]
    clear HD
    go_enter Tryz.func9, Tryz.ntmps9
    go_wp2_with (refine load_event rfl _ rfl _ _ rfl _ E0.out rfl ?_)
    refine (fewV_c e _ _ _ C0.out).mono ?_
    rintro q w1 ⟨rfl, hb⟩
    replace HB := hide (andthen HB.out hb)
    replace E1 := hide (range_keep E1.out hb)
    replace a3 := cell_keepA hb a3
    clear hb
    cases z0
    · go_wp2_with fail
      go_ret
      exact ⟨rfl, HB.out⟩
    go_wp2_with (refine load_event rfl _ rfl _ _ rfl _ E1.out rfl ?_)
    refine (fewV_c e2 _ _ _ C1.out).mono ?_
    rintro q w2 ⟨rfl, hb⟩
    replace HB := hide (andthen HB.out hb)
    replace a3 := cell_keepA hb a3
    clear hb
    cases z1
    · go_wp2_with fail
      go_ret
      exact ⟨rfl, HB.out⟩
    go_wp2_with fail
    go_ret
    exact ⟨ret_bool (by rw [Bool.true_and, Bool.true_and]), HB.out⟩
  exact key _ _ rfl rfl

/-- an event's lists in memory, however long. -/
structure EvO (w : World) (e : Ev.E) (m : Mem) : Prop where
  ro : RowI w m.O e.rooms
  rd : RowD w m.D e.r.ds
  rm : RowI w m.M e.r.ms
  ry : RowI w m.Y e.r.ys
  rx : RowI w m.X e.ex
theorem EvO.keep {w w' : World} {e : Ev.E} {m : Mem} (h : EvO w e m) (hb : Below w.heap.size w w') : EvO w' e m := ⟨h.ro.keep hb, h.rd.keep hb, h.rm.keep hb, h.ry.keep hb, h.rx.keep hb⟩
theorem EvO.few {w : World} {e : Ev.E} {m : Mem} (h : EvO w e m) (hf : fewV e = true) : EvL w e m := by
  obtain ⟨h1, h2, h3, h4, h5, h6, h7⟩ := (fewEB_iff _ _ _ _ _ _ _).1 hf
  rw [str_size] at h4 h5
  exact ⟨h.ro, by omega, ⟨h.rd, rfl, by omega, h.rm, rfl, by omega, h.ry, rfl, by omega⟩, h.rx, by omega, by omega, by omega⟩
/-- a deed's. -/
structure DO (w : World) (d : D) (m : DM) : Prop where
  e : EvO w d.e m.e
  c : S2.RowC w m.A d.cl
  cz : m.A = none → m.c = 0
  b : EvO w d.b.e m.b
theorem DO.keep {w w1 : World} {d : D} {m : DM} (h : DO w d m) (hb : Below w.heap.size w w1) : DO w1 d m := ⟨h.e.keep hb, h.c.keep hb, h.cz, h.b.keep hb⟩
theorem DO.few {w : World} {d : D} {m : DM} (h : DO w d m) (hf : fewD d = true) : DL w d m := by
  unfold fewD at hf
  simp only [Bool.and_eq_true, decide_eq_true_eq] at hf
  exact ⟨h.e.few hf.1, h.c, by omega, h.b.few hf.2.1⟩
end Go.Proofs.YtlmdceeeahnkcaaGreatDoor
namespace Go.Proofs.YtlmdceeeahnkcaaGreatDoor
open Go.ChangeShapes Go.WideShapes Go.ChangeAt Go.RowKit Go.Joins Rul De

theorem string_cells : Tryz.prog.cellsOf 9 = 1 := by kernel_rfl
theorem event_cells : Tryz.prog.cellsOf 29 = 13 := by kernel_rfl
theorem span_cells : Tryz.prog.cellsOf 50 = 2 := by kernel_rfl
theorem claim_cells : Tryz.prog.cellsOf 52 = 3 := by kernel_rfl
theorem claims_cells : Tryz.prog.cellsOf 30 = 1 := by kernel_rfl
theorem id_cells : Tryz.prog.cellsOf 23 = 2 := by kernel_rfl
theorem book_cells : Tryz.prog.cellsOf 32 = 16 := by kernel_rfl
theorem deed_cells : Tryz.prog.cellsOf 34 = 35 := by kernel_rfl
theorem data_strD (U : ByteArray) : str U.data.toList = U := by
  unfold str; cases U; simp
theorem cons_of {α : Type} {l : List α} {n : Nat} (h : l.length = n + 1) : ∃ a t, l = a :: t ∧ t.length = n := by
  cases l with
  | nil => simp at h
  | cons a t => exact ⟨a, t, rfl, by simpa using h⟩
set_option maxRecDepth 100000 in
theorem array35 {α : Type} {cs : Array α} (h : cs.size = 35) : ∃ cell0 cell1 cell2 cell3 cell4 cell5 cell6 cell7 cell8 cell9 cell10 cell11 cell12 cell13 cell14 cell15 cell16 cell17 cell18 cell19 cell20 cell21 cell22 cell23 cell24 cell25 cell26 cell27 cell28 cell29 cell30 cell31 cell32 cell33 cell34, cs = #[cell0, cell1, cell2, cell3, cell4, cell5, cell6, cell7, cell8, cell9, cell10, cell11, cell12, cell13, cell14, cell15, cell16, cell17, cell18, cell19, cell20, cell21, cell22, cell23, cell24, cell25, cell26, cell27, cell28, cell29, cell30, cell31, cell32, cell33, cell34] := by
  obtain ⟨l⟩ := cs
  have h0 : l.length = 35 := h
  clear h
  obtain ⟨cell0, l0, rfl, h1⟩ := cons_of h0
  clear h0
  obtain ⟨cell1, l1, rfl, h2⟩ := cons_of h1
  clear h1
  obtain ⟨cell2, l2, rfl, h3⟩ := cons_of h2
  clear h2
  obtain ⟨cell3, l3, rfl, h4⟩ := cons_of h3
  clear h3
  obtain ⟨cell4, l4, rfl, h5⟩ := cons_of h4
  clear h4
  obtain ⟨cell5, l5, rfl, h6⟩ := cons_of h5
  clear h5
  obtain ⟨cell6, l6, rfl, h7⟩ := cons_of h6
  clear h6
  obtain ⟨cell7, l7, rfl, h8⟩ := cons_of h7
  clear h7
  obtain ⟨cell8, l8, rfl, h9⟩ := cons_of h8
  clear h8
  obtain ⟨cell9, l9, rfl, h10⟩ := cons_of h9
  clear h9
  obtain ⟨cell10, l10, rfl, h11⟩ := cons_of h10
  clear h10
  obtain ⟨cell11, l11, rfl, h12⟩ := cons_of h11
  clear h11
  obtain ⟨cell12, l12, rfl, h13⟩ := cons_of h12
  clear h12
  obtain ⟨cell13, l13, rfl, h14⟩ := cons_of h13
  clear h13
  obtain ⟨cell14, l14, rfl, h15⟩ := cons_of h14
  clear h14
  obtain ⟨cell15, l15, rfl, h16⟩ := cons_of h15
  clear h15
  obtain ⟨cell16, l16, rfl, h17⟩ := cons_of h16
  clear h16
  obtain ⟨cell17, l17, rfl, h18⟩ := cons_of h17
  clear h17
  obtain ⟨cell18, l18, rfl, h19⟩ := cons_of h18
  clear h18
  obtain ⟨cell19, l19, rfl, h20⟩ := cons_of h19
  clear h19
  obtain ⟨cell20, l20, rfl, h21⟩ := cons_of h20
  clear h20
  obtain ⟨cell21, l21, rfl, h22⟩ := cons_of h21
  clear h21
  obtain ⟨cell22, l22, rfl, h23⟩ := cons_of h22
  clear h22
  obtain ⟨cell23, l23, rfl, h24⟩ := cons_of h23
  clear h23
  obtain ⟨cell24, l24, rfl, h25⟩ := cons_of h24
  clear h24
  obtain ⟨cell25, l25, rfl, h26⟩ := cons_of h25
  clear h25
  obtain ⟨cell26, l26, rfl, h27⟩ := cons_of h26
  clear h26
  obtain ⟨cell27, l27, rfl, h28⟩ := cons_of h27
  clear h27
  obtain ⟨cell28, l28, rfl, h29⟩ := cons_of h28
  clear h28
  obtain ⟨cell29, l29, rfl, h30⟩ := cons_of h29
  clear h29
  obtain ⟨cell30, l30, rfl, h31⟩ := cons_of h30
  clear h30
  obtain ⟨cell31, l31, rfl, h32⟩ := cons_of h31
  clear h31
  obtain ⟨cell32, l32, rfl, h33⟩ := cons_of h32
  clear h32
  obtain ⟨cell33, l33, rfl, h34⟩ := cons_of h33
  clear h33
  obtain ⟨cell34, l34, rfl, h35⟩ := cons_of h34
  clear h34
  obtain rfl := List.length_eq_zero_iff.1 h35
  exact ⟨cell0, cell1, cell2, cell3, cell4, cell5, cell6, cell7, cell8, cell9, cell10, cell11, cell12, cell13, cell14, cell15, cell16, cell17, cell18, cell19, cell20, cell21, cell22, cell23, cell24, cell25, cell26, cell27, cell28, cell29, cell30, cell31, cell32, cell33, cell34, rfl⟩
section
variable {H : Type} {enc : TypeId × Value → H}
set_option maxRecDepth 10000 in
theorem claims_of_trod {W : World} {cs : List Value} {base fuel : Nat} {sp : Nat → Bool} {hd : Bool} {y : DataW H × List MemPlace} (hf : DataW.trod enc Tryz.prog W base sp hd fuel 30 cs = some y) :
    ∃ (A : Option Addr) (n c : Nat) (l : List Cl.C), cs = [.slice A n c] ∧ n = l.length ∧ l.length ≤ maxLen ∧ S2.RowC W A l ∧ (A = none → c = 0) := by
  rcases Go.Deep.open_slice Tryz.underlying30 hf with ⟨hcs, _⟩ | ⟨a, len, cap, m, k, D, Pl, hcs, hb, hl, hm, hmm, _, hx⟩
  · exact ⟨none, 0, 0, [], hcs, rfl, Nat.zero_le _, fun h0 => absurd rfl h0, fun _ => rfl⟩
  · have hnm : len ≤ m := by rw [hmm]; split <;> omega
    have each : ∀ i, i < m → ∃ q : Int × Int × Int, W.cell? (a.add (i * 3)) = some (.int .i64 q.1) ∧ W.cell? (a.add (i * 3 + 1)) = some (.int .i64 q.2.1) ∧ W.cell? (a.add (i * 3 + 2)) = some (.int .i64 q.2.2) := by
      intro i hi
      obtain ⟨cs', h1, h2⟩ := hx i hi
      rw [claim_cells] at h1
      obtain ⟨_, hlen, hcell⟩ := World.cells?_some h1
      obtain ⟨xs, k2, hk, hxy, _, hxl, hfl⟩ := DataW.trod_struct Tryz.underlying52 h2
      match cs', hlen with
      | [v0, v1, v2], _ =>
        have g0 := hfl 0 _ rfl
        have g1 := hfl 1 _ rfl
        have e0 := hcell 0 (by omega)
        have e1 := hcell 1 (by omega)
        have e2 := hcell 2 (by omega)
        rw [Go.Deep.add_add] at e0 e1 e2
        simp [int_cells, span_cells] at g0 g1 e0 e1 e2
        match xs, hxl with
        | [y0, y1], _ =>
          simp at g0 g1
          obtain ⟨z0, q0, _, _⟩ := DataW.trod_int Tryz.underlying3 g0
          obtain ⟨xs2, k3, hk3, hxy2, _, hxl2, hfl2⟩ := DataW.trod_struct Tryz.underlying50 g1
          have g2 := hfl2 0 _ rfl
          have g3 := hfl2 1 _ rfl
          match xs2, hxl2 with
          | [y2, y3], _ =>
            simp [int_cells] at g2 g3
            obtain ⟨z1, q1, _, _⟩ := DataW.trod_int Tryz.underlying3 g2
            obtain ⟨z2, q2, _, _⟩ := DataW.trod_int Tryz.underlying3 g3
            simp only [List.cons.injEq, and_true] at q0 q1 q2
            subst q0 q1 q2
            exact ⟨(z0, z1, z2), e0, e1, e2⟩
    obtain ⟨q, hq⟩ := Go.Deep.choose_lt each
    refine ⟨some a, len, cap, (List.range len).map q, hcs, by simp, by simp; omega, fun hne => ?_, fun h => by cases h⟩
    have hn : 0 < len := by
      rcases Nat.eq_zero_or_pos len with h0 | h0
      · subst h0; simp at hne
      · exact h0
    obtain ⟨b, off, spot⟩ := a
    have c0 := (hq 0 (by omega)).1
    have hspot : spot = none := by simpa [Addr.add] using World.cell?_spot c0
    subst hspot
    have hbl : b < W.heap.size := by
      have := World.block_lt_of_cell? _ _ c0
      simpa [Addr.add] using this
    refine ⟨b, off, rfl, hbl, fun i hi' => ?_⟩
    have hin : i < len := by simpa using hi'
    obtain ⟨g0, g1, g2⟩ := hq i (by omega)
    rw [add_flat] at g0 g1 g2
    simp only [List.getElem_map, List.getElem_range]
    exact ⟨g0, by rw [Nat.add_assoc]; exact g1, by rw [Nat.add_assoc]; exact g2⟩
set_option maxRecDepth 100000 in
theorem rule_of_trod {W : World} {v0 v1 v2 v3 v4 v5 v6 : Value} {base fuel : Nat} {sp : Nat → Bool} {hd : Bool} {y : DataW H × List MemPlace} (hf : DataW.trod enc Tryz.prog W base sp hd fuel 27 [v0, v1, v2, v3, v4, v5, v6] = some y) :
    ∃ (fr ev ct un : Int) (D M Y : Option Addr) (dn dc mn mc yn yc : Nat) (ds : List Wd) (ms ys : List Int), (v0 = .int .i64 fr ∧ v1 = .int .i64 ev ∧ v2 = .int .i64 ct ∧ v3 = .int .i64 un ∧ v4 = .slice D dn dc ∧ v5 = .slice M mn mc ∧ v6 = .slice Y yn yc) ∧
      (dn = ds.length ∧ ds.length ≤ maxLen ∧ RowD W D ds) ∧ (mn = ms.length ∧ ms.length ≤ maxLen ∧ RowI W M ms) ∧ (yn = ys.length ∧ ys.length ≤ maxLen ∧ RowI W Y ys) := by
  obtain ⟨xs, n, _, hx, hl, hlen, hfl⟩ := DataW.trod_struct Tryz.underlying27 hf
  have g0 := hfl 0 _ rfl
  have g1 := hfl 1 _ rfl
  have g2 := hfl 2 _ rfl
  have g3 := hfl 3 _ rfl
  have g4 := hfl 4 _ rfl
  have g5 := hfl 5 _ rfl
  have g6 := hfl 6 _ rfl
  match xs, hlen with
  | [y0, y1, y2, y3, y4, y5, y6], _ =>
    simp [int_cells, ints_cells, days_cells] at g0 g1 g2 g3 g4 g5 g6
    obtain ⟨z0, e0, _, _⟩ := DataW.trod_int Tryz.underlying3 g0
    obtain ⟨z1, e1, _, _⟩ := DataW.trod_int Tryz.underlying3 g1
    obtain ⟨z2, e2, _, _⟩ := DataW.trod_int Tryz.underlying3 g2
    obtain ⟨z3, e3, _, _⟩ := DataW.trod_int Tryz.underlying3 g3
    obtain ⟨D, dn, dc, ds, e4, k4⟩ := open_days g4
    obtain ⟨M, mn, mc, ms, e5, k5⟩ := open_nums g5
    obtain ⟨Y, yn, yc, ys, e6, k6⟩ := open_nums g6
    simp only [List.cons.injEq, and_true] at e0 e1 e2 e3 e4 e5 e6
    exact ⟨z0, z1, z2, z3, D, M, Y, dn, dc, mn, mc, yn, yc, ds, ms, ys, ⟨e0, e1, e2, e3, e4, e5, e6⟩, k4, k5, k6⟩
theorem id_of_trod {W : World} {base fuel : Nat} {sp : Nat → Bool} {hd : Bool} {y : DataW H × List MemPlace} {v0 v1 : Value} (hf : DataW.trod enc Tryz.prog W base sp hd fuel 23 [v0, v1] = some y) : ∃ i : Nm, [v0, v1] = [.int .i64 i.1, .int .i64 i.2] := by
  obtain ⟨xs, n, _, hx, hl, hlen, hfl⟩ := DataW.trod_struct Tryz.underlying23 hf
  have g0 := hfl 0 _ rfl
  have g1 := hfl 1 _ rfl
  match xs, hlen with
  | [y0, y1], _ =>
    simp [int_cells] at g0 g1
    obtain ⟨z0, e0, _, _⟩ := DataW.trod_int Tryz.underlying3 g0
    obtain ⟨z1, e1, _, _⟩ := DataW.trod_int Tryz.underlying3 g1
    simp only [List.cons.injEq, and_true] at e0 e1
    exact ⟨(z0, z1), by rw [e0, e1]⟩
set_option maxRecDepth 100000 in
theorem event_of_trod {W : World} {base fuel : Nat} {sp : Nat → Bool} {hd : Bool} {y : DataW H × List MemPlace} {v0 v1 v2 v3 v4 v5 v6 v7 v8 v9 v10 v11 v12 : Value} (hf : DataW.trod enc Tryz.prog W base sp hd fuel 29 [v0, v1, v2, v3, v4, v5, v6, v7, v8, v9, v10, v11, v12] = some y) :
    ∃ (e : Ev.E) (m : Mem), [v0, v1, v2, v3, v4, v5, v6, v7, v8, v9, v10, v11, v12] = evC e m ∧ EvO W e m := by
  obtain ⟨xs, n, _, hx, hl, hlen, hfl⟩ := DataW.trod_struct Tryz.underlying29 hf
  have g0 := hfl 0 _ rfl
  have g1 := hfl 1 _ rfl
  have g2 := hfl 2 _ rfl
  have g3 := hfl 3 _ rfl
  have g4 := hfl 4 _ rfl
  have g5 := hfl 5 _ rfl
  have g6 := hfl 6 _ rfl
  match xs, hlen with
  | [y0, y1, y2, y3, y4, y5, y6], _ =>
    simp [int_cells, ints_cells, string_cells, rule_cells] at g0 g1 g2 g3 g4 g5 g6
    obtain ⟨U, e0, _, hU⟩ := DataW.trod_string Tryz.underlying9 g0
    obtain ⟨T, e1, _, hT⟩ := DataW.trod_string Tryz.underlying9 g1
    obtain ⟨z2, e2, _, _⟩ := DataW.trod_int Tryz.underlying3 g2
    obtain ⟨z3, e3, _, _⟩ := DataW.trod_int Tryz.underlying3 g3
    obtain ⟨O, on, oc, o, e4, k4⟩ := open_nums g4
    obtain ⟨fr, ev, ct, un, D, M, Y, dn, dc, mn, mc, yn, yc, ds, ms, ys, ⟨rfl, rfl, rfl, rfl, rfl, rfl, rfl⟩, k5⟩ := rule_of_trod g5
    obtain ⟨X, xn, xc, x, e6, k6⟩ := open_nums g6
    simp only [List.cons.injEq, and_true] at e0 e1 e2 e3 e4 e6
    subst e0 e1 e2 e3 e4 e6
    obtain ⟨rfl, _, ho⟩ := k4
    obtain ⟨⟨rfl, _, hds⟩, ⟨rfl, _, hms⟩, ⟨rfl, _, hys⟩⟩ := k5
    obtain ⟨rfl, _, hxs⟩ := k6
    refine ⟨⟨U.data.toList, T.data.toList, z2, z3, o, ⟨fr, ev, ct, un, ds, ms, ys⟩, x⟩, ⟨O, oc, D, dc, M, mc, Y, yc, X, xc⟩, ?_, ⟨ho, hds, hms, hys, hxs⟩⟩
    simp only [evC, data_strD]
set_option maxRecDepth 100000 in
theorem book_of_trod {W : World} {base fuel : Nat} {sp : Nat → Bool} {hd : Bool} {y : DataW H × List MemPlace} {v0 v1 v2 v3 v4 v5 v6 v7 v8 v9 v10 v11 v12 v13 v14 v15 : Value} (hf : DataW.trod enc Tryz.prog W base sp hd fuel 32 [v0, v1, v2, v3, v4, v5, v6, v7, v8, v9, v10, v11, v12, v13, v14, v15] = some y) :
    ∃ (b : B) (m : Mem), [v0, v1, v2, v3, v4, v5, v6, v7, v8, v9, v10, v11, v12, v13, v14, v15] = bkC b m ∧ EvO W b.e m := by
  obtain ⟨xs, n, _, hx, hl, hlen, hfl⟩ := DataW.trod_struct Tryz.underlying32 hf
  have g0 := hfl 0 _ rfl
  have g1 := hfl 1 _ rfl
  have g2 := hfl 2 _ rfl
  match xs, hlen with
  | [y0, y1, y2], _ =>
    simp [int_cells, id_cells, event_cells] at g0 g1 g2
    obtain ⟨i, e0⟩ := id_of_trod g0
    obtain ⟨s, e1, _, _⟩ := DataW.trod_int Tryz.underlying3 g1
    obtain ⟨e, m, e2, he⟩ := event_of_trod g2
    simp only [List.cons.injEq, and_true] at e0 e1
    obtain ⟨rfl, rfl⟩ := e0
    subst e1
    refine ⟨⟨i, s, e⟩, m, ?_, he⟩
    unfold bkC
    rw [← e2]
set_option maxRecDepth 100000 in
theorem deed_of_trod {W : World} {base fuel : Nat} {sp : Nat → Bool} {hd : Bool} {y : DataW H × List MemPlace} {v0 v1 v2 v3 v4 v5 v6 v7 v8 v9 v10 v11 v12 v13 v14 v15 v16 v17 v18 v19 v20 v21 v22 v23 v24 v25 v26 v27 v28 v29 v30 v31 v32 v33 v34 : Value} (hf : DataW.trod enc Tryz.prog W base sp hd fuel 34 [v0, v1, v2, v3, v4, v5, v6, v7, v8, v9, v10, v11, v12, v13, v14, v15, v16, v17, v18, v19, v20, v21, v22, v23, v24, v25, v26, v27, v28, v29, v30, v31, v32, v33, v34] = some y) :
    ∃ (d : D) (m : DM), [v0, v1, v2, v3, v4, v5, v6, v7, v8, v9, v10, v11, v12, v13, v14, v15, v16, v17, v18, v19, v20, v21, v22, v23, v24, v25, v26, v27, v28, v29, v30, v31, v32, v33, v34] = dC d m ∧ DO W d m := by
  obtain ⟨xs, n, _, hx, hl, hlen, hfl⟩ := DataW.trod_struct Tryz.underlying34 hf
  have g0 := hfl 0 _ rfl
  have g1 := hfl 1 _ rfl
  have g2 := hfl 2 _ rfl
  have g3 := hfl 3 _ rfl
  have g4 := hfl 4 _ rfl
  have g5 := hfl 5 _ rfl
  have g6 := hfl 6 _ rfl
  match xs, hlen with
  | [y0, y1, y2, y3, y4, y5, y6], _ =>
    simp [int_cells, id_cells, event_cells, claims_cells, book_cells] at g0 g1 g2 g3 g4 g5 g6
    obtain ⟨kd, e0, _, _⟩ := DataW.trod_int Tryz.underlying3 g0
    obtain ⟨i, e1⟩ := id_of_trod g1
    obtain ⟨e, me, e2, he⟩ := event_of_trod g2
    obtain ⟨A, n, c, l, e3, rfl, _, hc, hz⟩ := claims_of_trod g3
    obtain ⟨pe, e4, _, _⟩ := DataW.trod_int Tryz.underlying3 g4
    obtain ⟨nn, e5, _, _⟩ := DataW.trod_int Tryz.underlying3 g5
    obtain ⟨b, mb, e6, hb⟩ := book_of_trod g6
    simp only [List.cons.injEq, and_true] at e0 e1 e3 e4 e5
    obtain ⟨rfl, rfl⟩ := e1
    subst e0 e3 e4 e5
    refine ⟨⟨kd, i, e, l, pe, nn, b⟩, ⟨me, A, c, mb⟩, ?_, ⟨he, hc, hz, hb⟩⟩
    unfold dC
    rw [← e2, ← e6]
    rfl
set_option maxRecDepth 100000 in
theorem open_deed {r : Reach} {b0 : Nat} {W : World} {v : Value} {base : Nat} {sp : Nat → Bool} {hd : Bool} {d : DataW H} {p : List MemPlace} (hv : Value.okWide Tryz.prog W r b0 34 v) (h : DataW.Trod enc Tryz.prog W base sp hd 34 v d p) :
    ∃ (d : D) (m : DM), v = .agg (dC d m).toArray ∧ DO W d m := by
  obtain ⟨cs, rfl, hsz⟩ := okWide_struct Tryz.underlying34 hv
  obtain ⟨v0, v1, v2, v3, v4, v5, v6, v7, v8, v9, v10, v11, v12, v13, v14, v15, v16, v17, v18, v19, v20, v21, v22, v23, v24, v25, v26, v27, v28, v29, v30, v31, v32, v33, v34, rfl⟩ := array35 (hsz.trans deed_cells)
  obtain ⟨fuel, hf⟩ := h
  obtain ⟨d, m, e, hb⟩ := deed_of_trod (v0 := v0) (v1 := v1) (v2 := v2) (v3 := v3) (v4 := v4) (v5 := v5) (v6 := v6) (v7 := v7) (v8 := v8) (v9 := v9) (v10 := v10) (v11 := v11) (v12 := v12) (v13 := v13) (v14 := v14) (v15 := v15) (v16 := v16) (v17 := v17) (v18 := v18) (v19 := v19) (v20 := v20) (v21 := v21) (v22 := v22) (v23 := v23) (v24 := v24) (v25 := v25) (v26 := v26) (v27 := v27) (v28 := v28) (v29 := v29) (v30 := v30) (v31 := v31) (v32 := v32) (v33 := v33) (v34 := v34) hf
  exact ⟨d, m, by rw [← e], hb⟩
end
end Go.Proofs.YtlmdceeeahnkcaaGreatDoor

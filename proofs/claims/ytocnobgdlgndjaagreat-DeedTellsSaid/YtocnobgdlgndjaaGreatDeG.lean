/- What the statements of layer 14 ask first: fewRule, fewEvent, fewDeed. -/
import Derived.Test.YtocnobgdlgndjaaGreatDeE
namespace Go.Proofs.YtocnobgdlgndjaaGreat
open Go.RowKit Rul De Cl Go.Sort

/-- a block that may be written. -/
theorem box_cells (w : World) (t : TypeId) (x0 x1 x2 x3 x4 x5 x6 : Value) {X : Nat} (hX : w.heap.size = X) :
    let W := w.alloc (.cells #[x0, x1, x2, x3, x4, x5, x6] t)
    W.cell? ⟨X, 0, none⟩ = some x0 ∧ W.cell? ⟨X, 1, none⟩ = some x1 ∧ W.cell? ⟨X, 2, none⟩ = some x2 ∧ W.cell? ⟨X, 3, none⟩ = some x3 ∧ W.cell? ⟨X, 4, none⟩ = some x4 ∧ W.cell? ⟨X, 5, none⟩ = some x5 ∧ W.cell? ⟨X, 6, none⟩ = some x6 := by
  subst hX
  refine ⟨?_, ?_, ?_, ?_, ?_, ?_, ?_⟩
  all_goals (rw [World.cell?_alloc_at _ _ _ _ rfl]; rfl)
structure BlkAt (w : World) (b : Nat) (vs : List Value) : Prop where
  cell : ∀ i (h : i < vs.length), w.cell? ⟨b, i, none⟩ = some vs[i]
  free : ∀ i, w.frozen? ⟨b, i, none⟩ = false
  lt : b < w.heap.size
theorem blk_new (w : World) (vs : Array Value) (t : TypeId) : BlkAt (w.alloc (.cells vs t)) w.heap.size vs.toList :=
  ⟨fun i h => cell_new w vs t i _ (by rw [Array.length_toList] at h; rw [Array.getElem?_eq_getElem h]; simp), fun i => World.frozen?_alloc_at _ _ _ _ rfl, by simp⟩

/-- few elements in each list. -/
theorem few14_any (fr ev ct un : Int) (D M Y : Option Addr) (dn dc mn mc yn yc : Nat) (w : World) :
    Calls Tryz.prog 22 #[.agg #[.int .i64 fr, .int .i64 ev, .int .i64 ct, .int .i64 un, .slice D dn dc, .slice M mn mc, .slice Y yn yc]] w (Ans w (.bool (decide (dn ≤ 20) && decide (mn ≤ 20) && decide (yn ≤ 20)))) := by
  have q := box_cells w 27 (.int .i64 fr) (.int .i64 ev) (.int .i64 ct) (.int .i64 un) (.slice D dn dc) (.slice M mn mc) (.slice Y yn yc) rfl
  have HB := hide (more (start w) (.cells #[.int .i64 fr, .int .i64 ev, .int .i64 ct, .int .i64 un, .slice D dn dc, .slice M mn mc, .slice Y yn yc] 27))
  obtain ⟨q0, q1, q2, q3, q4, q5, q6⟩ := q
  clear q0 q1 q2 q3
  by_cases h0 : dn ≤ 20
  · by_cases h1 : mn ≤ 20
    · by_cases h2 : yn ≤ 20
      · rw [decide_eq_true h0, decide_eq_true h1, decide_eq_true h2]
        have i0 : (dn : Int) ≤ 20 := by omega
        have i1 : (mn : Int) ≤ 20 := by omega
        have i2 : (yn : Int) ≤ 20 := by omega
        go_enter Tryz.func22, Tryz.ntmps22
        go_wp2_with fail
        go_ret
        exact ⟨rfl, HB.out⟩
      · rw [decide_eq_true h0, decide_eq_true h1, decide_eq_false h2]
        have i0 : (dn : Int) ≤ 20 := by omega
        have i1 : (mn : Int) ≤ 20 := by omega
        have i2 : ¬ (yn : Int) ≤ 20 := by omega
        go_enter Tryz.func22, Tryz.ntmps22
        go_wp2_with fail
        go_ret
        exact ⟨rfl, HB.out⟩
    · rw [decide_eq_true h0, decide_eq_false h1]
      have i0 : (dn : Int) ≤ 20 := by omega
      have i1 : ¬ (mn : Int) ≤ 20 := by omega
      go_enter Tryz.func22, Tryz.ntmps22
      go_wp2_with fail
      go_ret
      exact ⟨rfl, HB.out⟩
  · rw [decide_eq_false h0]
    have i0 : ¬ (dn : Int) ≤ 20 := by omega
    go_enter Tryz.func22, Tryz.ntmps22
    go_wp2_with fail
    go_ret
    exact ⟨rfl, HB.out⟩

/-- few of all that an event has. -/
def fewEB (dn mn yn us ts on xn : Nat) : Bool := (decide (dn ≤ 20) && decide (mn ≤ 20) && decide (yn ≤ 20)) && decide (us ≤ 30) && decide (ts ≤ 60) && decide (on ≤ 10) && decide (xn ≤ 20)
theorem fewEB_iff (dn mn yn us ts on xn : Nat) : fewEB dn mn yn us ts on xn = true ↔ dn ≤ 20 ∧ mn ≤ 20 ∧ yn ≤ 20 ∧ us ≤ 30 ∧ ts ≤ 60 ∧ on ≤ 10 ∧ xn ≤ 20 := by simp [fewEB, and_assoc]
set_option maxRecDepth 100000 in
set_option maxHeartbeats 2000000 in
theorem fewE_any (U T : ByteArray) (s l : Int) (O : Option Addr) (on oc : Nat) (fr ev ct un : Int) (D M Y X : Option Addr) (dn dc mn mc yn yc xn xc : Nat) (w : World) :
    Calls Tryz.prog 9 #[.agg #[.string U, .string T, .int .i64 s, .int .i64 l, .slice O on oc, .int .i64 fr, .int .i64 ev, .int .i64 ct, .int .i64 un, .slice D dn dc, .slice M mn mc, .slice Y yn yc, .slice X xn xc]] w (Ans w (.bool (fewEB dn mn yn U.size T.size on xn))) := by
  have hk := blk_new w #[.string U, .string T, .int .i64 s, .int .i64 l, .slice O on oc, .int .i64 fr, .int .i64 ev, .int .i64 ct, .int .i64 un, .slice D dn dc, .slice M mn mc, .slice Y yn yc, .slice X xn xc] 29
  have HB := hide (more (start w) (.cells #[.string U, .string T, .int .i64 s, .int .i64 l, .slice O on oc, .int .i64 fr, .int .i64 ev, .int .i64 ct, .int .i64 un, .slice D dn dc, .slice M mn mc, .slice Y yn yc, .slice X xn xc] 29))
  have s0 := hk.cell 0 (by simp)
  have s1 := hk.cell 1 (by simp)
  have s4 := hk.cell 4 (by simp)
  have s5 := hk.cell 5 (by simp)
  have s6 := hk.cell 6 (by simp)
  have s7 := hk.cell 7 (by simp)
  have s8 := hk.cell 8 (by simp)
  have s9 := hk.cell 9 (by simp)
  have s10 := hk.cell 10 (by simp)
  have s11 := hk.cell 11 (by simp)
  have s12 := hk.cell 12 (by simp)
  simp only [List.getElem_cons_zero, List.getElem_cons_succ] at s0 s1 s4 s5 s6 s7 s8 s9 s10 s11 s12
  clear hk
  obtain ⟨b, hb⟩ : ∃ b, (decide (dn ≤ 20) && decide (mn ≤ 20) && decide (yn ≤ 20)) = b := ⟨_, rfl⟩
  have HFB := hide hb
  cases b
  · have HV := hide (show fewEB dn mn yn U.size T.size on xn = false from by unfold fewEB; rw [hb]; rfl)
    clear hb
    go_enter Tryz.func9, Tryz.ntmps9
    go_wp2_with fail
    refine (ans_is (few14_any fr ev ct un D M Y dn dc mn mc yn yc _) HFB.out).mono ?_
    rintro e w1 ⟨rfl, hb1⟩
    replace HB := hide (andthen HB.out hb1)
    replace s0 := cell_keep hb1 s0
    replace s1 := cell_keep hb1 s1
    replace s4 := cell_keep hb1 s4
    replace s12 := cell_keep hb1 s12
    clear s5 s6 s7 s8 s9 s10 s11 hb1
    go_wp2_with fail
    go_ret
    rw [HV.out]
    first | exact ⟨rfl, HB.out⟩ | exact ⟨ret_bool (decide_eq_true (by omega)), HB.out⟩ | exact ⟨ret_bool (decide_eq_false (by omega)), HB.out⟩
  · by_cases g0 : U.size ≤ 30
    · by_cases g1 : T.size ≤ 60
      · by_cases g2 : on ≤ 10
        · by_cases g3 : xn ≤ 20
          · have i0 : (U.size : Int) ≤ 30 := by omega
            have i1 : (T.size : Int) ≤ 60 := by omega
            have i2 : (on : Int) ≤ 10 := by omega
            have i3 : (xn : Int) ≤ 20 := by omega
            have HV := hide (show fewEB dn mn yn U.size T.size on xn = true from by unfold fewEB; rw [hb, decide_eq_true g0, decide_eq_true g1, decide_eq_true g2, decide_eq_true g3]; rfl)
            clear hb
            go_enter Tryz.func9, Tryz.ntmps9
            go_wp2_with fail
            refine (ans_is (few14_any fr ev ct un D M Y dn dc mn mc yn yc _) HFB.out).mono ?_
            rintro e w1 ⟨rfl, hb1⟩
            replace HB := hide (andthen HB.out hb1)
            replace s0 := cell_keep hb1 s0
            replace s1 := cell_keep hb1 s1
            replace s4 := cell_keep hb1 s4
            replace s12 := cell_keep hb1 s12
            clear s5 s6 s7 s8 s9 s10 s11 hb1
            go_wp2_with fail
            go_ret
            rw [HV.out]
            first | exact ⟨rfl, HB.out⟩ | exact ⟨ret_bool (decide_eq_true (by omega)), HB.out⟩ | exact ⟨ret_bool (decide_eq_false (by omega)), HB.out⟩
          · have i0 : (U.size : Int) ≤ 30 := by omega
            have i1 : (T.size : Int) ≤ 60 := by omega
            have i2 : (on : Int) ≤ 10 := by omega
            have i3 : ¬ (xn : Int) ≤ 20 := by omega
            have HV := hide (show fewEB dn mn yn U.size T.size on xn = false from by unfold fewEB; rw [hb, decide_eq_true g0, decide_eq_true g1, decide_eq_true g2, decide_eq_false g3]; rfl)
            clear hb
            go_enter Tryz.func9, Tryz.ntmps9
            go_wp2_with fail
            refine (ans_is (few14_any fr ev ct un D M Y dn dc mn mc yn yc _) HFB.out).mono ?_
            rintro e w1 ⟨rfl, hb1⟩
            replace HB := hide (andthen HB.out hb1)
            replace s0 := cell_keep hb1 s0
            replace s1 := cell_keep hb1 s1
            replace s4 := cell_keep hb1 s4
            replace s12 := cell_keep hb1 s12
            clear s5 s6 s7 s8 s9 s10 s11 hb1
            go_wp2_with fail
            go_ret
            rw [HV.out]
            first | exact ⟨rfl, HB.out⟩ | exact ⟨ret_bool (decide_eq_true (by omega)), HB.out⟩ | exact ⟨ret_bool (decide_eq_false (by omega)), HB.out⟩
        · have i0 : (U.size : Int) ≤ 30 := by omega
          have i1 : (T.size : Int) ≤ 60 := by omega
          have i2 : ¬ (on : Int) ≤ 10 := by omega
          have HV := hide (show fewEB dn mn yn U.size T.size on xn = false from by unfold fewEB; rw [hb, decide_eq_true g0, decide_eq_true g1, decide_eq_false g2]; rfl)
          clear hb
          go_enter Tryz.func9, Tryz.ntmps9
          go_wp2_with fail
          refine (ans_is (few14_any fr ev ct un D M Y dn dc mn mc yn yc _) HFB.out).mono ?_
          rintro e w1 ⟨rfl, hb1⟩
          replace HB := hide (andthen HB.out hb1)
          replace s0 := cell_keep hb1 s0
          replace s1 := cell_keep hb1 s1
          replace s4 := cell_keep hb1 s4
          replace s12 := cell_keep hb1 s12
          clear s5 s6 s7 s8 s9 s10 s11 hb1
          go_wp2_with fail
          go_ret
          rw [HV.out]
          first | exact ⟨rfl, HB.out⟩ | exact ⟨ret_bool (decide_eq_true (by omega)), HB.out⟩ | exact ⟨ret_bool (decide_eq_false (by omega)), HB.out⟩
      · have i0 : (U.size : Int) ≤ 30 := by omega
        have i1 : ¬ (T.size : Int) ≤ 60 := by omega
        have HV := hide (show fewEB dn mn yn U.size T.size on xn = false from by unfold fewEB; rw [hb, decide_eq_true g0, decide_eq_false g1]; rfl)
        clear hb
        go_enter Tryz.func9, Tryz.ntmps9
        go_wp2_with fail
        refine (ans_is (few14_any fr ev ct un D M Y dn dc mn mc yn yc _) HFB.out).mono ?_
        rintro e w1 ⟨rfl, hb1⟩
        replace HB := hide (andthen HB.out hb1)
        replace s0 := cell_keep hb1 s0
        replace s1 := cell_keep hb1 s1
        replace s4 := cell_keep hb1 s4
        replace s12 := cell_keep hb1 s12
        clear s5 s6 s7 s8 s9 s10 s11 hb1
        go_wp2_with fail
        go_ret
        rw [HV.out]
        first | exact ⟨rfl, HB.out⟩ | exact ⟨ret_bool (decide_eq_true (by omega)), HB.out⟩ | exact ⟨ret_bool (decide_eq_false (by omega)), HB.out⟩
    · have i0 : ¬ (U.size : Int) ≤ 30 := by omega
      have HV := hide (show fewEB dn mn yn U.size T.size on xn = false from by unfold fewEB; rw [hb, decide_eq_false g0]; rfl)
      clear hb
      go_enter Tryz.func9, Tryz.ntmps9
      go_wp2_with fail
      refine (ans_is (few14_any fr ev ct un D M Y dn dc mn mc yn yc _) HFB.out).mono ?_
      rintro e w1 ⟨rfl, hb1⟩
      replace HB := hide (andthen HB.out hb1)
      replace s0 := cell_keep hb1 s0
      replace s1 := cell_keep hb1 s1
      replace s4 := cell_keep hb1 s4
      replace s12 := cell_keep hb1 s12
      clear s5 s6 s7 s8 s9 s10 s11 hb1
      go_wp2_with fail
      go_ret
      rw [HV.out]
      first | exact ⟨rfl, HB.out⟩ | exact ⟨ret_bool (decide_eq_true (by omega)), HB.out⟩ | exact ⟨ret_bool (decide_eq_false (by omega)), HB.out⟩


/-- few of all that an event has. -/
def fewV (e : Ev.E) : Bool := fewEB e.r.ds.length e.r.ms.length e.r.ys.length (str e.uid).size (str e.text).size e.rooms.length e.ex.length
def fewD (d : D) : Bool := fewV d.e && (fewV d.b.e && decide (d.cl.length ≤ 200))
theorem fewV_c (e : Ev.E) (m : Mem) (b : Bool) (w : World) (hb : fewV e = b) : Calls Tryz.prog 9 #[.agg (evC e m).toArray] w (Ans w (.bool b)) :=
  hb ▸ fewE_any (str e.uid) (str e.text) e.st e.lg m.O e.rooms.length m.oc e.r.fr e.r.ev e.r.ct e.r.un m.D m.M m.Y m.X e.r.ds.length m.dc e.r.ms.length m.mc e.r.ys.length m.yc e.ex.length m.xc w
set_option maxRecDepth 100000 in
set_option maxHeartbeats 4000000 in
theorem fewD_c (d : D) (m : DM) (b : Bool) (w : World) (hb : fewD d = b) : Calls Tryz.prog 8 #[.agg (dC d m).toArray] w (Ans w (.bool b)) := by
  subst hb
  have key : ∀ (z0 z1 : Bool), fewV d.e = z0 → fewV d.b.e = z1 → Calls Tryz.prog 8 #[.agg (dC d m).toArray] w (Ans w (.bool (z0 && (z1 && decide (d.cl.length ≤ 200))))) := by
    intro z0 z1 h0 h1
    have HB := hide (more (start w) (.cells (dC d m).toArray 34))
    have R0 := range_new w (dC d m) 34
    have S0 := dAt_of R0
    have a3 := range_cell R0 16 16 _ rfl rfl
    have E0 := hide S0.ev
    have E1 := hide (range_end (pre := [.int .i64 d.b.id.1, .int .i64 d.b.id.2, .int .i64 d.b.st]) S0.bk 22 rfl)
    have C0 := hide h0
    have C1 := hide h1
    clear R0 S0 h0 h1
    obtain ⟨kd, ⟨i, j⟩, e, cl, pe, nn, ⟨⟨i2, j2⟩, st, e2⟩⟩ := d
    dsimp only at *
    have HD : decide (cl.length ≤ 200) = decide ((cl.length : Int) ≤ 200) := by
      by_cases h : cl.length ≤ 200
      · rw [decide_eq_true h, decide_eq_true (by omega)]
      · rw [decide_eq_false h, decide_eq_false (by omega)]
    rw [HD]
    clear HD
    go_enter Tryz.func8, Tryz.ntmps8
    go_wp2_with (refine load_event rfl _ rfl _ _ rfl _ E0.out rfl ?_)
    refine (fewV_c e _ _ _ C0.out).mono ?_
    rintro q w1 ⟨rfl, hb⟩
    replace HB := hide (andthen HB.out hb)
    replace E1 := hide (range_keep E1.out hb)
    replace a3 := cell_keepA hb a3
    clear hb
    cases z0
    · go_wp2_with fail
      go_ret
      exact ⟨rfl, HB.out⟩
    go_wp2_with (refine load_event rfl _ rfl _ _ rfl _ E1.out rfl ?_)
    refine (fewV_c e2 _ _ _ C1.out).mono ?_
    rintro q w2 ⟨rfl, hb⟩
    replace HB := hide (andthen HB.out hb)
    replace a3 := cell_keepA hb a3
    clear hb
    cases z1
    · go_wp2_with fail
      go_ret
      exact ⟨rfl, HB.out⟩
    go_wp2_with fail
    go_ret
    exact ⟨ret_bool (by rw [Bool.true_and, Bool.true_and]), HB.out⟩
  exact key _ _ rfl rfl

/-- an event's lists in memory, however long. -/
structure EvO (w : World) (e : Ev.E) (m : Mem) : Prop where
  ro : RowI w m.O e.rooms
  rd : RowD w m.D e.r.ds
  rm : RowI w m.M e.r.ms
  ry : RowI w m.Y e.r.ys
  rx : RowI w m.X e.ex
theorem EvO.keep {w w' : World} {e : Ev.E} {m : Mem} (h : EvO w e m) (hb : Below w.heap.size w w') : EvO w' e m := ⟨h.ro.keep hb, h.rd.keep hb, h.rm.keep hb, h.ry.keep hb, h.rx.keep hb⟩
theorem EvO.few {w : World} {e : Ev.E} {m : Mem} (h : EvO w e m) (hf : fewV e = true) : EvL w e m := by
  obtain ⟨h1, h2, h3, h4, h5, h6, h7⟩ := (fewEB_iff _ _ _ _ _ _ _).1 hf
  rw [str_size] at h4 h5
  exact ⟨h.ro, by omega, ⟨h.rd, rfl, by omega, h.rm, rfl, by omega, h.ry, rfl, by omega⟩, h.rx, by omega, by omega, by omega⟩
/-- a deed's. -/
structure DO (w : World) (d : D) (m : DM) : Prop where
  e : EvO w d.e m.e
  c : S2.RowC w m.A d.cl
  cz : m.A = none → m.c = 0
  b : EvO w d.b.e m.b
theorem DO.keep {w w1 : World} {d : D} {m : DM} (h : DO w d m) (hb : Below w.heap.size w w1) : DO w1 d m := ⟨h.e.keep hb, h.c.keep hb, h.cz, h.b.keep hb⟩
theorem DO.few {w : World} {d : D} {m : DM} (h : DO w d m) (hf : fewD d = true) : DL w d m := by
  unfold fewD at hf
  simp only [Bool.and_eq_true, decide_eq_true_eq] at hf
  exact ⟨h.e.few hf.1, h.c, by omega, h.b.few hf.2.1⟩
end Go.Proofs.YtocnobgdlgndjaaGreat

/- What the rows of layer 14 share: numbers, bookings, deeds among the arguments opened. Written by recipes/de7.py. -/
import Derived.Test.YtocnobgdlgndjaaGreatRuRow2
import Derived.Test.YtocnobgdlgndjaaGreatDeG
import Derived.Deep.Slices
import Derived.ChangeSame
namespace Go.Proofs.YtocnobgdlgndjaaGreat
open Go.ChangeShapes Go.WideShapes Go.ChangeAt Go.RowKit Go.Joins Rul De

theorem string_cells : Tryz.prog.cellsOf 9 = 1 := by kernel_rfl
theorem event_cells : Tryz.prog.cellsOf 29 = 13 := by kernel_rfl
theorem span_cells : Tryz.prog.cellsOf 45 = 2 := by kernel_rfl
theorem claim_cells : Tryz.prog.cellsOf 47 = 3 := by kernel_rfl
theorem claims_cells : Tryz.prog.cellsOf 30 = 1 := by kernel_rfl
theorem id_cells : Tryz.prog.cellsOf 23 = 2 := by kernel_rfl
theorem book_cells : Tryz.prog.cellsOf 32 = 16 := by kernel_rfl
theorem deed_cells : Tryz.prog.cellsOf 34 = 35 := by kernel_rfl
theorem data_strD (U : ByteArray) : str U.data.toList = U := by
  unfold str; cases U; simp
theorem array2 {α : Type} {cs : Array α} (h : cs.size = 2) : ∃ c0 c1, cs = #[c0, c1] := by
  obtain ⟨l⟩ := cs
  match l, h with
  | [a, b], _ => exact ⟨a, b, rfl⟩
theorem cons_of {α : Type} {l : List α} {n : Nat} (h : l.length = n + 1) : ∃ a t, l = a :: t ∧ t.length = n := by
  cases l with
  | nil => simp at h
  | cons a t => exact ⟨a, t, rfl, by simpa using h⟩
set_option maxRecDepth 100000 in
theorem array16 {α : Type} {cs : Array α} (h : cs.size = 16) : ∃ cell0 cell1 cell2 cell3 cell4 cell5 cell6 cell7 cell8 cell9 cell10 cell11 cell12 cell13 cell14 cell15, cs = #[cell0, cell1, cell2, cell3, cell4, cell5, cell6, cell7, cell8, cell9, cell10, cell11, cell12, cell13, cell14, cell15] := by
  obtain ⟨l⟩ := cs
  match l, h with
  | [cell0, cell1, cell2, cell3, cell4, cell5, cell6, cell7, cell8, cell9, cell10, cell11, cell12, cell13, cell14, cell15], _ => exact ⟨cell0, cell1, cell2, cell3, cell4, cell5, cell6, cell7, cell8, cell9, cell10, cell11, cell12, cell13, cell14, cell15, rfl⟩
set_option maxRecDepth 100000 in
theorem array35 {α : Type} {cs : Array α} (h : cs.size = 35) : ∃ cell0 cell1 cell2 cell3 cell4 cell5 cell6 cell7 cell8 cell9 cell10 cell11 cell12 cell13 cell14 cell15 cell16 cell17 cell18 cell19 cell20 cell21 cell22 cell23 cell24 cell25 cell26 cell27 cell28 cell29 cell30 cell31 cell32 cell33 cell34, cs = #[cell0, cell1, cell2, cell3, cell4, cell5, cell6, cell7, cell8, cell9, cell10, cell11, cell12, cell13, cell14, cell15, cell16, cell17, cell18, cell19, cell20, cell21, cell22, cell23, cell24, cell25, cell26, cell27, cell28, cell29, cell30, cell31, cell32, cell33, cell34] := by
  obtain ⟨l⟩ := cs
  have h0 : l.length = 35 := h
  clear h
  obtain ⟨cell0, l0, rfl, h1⟩ := cons_of h0
  clear h0
  obtain ⟨cell1, l1, rfl, h2⟩ := cons_of h1
  clear h1
  obtain ⟨cell2, l2, rfl, h3⟩ := cons_of h2
  clear h2
  obtain ⟨cell3, l3, rfl, h4⟩ := cons_of h3
  clear h3
  obtain ⟨cell4, l4, rfl, h5⟩ := cons_of h4
  clear h4
  obtain ⟨cell5, l5, rfl, h6⟩ := cons_of h5
  clear h5
  obtain ⟨cell6, l6, rfl, h7⟩ := cons_of h6
  clear h6
  obtain ⟨cell7, l7, rfl, h8⟩ := cons_of h7
  clear h7
  obtain ⟨cell8, l8, rfl, h9⟩ := cons_of h8
  clear h8
  obtain ⟨cell9, l9, rfl, h10⟩ := cons_of h9
  clear h9
  obtain ⟨cell10, l10, rfl, h11⟩ := cons_of h10
  clear h10
  obtain ⟨cell11, l11, rfl, h12⟩ := cons_of h11
  clear h11
  obtain ⟨cell12, l12, rfl, h13⟩ := cons_of h12
  clear h12
  obtain ⟨cell13, l13, rfl, h14⟩ := cons_of h13
  clear h13
  obtain ⟨cell14, l14, rfl, h15⟩ := cons_of h14
  clear h14
  obtain ⟨cell15, l15, rfl, h16⟩ := cons_of h15
  clear h15
  obtain ⟨cell16, l16, rfl, h17⟩ := cons_of h16
  clear h16
  obtain ⟨cell17, l17, rfl, h18⟩ := cons_of h17
  clear h17
  obtain ⟨cell18, l18, rfl, h19⟩ := cons_of h18
  clear h18
  obtain ⟨cell19, l19, rfl, h20⟩ := cons_of h19
  clear h19
  obtain ⟨cell20, l20, rfl, h21⟩ := cons_of h20
  clear h20
  obtain ⟨cell21, l21, rfl, h22⟩ := cons_of h21
  clear h21
  obtain ⟨cell22, l22, rfl, h23⟩ := cons_of h22
  clear h22
  obtain ⟨cell23, l23, rfl, h24⟩ := cons_of h23
  clear h23
  obtain ⟨cell24, l24, rfl, h25⟩ := cons_of h24
  clear h24
  obtain ⟨cell25, l25, rfl, h26⟩ := cons_of h25
  clear h25
  obtain ⟨cell26, l26, rfl, h27⟩ := cons_of h26
  clear h26
  obtain ⟨cell27, l27, rfl, h28⟩ := cons_of h27
  clear h27
  obtain ⟨cell28, l28, rfl, h29⟩ := cons_of h28
  clear h28
  obtain ⟨cell29, l29, rfl, h30⟩ := cons_of h29
  clear h29
  obtain ⟨cell30, l30, rfl, h31⟩ := cons_of h30
  clear h30
  obtain ⟨cell31, l31, rfl, h32⟩ := cons_of h31
  clear h31
  obtain ⟨cell32, l32, rfl, h33⟩ := cons_of h32
  clear h32
  obtain ⟨cell33, l33, rfl, h34⟩ := cons_of h33
  clear h33
  obtain ⟨cell34, l34, rfl, h35⟩ := cons_of h34
  clear h34
  obtain rfl := List.length_eq_zero_iff.1 h35
  exact ⟨cell0, cell1, cell2, cell3, cell4, cell5, cell6, cell7, cell8, cell9, cell10, cell11, cell12, cell13, cell14, cell15, cell16, cell17, cell18, cell19, cell20, cell21, cell22, cell23, cell24, cell25, cell26, cell27, cell28, cell29, cell30, cell31, cell32, cell33, cell34, rfl⟩
section
variable {H : Type} {enc : TypeId × Value → H}
set_option maxRecDepth 10000 in
theorem claims_of_trod {W : World} {cs : List Value} {base fuel : Nat} {sp : Nat → Bool} {hd : Bool} {y : DataW H × List MemPlace} (hf : DataW.trod enc Tryz.prog W base sp hd fuel 30 cs = some y) :
    ∃ (A : Option Addr) (n c : Nat) (l : List Cl.C), cs = [.slice A n c] ∧ n = l.length ∧ l.length ≤ maxLen ∧ S2.RowC W A l ∧ (A = none → c = 0) := by
  rcases Go.Deep.open_slice Tryz.underlying30 hf with ⟨hcs, _⟩ | ⟨a, len, cap, m, k, D, Pl, hcs, hb, hl, hm, hmm, _, hx⟩
  · exact ⟨none, 0, 0, [], hcs, rfl, Nat.zero_le _, fun h0 => absurd rfl h0, fun _ => rfl⟩
  · have hnm : len ≤ m := by rw [hmm]; split <;> omega
    have each : ∀ i, i < m → ∃ q : Int × Int × Int, W.cell? (a.add (i * 3)) = some (.int .i64 q.1) ∧ W.cell? (a.add (i * 3 + 1)) = some (.int .i64 q.2.1) ∧ W.cell? (a.add (i * 3 + 2)) = some (.int .i64 q.2.2) := by
      intro i hi
      obtain ⟨cs', h1, h2⟩ := hx i hi
      rw [claim_cells] at h1
      obtain ⟨_, hlen, hcell⟩ := World.cells?_some h1
      obtain ⟨xs, k2, hk, hxy, _, hxl, hfl⟩ := DataW.trod_struct Tryz.underlying47 h2
      match cs', hlen with
      | [v0, v1, v2], _ =>
        have g0 := hfl 0 _ rfl
        have g1 := hfl 1 _ rfl
        have e0 := hcell 0 (by omega)
        have e1 := hcell 1 (by omega)
        have e2 := hcell 2 (by omega)
        rw [Go.Deep.add_add] at e0 e1 e2
        simp [int_cells, span_cells] at g0 g1 e0 e1 e2
        match xs, hxl with
        | [y0, y1], _ =>
          simp at g0 g1
          obtain ⟨z0, q0, _, _⟩ := DataW.trod_int Tryz.underlying3 g0
          obtain ⟨xs2, k3, hk3, hxy2, _, hxl2, hfl2⟩ := DataW.trod_struct Tryz.underlying45 g1
          have g2 := hfl2 0 _ rfl
          have g3 := hfl2 1 _ rfl
          match xs2, hxl2 with
          | [y2, y3], _ =>
            simp [int_cells] at g2 g3
            obtain ⟨z1, q1, _, _⟩ := DataW.trod_int Tryz.underlying3 g2
            obtain ⟨z2, q2, _, _⟩ := DataW.trod_int Tryz.underlying3 g3
            simp only [List.cons.injEq, and_true] at q0 q1 q2
            subst q0 q1 q2
            exact ⟨(z0, z1, z2), e0, e1, e2⟩
    obtain ⟨q, hq⟩ := Go.Deep.choose_lt each
    refine ⟨some a, len, cap, (List.range len).map q, hcs, by simp, by simp; omega, fun hne => ?_, fun h => by cases h⟩
    have hn : 0 < len := by
      rcases Nat.eq_zero_or_pos len with h0 | h0
      · subst h0; simp at hne
      · exact h0
    obtain ⟨b, off, spot⟩ := a
    have c0 := (hq 0 (by omega)).1
    have hspot : spot = none := by simpa [Addr.add] using World.cell?_spot c0
    subst hspot
    have hbl : b < W.heap.size := by
      have := World.block_lt_of_cell? _ _ c0
      simpa [Addr.add] using this
    refine ⟨b, off, rfl, hbl, fun i hi' => ?_⟩
    have hin : i < len := by simpa using hi'
    obtain ⟨g0, g1, g2⟩ := hq i (by omega)
    rw [add_flat] at g0 g1 g2
    simp only [List.getElem_map, List.getElem_range]
    exact ⟨g0, by rw [Nat.add_assoc]; exact g1, by rw [Nat.add_assoc]; exact g2⟩
set_option maxRecDepth 100000 in
theorem rule_of_trod {W : World} {v0 v1 v2 v3 v4 v5 v6 : Value} {base fuel : Nat} {sp : Nat → Bool} {hd : Bool} {y : DataW H × List MemPlace} (hf : DataW.trod enc Tryz.prog W base sp hd fuel 27 [v0, v1, v2, v3, v4, v5, v6] = some y) :
    ∃ (fr ev ct un : Int) (D M Y : Option Addr) (dn dc mn mc yn yc : Nat) (ds : List Wd) (ms ys : List Int), (v0 = .int .i64 fr ∧ v1 = .int .i64 ev ∧ v2 = .int .i64 ct ∧ v3 = .int .i64 un ∧ v4 = .slice D dn dc ∧ v5 = .slice M mn mc ∧ v6 = .slice Y yn yc) ∧
      (dn = ds.length ∧ ds.length ≤ maxLen ∧ RowD W D ds) ∧ (mn = ms.length ∧ ms.length ≤ maxLen ∧ RowI W M ms) ∧ (yn = ys.length ∧ ys.length ≤ maxLen ∧ RowI W Y ys) := by
  obtain ⟨xs, n, _, hx, hl, hlen, hfl⟩ := DataW.trod_struct Tryz.underlying27 hf
  have g0 := hfl 0 _ rfl
  have g1 := hfl 1 _ rfl
  have g2 := hfl 2 _ rfl
  have g3 := hfl 3 _ rfl
  have g4 := hfl 4 _ rfl
  have g5 := hfl 5 _ rfl
  have g6 := hfl 6 _ rfl
  match xs, hlen with
  | [y0, y1, y2, y3, y4, y5, y6], _ =>
    simp [int_cells, ints_cells, days_cells] at g0 g1 g2 g3 g4 g5 g6
    obtain ⟨z0, e0, _, _⟩ := DataW.trod_int Tryz.underlying3 g0
    obtain ⟨z1, e1, _, _⟩ := DataW.trod_int Tryz.underlying3 g1
    obtain ⟨z2, e2, _, _⟩ := DataW.trod_int Tryz.underlying3 g2
    obtain ⟨z3, e3, _, _⟩ := DataW.trod_int Tryz.underlying3 g3
    obtain ⟨D, dn, dc, ds, e4, k4⟩ := open_days g4
    obtain ⟨M, mn, mc, ms, e5, k5⟩ := open_nums g5
    obtain ⟨Y, yn, yc, ys, e6, k6⟩ := open_nums g6
    simp only [List.cons.injEq, and_true] at e0 e1 e2 e3 e4 e5 e6
    exact ⟨z0, z1, z2, z3, D, M, Y, dn, dc, mn, mc, yn, yc, ds, ms, ys, ⟨e0, e1, e2, e3, e4, e5, e6⟩, k4, k5, k6⟩
theorem id_of_trod {W : World} {base fuel : Nat} {sp : Nat → Bool} {hd : Bool} {y : DataW H × List MemPlace} {v0 v1 : Value} (hf : DataW.trod enc Tryz.prog W base sp hd fuel 23 [v0, v1] = some y) : ∃ i : Nm, [v0, v1] = [.int .i64 i.1, .int .i64 i.2] := by
  obtain ⟨xs, n, _, hx, hl, hlen, hfl⟩ := DataW.trod_struct Tryz.underlying23 hf
  have g0 := hfl 0 _ rfl
  have g1 := hfl 1 _ rfl
  match xs, hlen with
  | [y0, y1], _ =>
    simp [int_cells] at g0 g1
    obtain ⟨z0, e0, _, _⟩ := DataW.trod_int Tryz.underlying3 g0
    obtain ⟨z1, e1, _, _⟩ := DataW.trod_int Tryz.underlying3 g1
    simp only [List.cons.injEq, and_true] at e0 e1
    exact ⟨(z0, z1), by rw [e0, e1]⟩
set_option maxRecDepth 100000 in
theorem event_of_trod {W : World} {base fuel : Nat} {sp : Nat → Bool} {hd : Bool} {y : DataW H × List MemPlace} {v0 v1 v2 v3 v4 v5 v6 v7 v8 v9 v10 v11 v12 : Value} (hf : DataW.trod enc Tryz.prog W base sp hd fuel 29 [v0, v1, v2, v3, v4, v5, v6, v7, v8, v9, v10, v11, v12] = some y) :
    ∃ (e : Ev.E) (m : Mem), [v0, v1, v2, v3, v4, v5, v6, v7, v8, v9, v10, v11, v12] = evC e m ∧ EvO W e m := by
  obtain ⟨xs, n, _, hx, hl, hlen, hfl⟩ := DataW.trod_struct Tryz.underlying29 hf
  have g0 := hfl 0 _ rfl
  have g1 := hfl 1 _ rfl
  have g2 := hfl 2 _ rfl
  have g3 := hfl 3 _ rfl
  have g4 := hfl 4 _ rfl
  have g5 := hfl 5 _ rfl
  have g6 := hfl 6 _ rfl
  match xs, hlen with
  | [y0, y1, y2, y3, y4, y5, y6], _ =>
    simp [int_cells, ints_cells, string_cells, rule_cells] at g0 g1 g2 g3 g4 g5 g6
    obtain ⟨U, e0, _, hU⟩ := DataW.trod_string Tryz.underlying9 g0
    obtain ⟨T, e1, _, hT⟩ := DataW.trod_string Tryz.underlying9 g1
    obtain ⟨z2, e2, _, _⟩ := DataW.trod_int Tryz.underlying3 g2
    obtain ⟨z3, e3, _, _⟩ := DataW.trod_int Tryz.underlying3 g3
    obtain ⟨O, on, oc, o, e4, k4⟩ := open_nums g4
    obtain ⟨fr, ev, ct, un, D, M, Y, dn, dc, mn, mc, yn, yc, ds, ms, ys, ⟨rfl, rfl, rfl, rfl, rfl, rfl, rfl⟩, k5⟩ := rule_of_trod g5
    obtain ⟨X, xn, xc, x, e6, k6⟩ := open_nums g6
    simp only [List.cons.injEq, and_true] at e0 e1 e2 e3 e4 e6
    subst e0 e1 e2 e3 e4 e6
    obtain ⟨rfl, _, ho⟩ := k4
    obtain ⟨⟨rfl, _, hds⟩, ⟨rfl, _, hms⟩, ⟨rfl, _, hys⟩⟩ := k5
    obtain ⟨rfl, _, hxs⟩ := k6
    refine ⟨⟨U.data.toList, T.data.toList, z2, z3, o, ⟨fr, ev, ct, un, ds, ms, ys⟩, x⟩, ⟨O, oc, D, dc, M, mc, Y, yc, X, xc⟩, ?_, ⟨ho, hds, hms, hys, hxs⟩⟩
    simp only [evC, data_strD]
set_option maxRecDepth 100000 in
theorem book_of_trod {W : World} {base fuel : Nat} {sp : Nat → Bool} {hd : Bool} {y : DataW H × List MemPlace} {v0 v1 v2 v3 v4 v5 v6 v7 v8 v9 v10 v11 v12 v13 v14 v15 : Value} (hf : DataW.trod enc Tryz.prog W base sp hd fuel 32 [v0, v1, v2, v3, v4, v5, v6, v7, v8, v9, v10, v11, v12, v13, v14, v15] = some y) :
    ∃ (b : B) (m : Mem), [v0, v1, v2, v3, v4, v5, v6, v7, v8, v9, v10, v11, v12, v13, v14, v15] = bkC b m ∧ EvO W b.e m := by
  obtain ⟨xs, n, _, hx, hl, hlen, hfl⟩ := DataW.trod_struct Tryz.underlying32 hf
  have g0 := hfl 0 _ rfl
  have g1 := hfl 1 _ rfl
  have g2 := hfl 2 _ rfl
  match xs, hlen with
  | [y0, y1, y2], _ =>
    simp [int_cells, id_cells, event_cells] at g0 g1 g2
    obtain ⟨i, e0⟩ := id_of_trod g0
    obtain ⟨s, e1, _, _⟩ := DataW.trod_int Tryz.underlying3 g1
    obtain ⟨e, m, e2, he⟩ := event_of_trod g2
    simp only [List.cons.injEq, and_true] at e0 e1
    obtain ⟨rfl, rfl⟩ := e0
    subst e1
    refine ⟨⟨i, s, e⟩, m, ?_, he⟩
    unfold bkC
    rw [← e2]
set_option maxRecDepth 100000 in
theorem deed_of_trod {W : World} {base fuel : Nat} {sp : Nat → Bool} {hd : Bool} {y : DataW H × List MemPlace} {v0 v1 v2 v3 v4 v5 v6 v7 v8 v9 v10 v11 v12 v13 v14 v15 v16 v17 v18 v19 v20 v21 v22 v23 v24 v25 v26 v27 v28 v29 v30 v31 v32 v33 v34 : Value} (hf : DataW.trod enc Tryz.prog W base sp hd fuel 34 [v0, v1, v2, v3, v4, v5, v6, v7, v8, v9, v10, v11, v12, v13, v14, v15, v16, v17, v18, v19, v20, v21, v22, v23, v24, v25, v26, v27, v28, v29, v30, v31, v32, v33, v34] = some y) :
    ∃ (d : D) (m : DM), [v0, v1, v2, v3, v4, v5, v6, v7, v8, v9, v10, v11, v12, v13, v14, v15, v16, v17, v18, v19, v20, v21, v22, v23, v24, v25, v26, v27, v28, v29, v30, v31, v32, v33, v34] = dC d m ∧ DO W d m := by
  obtain ⟨xs, n, _, hx, hl, hlen, hfl⟩ := DataW.trod_struct Tryz.underlying34 hf
  have g0 := hfl 0 _ rfl
  have g1 := hfl 1 _ rfl
  have g2 := hfl 2 _ rfl
  have g3 := hfl 3 _ rfl
  have g4 := hfl 4 _ rfl
  have g5 := hfl 5 _ rfl
  have g6 := hfl 6 _ rfl
  match xs, hlen with
  | [y0, y1, y2, y3, y4, y5, y6], _ =>
    simp [int_cells, id_cells, event_cells, claims_cells, book_cells] at g0 g1 g2 g3 g4 g5 g6
    obtain ⟨kd, e0, _, _⟩ := DataW.trod_int Tryz.underlying3 g0
    obtain ⟨i, e1⟩ := id_of_trod g1
    obtain ⟨e, me, e2, he⟩ := event_of_trod g2
    obtain ⟨A, n, c, l, e3, rfl, _, hc, hz⟩ := claims_of_trod g3
    obtain ⟨pe, e4, _, _⟩ := DataW.trod_int Tryz.underlying3 g4
    obtain ⟨nn, e5, _, _⟩ := DataW.trod_int Tryz.underlying3 g5
    obtain ⟨b, mb, e6, hb⟩ := book_of_trod g6
    simp only [List.cons.injEq, and_true] at e0 e1 e3 e4 e5
    obtain ⟨rfl, rfl⟩ := e1
    subst e0 e3 e4 e5
    refine ⟨⟨kd, i, e, l, pe, nn, b⟩, ⟨me, A, c, mb⟩, ?_, ⟨he, hc, hz, hb⟩⟩
    unfold dC
    rw [← e2, ← e6]
    rfl
set_option maxRecDepth 100000 in
theorem open_id {r : Reach} {b0 : Nat} {W : World} {v : Value} {base : Nat} {sp : Nat → Bool} {hd : Bool} {d : DataW H} {p : List MemPlace} (hv : Value.okWide Tryz.prog W r b0 23 v) (h : DataW.Trod enc Tryz.prog W base sp hd 23 v d p) :
    ∃ i : Nm, v = .agg #[.int .i64 i.1, .int .i64 i.2] := by
  obtain ⟨cs, rfl, hsz⟩ := okWide_struct Tryz.underlying23 hv
  obtain ⟨v0, v1, rfl⟩ := array2 (hsz.trans id_cells)
  obtain ⟨fuel, hf⟩ := h
  obtain ⟨i, e⟩ := id_of_trod (v0 := v0) (v1 := v1) hf
  simp only [List.cons.injEq, and_true] at e
  obtain ⟨rfl, rfl⟩ := e
  exact ⟨i, rfl⟩
set_option maxRecDepth 100000 in
theorem open_book {r : Reach} {b0 : Nat} {W : World} {v : Value} {base : Nat} {sp : Nat → Bool} {hd : Bool} {d : DataW H} {p : List MemPlace} (hv : Value.okWide Tryz.prog W r b0 32 v) (h : DataW.Trod enc Tryz.prog W base sp hd 32 v d p) :
    ∃ (b : B) (m : Mem), v = .agg (bkC b m).toArray ∧ EvO W b.e m := by
  obtain ⟨cs, rfl, hsz⟩ := okWide_struct Tryz.underlying32 hv
  obtain ⟨v0, v1, v2, v3, v4, v5, v6, v7, v8, v9, v10, v11, v12, v13, v14, v15, rfl⟩ := array16 (hsz.trans book_cells)
  obtain ⟨fuel, hf⟩ := h
  obtain ⟨b, m, e, hb⟩ := book_of_trod (v0 := v0) (v1 := v1) (v2 := v2) (v3 := v3) (v4 := v4) (v5 := v5) (v6 := v6) (v7 := v7) (v8 := v8) (v9 := v9) (v10 := v10) (v11 := v11) (v12 := v12) (v13 := v13) (v14 := v14) (v15 := v15) hf
  exact ⟨b, m, by rw [← e], hb⟩
set_option maxRecDepth 100000 in
theorem open_deed {r : Reach} {b0 : Nat} {W : World} {v : Value} {base : Nat} {sp : Nat → Bool} {hd : Bool} {d : DataW H} {p : List MemPlace} (hv : Value.okWide Tryz.prog W r b0 34 v) (h : DataW.Trod enc Tryz.prog W base sp hd 34 v d p) :
    ∃ (d : D) (m : DM), v = .agg (dC d m).toArray ∧ DO W d m := by
  obtain ⟨cs, rfl, hsz⟩ := okWide_struct Tryz.underlying34 hv
  obtain ⟨v0, v1, v2, v3, v4, v5, v6, v7, v8, v9, v10, v11, v12, v13, v14, v15, v16, v17, v18, v19, v20, v21, v22, v23, v24, v25, v26, v27, v28, v29, v30, v31, v32, v33, v34, rfl⟩ := array35 (hsz.trans deed_cells)
  obtain ⟨fuel, hf⟩ := h
  obtain ⟨d, m, e, hb⟩ := deed_of_trod (v0 := v0) (v1 := v1) (v2 := v2) (v3 := v3) (v4 := v4) (v5 := v5) (v6 := v6) (v7 := v7) (v8 := v8) (v9 := v9) (v10 := v10) (v11 := v11) (v12 := v12) (v13 := v13) (v14 := v14) (v15 := v15) (v16 := v16) (v17 := v17) (v18 := v18) (v19 := v19) (v20 := v20) (v21 := v21) (v22 := v22) (v23 := v23) (v24 := v24) (v25 := v25) (v26 := v26) (v27 := v27) (v28 := v28) (v29 := v29) (v30 := v30) (v31 := v31) (v32 := v32) (v33 := v33) (v34 := v34) hf
  exact ⟨d, m, by rw [← e], hb⟩
end
end Go.Proofs.YtocnobgdlgndjaaGreat

/- Walks of package rule: the place of a day. -/
import Derived.Test.YtdmplojfidkipaaRuF
namespace Go.Proofs.Ytdmplojfidkipaa
open Go.RowKit Rul Go.Sort

/-- the world of a walk's end under a name, with what is asked of it. -/
theorem ret_gen {P : Program} {f : Func} {Q : Ending → World → Prop} {a : Act} {W : World} (E : World → Prop) (he : E W) (k : ∀ WF, E WF → bodyPost P f Q .ret a WF) : bodyPost P f Q .ret a W := k W he
/-- six cells of a block, and what lies below. -/
abbrev Six (w : World) (p : Nat) (x0 x1 x2 x3 x4 x5 : Value) (W : World) : Prop :=
  W.cell? ⟨p, 0, none⟩ = some x0 ∧ W.cell? ⟨p, 1, none⟩ = some x1 ∧ W.cell? ⟨p, 2, none⟩ = some x2 ∧ W.cell? ⟨p, 3, none⟩ = some x3 ∧ W.cell? ⟨p, 4, none⟩ = some x4 ∧ W.cell? ⟨p, 5, none⟩ = some x5 ∧ Below w.heap.size w W
theorem six_set {w W : World} {x0 x1 x2 x3 x4 x5 y0 y1 y2 y3 y4 y5 : Value} (h : Six w w.heap.size x0 x1 x2 x3 x4 x5 W) :
    Six w w.heap.size y0 y1 y2 y3 y4 y5 ((((((W.setCell ⟨w.heap.size, 0, none⟩ y0).setCell ⟨w.heap.size, 1, none⟩ y1).setCell ⟨w.heap.size, 2, none⟩ y2).setCell ⟨w.heap.size, 3, none⟩ y3).setCell ⟨w.heap.size, 4, none⟩ y4).setCell ⟨w.heap.size, 5, none⟩ y5) := by
  obtain ⟨c0, c1, c2, c3, c4, c5, hb⟩ := h
  have st : ∀ {W : World} {i : Nat} {x y : Value}, W.cell? ⟨w.heap.size, i, none⟩ = some x → (W.setCell ⟨w.heap.size, i, none⟩ y).cell? ⟨w.heap.size, i, none⟩ = some y := fun h => World.cell?_setCell_same _ _ _ h
  have ot : ∀ {W : World} {i j : Nat} {x y : Value}, i ≠ j → W.cell? ⟨w.heap.size, i, none⟩ = some x → (W.setCell ⟨w.heap.size, j, none⟩ y).cell? ⟨w.heap.size, i, none⟩ = some x := fun hn h =>
    (World.cell?_setCell_other _ _ _ _ (by intro hc; injection hc with _ hc1; omega)).trans h
  have be : ∀ {W : World} {j : Nat} {y : Value}, Below w.heap.size w W → Below w.heap.size w (W.setCell ⟨w.heap.size, j, none⟩ y) := fun h => h.setCell (Nat.le_refl _) _
  refine ⟨?_, ?_, ?_, ?_, ?_, ?_, be (be (be (be (be (be hb)))))⟩
  · exact ot (by omega) (ot (by omega) (ot (by omega) (ot (by omega) (ot (by omega) (st c0)))))
  · exact ot (by omega) (ot (by omega) (ot (by omega) (ot (by omega) (st (ot (by omega) c1)))))
  · exact ot (by omega) (ot (by omega) (ot (by omega) (st (ot (by omega) (ot (by omega) c2)))))
  · exact ot (by omega) (ot (by omega) (st (ot (by omega) (ot (by omega) (ot (by omega) c3)))))
  · exact ot (by omega) (st (ot (by omega) (ot (by omega) (ot (by omega) (ot (by omega) c4)))))
  · exact st (ot (by omega) (ot (by omega) (ot (by omega) (ot (by omega) (ot (by omega) c5)))))
theorem Six.keep {w W W1 : World} {p : Nat} {x0 x1 x2 x3 x4 x5 : Value} (h : Six w p x0 x1 x2 x3 x4 x5 W) (hb : Below W.heap.size W W1) : Six w p x0 x1 x2 x3 x4 x5 W1 :=
  ⟨cell_keep hb h.1, cell_keep hb h.2.1, cell_keep hb h.2.2.1, cell_keep hb h.2.2.2.1, cell_keep hb h.2.2.2.2.1, cell_keep hb h.2.2.2.2.2.1, andthen h.2.2.2.2.2.2 hb⟩
theorem six_new (w : World) (x0 x1 x2 x3 x4 x5 : Value) (t : TypeId) : Six w w.heap.size x0 x1 x2 x3 x4 x5 (w.alloc (.cells #[x0, x1, x2, x3, x4, x5] t)) := by
  refine ⟨?_, ?_, ?_, ?_, ?_, ?_, more (start _) _⟩
  all_goals (rw [World.cell?_alloc_at _ _ _ _ rfl]; rfl)

set_option maxHeartbeats 400000 in
theorem placeOf_no (n : Int) (w : World) (h : n < 0 ∨ 36525 ≤ n) :
    Calls Try.prog 92 #[.int .i64 n] w (Ans w (.tuple #[.agg #[.int .i64 0, .int .i64 0, .int .i64 0, .int .i64 0, .int .i64 0, .int .i64 0], .bool false])) := by
  have H := hide h
  clear h
  go_enter Try.func92, Try.ntmps92
  go_wp2_with fail
  refine (Date_no n _ H.out).mono ?_
  rintro e w1 ⟨rfl, hb1⟩
  obtain ⟨hc, hf⟩ := old hb1
  have hz : w.heap.size < w1.heap.size := by have := hb1.size; simp only [World.size_alloc] at this; omega
  go_wp2_with fail
  refine ret_gen (Six w w.heap.size (.int .i64 0) (.int .i64 0) (.int .i64 0) (.int .i64 0) (.int .i64 0) (.int .i64 0)) (Six.keep (six_set (Six.keep (six_new _ _ _ _ _ _ _ _) hb1)) (more (start _) _)) ?_
  rintro WF ⟨c0, c1, c2, c3, c4, c5, hb⟩
  exact bodyPost_ret (v := .tuple #[.agg #[.int .i64 0, .int .i64 0, .int .i64 0, .int .i64 0, .int .i64 0, .int .i64 0], .bool false]) (by simp [results, Try.results92, go_sem, c0, c1, c2, c3, c4, c5]) rfl ⟨rfl, hb⟩

theorem date_is (n y m d : Int) (w : World) (h1 : 0 ≤ n) (h2 : n < 36525) (hy : Cal.yOf n = y) (hm : Cal.mOf n = m) (hd : Cal.dOf n = d) :
    Calls Try.prog 62 #[.int .i64 n] w (Ans w (.tuple #[.agg #[.int .i64 y, .int .i64 m, .int .i64 d], .int .i64 0])) := by
  subst hy hm hd; exact Date_yes n w h1 h2
theorem length_is (y m v : Int) (w : World) (h : Cal.dim y m = v) :
    Calls Try.prog 61 #[.int .i64 y, .int .i64 m] w fun e w' => e = .returned (.int .i64 v) ∧ w = w' := by subst h; exact length_any y m w
theorem weekday_is (n v : Int) (w : World) (h1 : 0 ≤ n) (h2 : n < 36525) (h : Cal.wday n = v) :
    Calls Try.prog 80 #[.int .i64 n] w (Ans w (.int .i64 v)) := by subst h; exact weekday_any n w (by unfold I64; omega)

/-- a new place, and a date beside it. -/
abbrev Fresh (p q : Nat) (m : Int) (W : World) : Prop := W.cell? ⟨q, 1, none⟩ = some (.int .i64 m) ∧ W.cell? ⟨p, 0, none⟩ = some (.int .i64 0) ∧ W.cell? ⟨p, 1, none⟩ = some (.int .i64 0) ∧ W.cell? ⟨p, 2, none⟩ = some (.int .i64 0) ∧ W.cell? ⟨p, 3, none⟩ = some (.int .i64 0) ∧ W.cell? ⟨p, 4, none⟩ = some (.int .i64 0) ∧ W.cell? ⟨p, 5, none⟩ = some (.int .i64 0) ∧ W.frozen? ⟨p, 0, none⟩ = false ∧ W.frozen? ⟨p, 1, none⟩ = false ∧ W.frozen? ⟨p, 2, none⟩ = false ∧ W.frozen? ⟨p, 3, none⟩ = false ∧ W.frozen? ⟨p, 4, none⟩ = false ∧ W.frozen? ⟨p, 5, none⟩ = false
theorem Fresh.keep {p q : Nat} {m : Int} {W W1 : World} (hb : Below W.heap.size W W1) (h : Fresh p q m W) : Fresh p q m W1 := by
  obtain ⟨c, z0, z1, z2, z3, z4, z5, f0, f1, f2, f3, f4, f5⟩ := h
  have hp := block_lt_of_cell z0
  exact ⟨cell_keep hb c, cell_keep hb z0, cell_keep hb z1, cell_keep hb z2, cell_keep hb z3, cell_keep hb z4, cell_keep hb z5, (hb.frozen (p := ⟨p, 0, none⟩) hp).trans f0, (hb.frozen (p := ⟨p, 1, none⟩) hp).trans f1, (hb.frozen (p := ⟨p, 2, none⟩) hp).trans f2, (hb.frozen (p := ⟨p, 3, none⟩) hp).trans f3, (hb.frozen (p := ⟨p, 4, none⟩) hp).trans f4, (hb.frozen (p := ⟨p, 5, none⟩) hp).trans f5⟩

theorem far6 {w : World} {p q : Nat} {u x0 x1 x2 x3 x4 x5 : Value} (h : p < q) (c : w.cell? ⟨q, 1, none⟩ = some u) :
    ((((((w.setCell ⟨p, 0, none⟩ x0).setCell ⟨p, 1, none⟩ x1).setCell ⟨p, 2, none⟩ x2).setCell ⟨p, 3, none⟩ x3).setCell ⟨p, 4, none⟩ x4).setCell ⟨p, 5, none⟩ x5).cell? ⟨q, 1, none⟩ = some u := by
  repeat rw [World.cell?_setCell_other _ _ _ _ (by intro hc; injection hc with hc1; omega)]
  exact c

set_option maxRecDepth 100000 in
set_option maxHeartbeats 2000000 in
theorem placeOf_walk (n y m d k v : Int) (w : World) (h1 : 0 ≤ n) (h2 : n < 36525) (hy : Cal.yOf n = y) (hm : Cal.mOf n = m) (hd : Cal.dOf n = d) (hk : Cal.dim y m = k) (hv : Cal.wday n = v)
    (d1 : 1 ≤ d) (d2 : d ≤ 31) (k1 : d ≤ k) (k2 : k ≤ 31) :
    Calls Try.prog 92 #[.int .i64 n] w (Ans w (.tuple #[.agg #[.int .i64 m, .int .i64 d, .int .i64 (-(k - d + 1)), .int .i64 v, .int .i64 ((d - 1) / 7 + 1), .int .i64 (-((k - d) / 7 + 1))], .bool true])) := by
  have HD := hide (And.intro hy (And.intro hm hd))
  have HK := hide hk
  have HV := hide hv
  clear hy hm hd hk hv
  go_enter Try.func92, Try.ntmps92
  go_wp2_with fail
  refine (date_is n y m d _ h1 h2 HD.out.1 HD.out.2.1 HD.out.2.2).mono ?_
  rintro e w1 ⟨rfl, hb1⟩
  have hz : w.heap.size < w1.heap.size := by have := hb1.size; simp only [World.size_alloc] at this; omega
  have hB : Below w.heap.size w w1 := andthen (more (start w) _) hb1
  have hF : Fresh w.heap.size w1.heap.size m (w1.alloc (.cells #[.int .i64 y, .int .i64 m, .int .i64 d] 49)) := by
    have g : ∀ i : Nat, i < 6 → w1.cell? ⟨w.heap.size, i, none⟩ = some (.int .i64 0) := fun i hi => by
      rw [(old hb1).1 _ _ (by simp), World.cell?_alloc_at _ _ _ _ rfl]
      rcases i with _ | _ | _ | _ | _ | _ | i
      all_goals first | rfl | omega
    have f : ∀ i : Nat, (w1.alloc (.cells #[.int .i64 y, .int .i64 m, .int .i64 d] 49)).frozen? ⟨w.heap.size, i, none⟩ = false := fun i => by
      rw [(more (start w1) _).frozen (p := ⟨w.heap.size, i, none⟩) hz, (old hb1).2 _ _ (by simp), World.frozen?_alloc_at _ _ _ _ rfl]
    have c : ∀ i : Nat, i < 6 → (w1.alloc (.cells #[.int .i64 y, .int .i64 m, .int .i64 d] 49)).cell? ⟨w.heap.size, i, none⟩ = some (.int .i64 0) := fun i hi => cell_keep (more (start _) _) (g i hi)
    exact ⟨by rw [World.cell?_alloc_at _ _ _ _ rfl]; rfl, c 0 (by omega), c 1 (by omega), c 2 (by omega), c 3 (by omega), c 4 (by omega), c 5 (by omega), f 0, f 1, f 2, f 3, f 4, f 5⟩
  have HF := hide hF
  have HB := hide hB
  clear hF hB
  go_wp2_with fail
  go_quiet ((go_at_call 61; exact quiet_left (length_is _ _ _ _ HK.out)))
  go_wp2_with fail
  have hF2 : Fresh w.heap.size w1.heap.size m ((w1.alloc (.cells #[.int .i64 y, .int .i64 m, .int .i64 d] 49)).drewN nq) := Fresh.keep (below_drawn (start _) nq) HF.out
  have hB2 : Below w.heap.size w ((w1.alloc (.cells #[.int .i64 y, .int .i64 m, .int .i64 d] 49)).drewN nq) := below_drawn (more HB.out _) nq
  clear hb1 HB HF
  generalize (w1.alloc (.cells #[.int .i64 y, .int .i64 m, .int .i64 d] 49)).drewN nq = V at *
  go_region_held3 (fun w' => w'.cell? ⟨w1.heap.size, 1, none⟩ = some (.int .i64 m)) (first | with_reducible exact far6 hz (by assumption) | with_reducible exact cell_keep (start _).drew hF2.1 | with_reducible exact cell_keep (by assumption) (by assumption) | with_reducible exact cell_keep (start _).drew (by assumption)) ((go_at_call 80; (with_reducible refine (weekday_is n v _ h1 h2 HV.out).mono ?_); rintro e w2 ⟨rfl, hb2⟩; obtain ⟨q0, q1, q2, q3, q4, q5, q6, q7, q8, q9, q10, q11, q12⟩ := Fresh.keep (andthen (start _).drew hb2) hF2))
  go_wp2_with fail
  have hB3 : Below w.heap.size w w2 := andthen hB2 (andthen (start _).drew hb2)
  clear hF2 hB2 hb2
  refine ret_gen (Six w w.heap.size _ _ _ _ _ _) (six_set ⟨q1, q2, q3, q4, q5, q6, hB3⟩) ?_
  rintro WF ⟨c0, c1, c2, c3, c4, c5, hb⟩
  have w1 : IntKind.i64.wrap d = d := wrap_i64 _ (by unfold I64; omega)
  have w2 : IntKind.i64.wrap (k - d + 1) = k - d + 1 := wrap_i64 _ (by unfold I64; omega)
  have w3 : IntKind.i64.wrap (-(k - d + 1)) = -(k - d + 1) := wrap_i64 _ (by unfold I64; omega)
  have t1 : (d - 1).tdiv 7 = (d - 1) / 7 := Int.tdiv_eq_ediv_of_nonneg (by omega)
  have t2 : (k - d).tdiv 7 = (k - d) / 7 := Int.tdiv_eq_ediv_of_nonneg (by omega)
  have w4 : IntKind.i64.wrap ((d - 1) / 7) = (d - 1) / 7 := wrap_i64 _ (by unfold I64; omega)
  have w5 : IntKind.i64.wrap ((d - 1) / 7 + 1) = (d - 1) / 7 + 1 := wrap_i64 _ (by unfold I64; omega)
  have w6 : IntKind.i64.wrap ((k - d) / 7) = (k - d) / 7 := wrap_i64 _ (by unfold I64; omega)
  have w7 : IntKind.i64.wrap ((k - d) / 7 + 1) = (k - d) / 7 + 1 := wrap_i64 _ (by unfold I64; omega)
  have w8 : IntKind.i64.wrap (-((k - d) / 7 + 1)) = -((k - d) / 7 + 1) := wrap_i64 _ (by unfold I64; omega)
  rw [w1] at c1
  rw [w2, w3] at c2
  rw [t1, w4, w5] at c4
  rw [t2, w6, w7, w8] at c5
  exact bodyPost_ret (v := .tuple #[.agg #[.int .i64 m, .int .i64 d, .int .i64 (-(k - d + 1)), .int .i64 v, .int .i64 ((d - 1) / 7 + 1), .int .i64 (-((k - d) / 7 + 1))], .bool true]) (by simp [results, Try.results92, go_sem, c0, c1, c2, c3, c4, c5]) rfl ⟨rfl, hb⟩

theorem placeOf_yes (n : Int) (w : World) (h1 : 0 ≤ n) (h2 : n < 36525) :
    Calls Try.prog 92 #[.int .i64 n] w (Ans w (.tuple #[pv (placeOf n), .bool true])) := by
  have hd := (Cal.isB_iff _ _ _).1 (Cal.of_is n h1 h2)
  have hd2 := Cal.dOf_bd n h1 h2
  have hk := (Cal.dim_bd (Cal.yOf n) (Cal.mOf n)).2
  exact placeOf_walk n _ _ _ _ _ w h1 h2 rfl rfl rfl rfl rfl hd2.1 hd2.2 hd.2 hk

end Go.Proofs.Ytdmplojfidkipaa

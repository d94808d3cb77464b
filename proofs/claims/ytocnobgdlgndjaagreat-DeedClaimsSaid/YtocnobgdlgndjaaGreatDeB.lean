/- Package deed and the document's: bookings: may it be one, are two the same; two deeds compared field by field. Written by recipes/de1.py. -/
import Derived.Test.YtocnobgdlgndjaaGreatDeA
import Derived.Test.YtocnobgdlgndjaaGreatBW10
import Derived.Test.YtocnobgdlgndjaaGreatBC4
namespace Go.Proofs.YtocnobgdlgndjaaGreat
open Go.RowKit Rul De Cl Go.Sort

theorem resame_c (e f : Ev.E) (m n : Mem) (b : Bool) (w : World) (h : EvL w e m) (k : EvL w f n) (hb : Ev.sameE e f = b) : Calls Tryz.prog 28 #[.agg (evC e m).toArray, .agg (evC f n).toArray] w (Ans w (.bool b)) := hb ▸ rSame_any e f m n w h k
theorem reis_c (e : Ev.E) (m : Mem) (b : Bool) (w : World) (h : EvL w e m) (hb : Ev.isE e = b) : Calls Tryz.prog 29 #[.agg (evC e m).toArray] w (Ans w (.bool b)) := hb ▸ rIs_any e m w h
/-- two values put into memory, one behind the other. -/
abbrev dtwo (w : World) (cs ds : List Value) (t u : TypeId) : World := (w.alloc (.cells cs.toArray t)).alloc (.cells ds.toArray u)
theorem dtwo_below (w : World) (cs ds : List Value) (t u : TypeId) : Below w.heap.size w (dtwo w cs ds t u) := more (more (start w) _) _
theorem dtwo_fst (w : World) (cs ds : List Value) (t u : TypeId) : (dtwo w cs ds t u).rangeAt w.heap.size 0 cs := range_keep (range_new w cs t) (more (start _) _)
theorem dtwo_snd (w : World) (cs ds : List Value) (t u : TypeId) : (dtwo w cs ds t u).rangeAt (w.heap.size + 1) 0 ds := by
  have := range_new (w.alloc (.cells cs.toArray t)) ds u
  rw [World.size_alloc] at this
  exact this
theorem eq_dec (a b : Int) : (a == b) = decide (a = b) := rfl
set_option maxRecDepth 100000 in
set_option maxHeartbeats 4000000 in
theorem dsameBk_any (x y : B) (m n : Mem) (w : World) (h : EvL w x.e m) (k : EvL w y.e n) :
    Calls Tryz.prog 20 #[.agg (bkC x m).toArray, .agg (bkC y n).toArray] w (Ans w (.bool (sameBk x y))) := by
  have key : ∀ (z0 z1 z2 z3 : Bool), (x.id.1 == y.id.1) = z0 → (x.id.2 == y.id.2) = z1 → (x.st == y.st) = z2 → Ev.sameE x.e y.e = z3 → Calls Tryz.prog 20 #[.agg (bkC x m).toArray, .agg (bkC y n).toArray] w (Ans w (.bool ((z0 && z1) && (z2 && z3)))) := by
    intro z0 z1 z2 z3 h0 h1 h2 h3
    have HB := hide (dtwo_below w (bkC x m) (bkC y n) 32 32)
    have HX := hide (h.keep HB.out)
    have HY := hide (k.keep HB.out)
    have R0 := dtwo_fst w (bkC x m) (bkC y n) 32 32
    have R1 := dtwo_snd w (bkC x m) (bkC y n) 32 32
    have a0 := range_cell R0 0 0 _ rfl rfl
    have a1 := range_cell R0 1 1 _ rfl rfl
    have a2 := range_cell R0 2 2 _ rfl rfl
    have b0 := range_cell R1 0 0 _ rfl rfl
    have b1 := range_cell R1 1 1 _ rfl rfl
    have b2 := range_cell R1 2 2 _ rfl rfl
    have E0 := hide (range_end (pre := [.int .i64 x.id.1, .int .i64 x.id.2, .int .i64 x.st]) R0 3 rfl)
    have E1 := hide (range_end (pre := [.int .i64 y.id.1, .int .i64 y.id.2, .int .i64 y.st]) R1 3 rfl)
    have C3 := hide h3
    clear h k R0 R1 h3
    obtain ⟨⟨i, j⟩, s, e⟩ := x
    obtain ⟨⟨i2, j2⟩, s2, e2⟩ := y
    dsimp only at *
    cases z0
    · go_enter Tryz.func20, Tryz.ntmps20
      go_wp2_with fail
      go_ret
      exact ⟨rfl, HB.out⟩
    cases z1
    · go_enter Tryz.func20, Tryz.ntmps20
      go_wp2_with fail
      go_ret
      exact ⟨rfl, HB.out⟩
    cases z2
    · go_enter Tryz.func20, Tryz.ntmps20
      go_wp2_with fail
      go_ret
      exact ⟨rfl, HB.out⟩
    go_enter Tryz.func20, Tryz.ntmps20
    go_wp2_with (first | refine load_event rfl _ rfl _ _ rfl _ E0.out rfl ?_ | refine load_event rfl _ rfl _ _ rfl _ E1.out rfl ?_)
    refine (esame_c _ _ _ _ _ _ HX.out HY.out C3.out).mono ?_
    rintro q w1 ⟨rfl, hb⟩
    clear a0 a1 a2 b0 b1 b2 E0 E1
    replace HB := hide (andthen HB.out hb)
    clear hb
    go_wp2_with fail
    go_ret
    exact ⟨rfl, HB.out⟩
  exact key _ _ _ _ rfl rfl rfl rfl
set_option maxRecDepth 100000 in
set_option maxHeartbeats 4000000 in
theorem rsameBk_any (x y : B) (m n : Mem) (w : World) (h : EvL w x.e m) (k : EvL w y.e n) :
    Calls Tryz.prog 21 #[.agg (bkC x m).toArray, .agg (bkC y n).toArray] w (Ans w (.bool (sameBk x y))) := by
  have key : ∀ (z0 z1 z2 z3 : Bool), (x.id.1 == y.id.1) = z0 → (x.id.2 == y.id.2) = z1 → (x.st == y.st) = z2 → Ev.sameE x.e y.e = z3 → Calls Tryz.prog 21 #[.agg (bkC x m).toArray, .agg (bkC y n).toArray] w (Ans w (.bool ((z0 && z1) && (z2 && z3)))) := by
    intro z0 z1 z2 z3 h0 h1 h2 h3
    have HB := hide (dtwo_below w (bkC x m) (bkC y n) 32 32)
    have HX := hide (h.keep HB.out)
    have HY := hide (k.keep HB.out)
    have R0 := dtwo_fst w (bkC x m) (bkC y n) 32 32
    have R1 := dtwo_snd w (bkC x m) (bkC y n) 32 32
    have a0 := range_cell R0 0 0 _ rfl rfl
    have a1 := range_cell R0 1 1 _ rfl rfl
    have a2 := range_cell R0 2 2 _ rfl rfl
    have b0 := range_cell R1 0 0 _ rfl rfl
    have b1 := range_cell R1 1 1 _ rfl rfl
    have b2 := range_cell R1 2 2 _ rfl rfl
    have E0 := hide (range_end (pre := [.int .i64 x.id.1, .int .i64 x.id.2, .int .i64 x.st]) R0 3 rfl)
    have E1 := hide (range_end (pre := [.int .i64 y.id.1, .int .i64 y.id.2, .int .i64 y.st]) R1 3 rfl)
    have C3 := hide h3
    clear h k R0 R1 h3
    obtain ⟨⟨i, j⟩, s, e⟩ := x
    obtain ⟨⟨i2, j2⟩, s2, e2⟩ := y
    dsimp only at *
    cases z0
    · go_enter Tryz.func21, Tryz.ntmps21
      go_wp2_with fail
      go_ret
      exact ⟨rfl, HB.out⟩
    cases z1
    · go_enter Tryz.func21, Tryz.ntmps21
      go_wp2_with fail
      go_ret
      exact ⟨rfl, HB.out⟩
    cases z2
    · go_enter Tryz.func21, Tryz.ntmps21
      go_wp2_with fail
      go_ret
      exact ⟨rfl, HB.out⟩
    go_enter Tryz.func21, Tryz.ntmps21
    go_wp2_with (first | refine load_event rfl _ rfl _ _ rfl _ E0.out rfl ?_ | refine load_event rfl _ rfl _ _ rfl _ E1.out rfl ?_)
    refine (resame_c _ _ _ _ _ _ HX.out HY.out C3.out).mono ?_
    rintro q w1 ⟨rfl, hb⟩
    clear a0 a1 a2 b0 b1 b2 E0 E1
    replace HB := hide (andthen HB.out hb)
    clear hb
    go_wp2_with fail
    go_ret
    exact ⟨rfl, HB.out⟩
  exact key _ _ _ _ rfl rfl rfl rfl
set_option maxRecDepth 100000 in
set_option maxHeartbeats 4000000 in
theorem disBk_any (x : B) (m : Mem) (w : World) (h : EvL w x.e m) :
    Calls Tryz.prog 18 #[.agg (bkC x m).toArray] w (Ans w (.bool (bkB x))) := by
  have key : ∀ (z0 z1 z2 z3 : Bool), idB x.id = z0 → Ev.isE x.e = z1 → (x.st == 2) = z2 → (x.st == 4) = z3 → Calls Tryz.prog 18 #[.agg (bkC x m).toArray] w (Ans w (.bool (z0 && (z1 && (z2 || z3))))) := by
    intro z0 z1 z2 z3 h0 h1 h2 h3
    have HB := hide (more (start w) (.cells (bkC x m).toArray 32))
    have HX := hide (h.keep HB.out)
    have R0 := range_new w (bkC x m) 32
    have a0 := range_cell R0 0 0 _ rfl rfl
    have a1 := range_cell R0 1 1 _ rfl rfl
    have E0 := hide (range_end (pre := [.int .i64 x.id.1, .int .i64 x.id.2, .int .i64 x.st]) R0 3 rfl)
    have a2 := hide (range_cell R0 2 2 _ rfl rfl)
    have C0 := hide h0
    have C1 := hide h1
    clear h R0 h0 h1
    obtain ⟨⟨i, j⟩, s, e⟩ := x
    dsimp only at *
    go_enter Tryz.func18, Tryz.ntmps18
    go_wp2_with fail
    refine (did_at (i, j) _ _ C0.out).mono ?_
    rintro q w1 ⟨rfl, hb⟩
    replace HB := hide (andthen HB.out hb)
    replace HX := hide (HX.out.keep hb)
    replace E0 := hide (range_keep E0.out hb)
    replace a2 := hide (cell_keepA hb a2.out)
    clear hb a0 a1
    cases z0
    · go_wp2_with fail
      go_ret
      exact ⟨rfl, HB.out⟩
    go_wp2_with (refine load_event rfl _ rfl _ _ rfl _ E0.out rfl ?_)
    refine (eis_c _ _ _ _ HX.out C1.out).mono ?_
    rintro q w2 ⟨rfl, hb⟩
    replace HB := hide (andthen HB.out hb)
    replace a2 := cell_keepA hb a2.out
    clear hb E0
    cases z1
    · go_wp2_with fail
      go_ret
      exact ⟨rfl, HB.out⟩
    cases z2
    · go_wp2_with fail
      go_ret
      exact ⟨rfl, HB.out⟩
    · go_wp2_with fail
      go_ret
      exact ⟨rfl, HB.out⟩
  exact key _ _ _ _ rfl rfl rfl rfl
theorem disBk_c (x : B) (m : Mem) (b : Bool) (w : World) (h : EvL w x.e m) (hb : bkB x = b) : Calls Tryz.prog 18 #[.agg (bkC x m).toArray] w (Ans w (.bool b)) := hb ▸ disBk_any x m w h
theorem dsameBk_c (x y : B) (m n : Mem) (b : Bool) (w : World) (h : EvL w x.e m) (k : EvL w y.e n) (hb : sameBk x y = b) : Calls Tryz.prog 20 #[.agg (bkC x m).toArray, .agg (bkC y n).toArray] w (Ans w (.bool b)) := hb ▸ dsameBk_any x y m n w h k
set_option maxRecDepth 100000 in
set_option maxHeartbeats 4000000 in
theorem risBk_any (x : B) (m : Mem) (w : World) (h : EvL w x.e m) :
    Calls Tryz.prog 19 #[.agg (bkC x m).toArray] w (Ans w (.bool (bkB x))) := by
  have key : ∀ (z0 z1 z2 z3 : Bool), idB x.id = z0 → Ev.isE x.e = z1 → (x.st == 2) = z2 → (x.st == 4) = z3 → Calls Tryz.prog 19 #[.agg (bkC x m).toArray] w (Ans w (.bool (z0 && (z1 && (z2 || z3))))) := by
    intro z0 z1 z2 z3 h0 h1 h2 h3
    have HB := hide (more (start w) (.cells (bkC x m).toArray 32))
    have HX := hide (h.keep HB.out)
    have R0 := range_new w (bkC x m) 32
    have a0 := range_cell R0 0 0 _ rfl rfl
    have a1 := range_cell R0 1 1 _ rfl rfl
    have E0 := hide (range_end (pre := [.int .i64 x.id.1, .int .i64 x.id.2, .int .i64 x.st]) R0 3 rfl)
    have a2 := hide (range_cell R0 2 2 _ rfl rfl)
    have C0 := hide h0
    have C1 := hide h1
    clear h R0 h0 h1
    obtain ⟨⟨i, j⟩, s, e⟩ := x
    dsimp only at *
    go_enter Tryz.func19, Tryz.ntmps19
    go_wp2_with fail
    refine (rid_at (i, j) _ _ C0.out).mono ?_
    rintro q w1 ⟨rfl, hb⟩
    replace HB := hide (andthen HB.out hb)
    replace HX := hide (HX.out.keep hb)
    replace E0 := hide (range_keep E0.out hb)
    replace a2 := hide (cell_keepA hb a2.out)
    clear hb a0 a1
    cases z0
    · go_wp2_with fail
      go_ret
      exact ⟨rfl, HB.out⟩
    go_wp2_with (refine load_event rfl _ rfl _ _ rfl _ E0.out rfl ?_)
    refine (reis_c _ _ _ _ HX.out C1.out).mono ?_
    rintro q w2 ⟨rfl, hb⟩
    replace HB := hide (andthen HB.out hb)
    replace a2 := cell_keepA hb a2.out
    clear hb E0
    cases z1
    · go_wp2_with fail
      go_ret
      exact ⟨rfl, HB.out⟩
    cases z2
    · go_wp2_with fail
      go_ret
      exact ⟨rfl, HB.out⟩
    · go_wp2_with fail
      go_ret
      exact ⟨rfl, HB.out⟩
  exact key _ _ _ _ rfl rfl rfl rfl
theorem risBk_c (x : B) (m : Mem) (b : Bool) (w : World) (h : EvL w x.e m) (hb : bkB x = b) : Calls Tryz.prog 19 #[.agg (bkC x m).toArray] w (Ans w (.bool b)) := hb ▸ risBk_any x m w h
theorem rsameBk_c (x y : B) (m n : Mem) (b : Bool) (w : World) (h : EvL w x.e m) (k : EvL w y.e n) (hb : sameBk x y = b) : Calls Tryz.prog 21 #[.agg (bkC x m).toArray, .agg (bkC y n).toArray] w (Ans w (.bool b)) := hb ▸ rsameBk_any x y m n w h k
set_option maxRecDepth 100000 in
set_option maxHeartbeats 16000000 in
theorem dsameD_any (x y : D) (m n : DM) (w : World) (h : DL w x m) (k : DL w y n) :
    Calls Tryz.prog 39 #[.agg (dC x m).toArray, .agg (dC y n).toArray] w (Ans w (.bool (sameD x y))) := by
  have key : ∀ (z0 z1 z2 z3 z4 z5 z6 z7 : Bool), (x.kd == y.kd) = z0 → (x.id.1 == y.id.1) = z1 → (x.id.2 == y.id.2) = z2 → Ev.sameE x.e y.e = z3 → decide (x.cl = y.cl) = z4 → (x.pe == y.pe) = z5 → (x.n == y.n) = z6 → sameBk x.b y.b = z7 →
      Calls Tryz.prog 39 #[.agg (dC x m).toArray, .agg (dC y n).toArray] w (Ans w (.bool (z0 && ((z1 && z2) && (z3 && (z4 && (z5 && (z6 && z7)))))))) := by
    intro z0 z1 z2 z3 z4 z5 z6 z7 h0 h1 h2 h3 h4 h5 h6 h7
    have HB := hide (dtwo_below w (dC x m) (dC y n) 34 34)
    have HX := hide (h.keep HB.out)
    have HY := hide (k.keep HB.out)
    have R0 := dtwo_fst w (dC x m) (dC y n) 34 34
    have R1 := dtwo_snd w (dC x m) (dC y n) 34 34
    have S0 := dAt_of R0
    have S1 := dAt_of R1
    have a0 := range_cell R0 0 0 _ rfl rfl
    have a1 := range_cell R0 1 1 _ rfl rfl
    have a2 := range_cell R0 2 2 _ rfl rfl
    have a3 := range_cell R0 16 16 _ rfl rfl
    have a4 := range_cell R0 17 17 _ rfl rfl
    have a5 := range_cell R0 18 18 _ rfl rfl
    have b0 := range_cell R1 0 0 _ rfl rfl
    have b1 := range_cell R1 1 1 _ rfl rfl
    have b2 := range_cell R1 2 2 _ rfl rfl
    have b3 := range_cell R1 16 16 _ rfl rfl
    have b4 := range_cell R1 17 17 _ rfl rfl
    have b5 := range_cell R1 18 18 _ rfl rfl
    have E0 := hide S0.ev
    have E1 := hide S1.ev
    have K0 := hide S0.bk
    have K1 := hide S1.bk
    have C3 := hide h3
    have C4 := hide (fun W (u : S2.RowC W m.A x.cl) (v : S2.RowC W n.A y.cl) => ans_is (S2.equalC_any m.A n.A x.cl.length y.cl.length m.c n.c x.cl y.cl W u v rfl rfl (by have := h.cl; omega) (by have := k.cl; omega)) h4)
    have C7 := hide h7
    clear h k R0 R1 S0 S1 h3 h4 h7
    obtain ⟨kd, ⟨i, j⟩, e, cl, pe, nn, b⟩ := x
    obtain ⟨kd2, ⟨i2, j2⟩, e2, cl2, pe2, nn2, b2'⟩ := y
    dsimp only at *
    cases z0
    · go_enter Tryz.func39, Tryz.ntmps39
      go_wp2_with fail
      go_ret
      exact ⟨rfl, HB.out⟩
    cases z1
    · go_enter Tryz.func39, Tryz.ntmps39
      go_wp2_with fail
      go_ret
      exact ⟨rfl, HB.out⟩
    cases z2
    · go_enter Tryz.func39, Tryz.ntmps39
      go_wp2_with fail
      go_ret
      exact ⟨rfl, HB.out⟩
    go_enter Tryz.func39, Tryz.ntmps39
    go_wp2_with (first | refine load_event rfl _ rfl _ _ rfl _ E0.out rfl ?_ | refine load_event rfl _ rfl _ _ rfl _ E1.out rfl ?_)
    refine (esame_c _ _ _ _ _ _ HX.out.e HY.out.e C3.out).mono ?_
    rintro q w1 ⟨rfl, hb⟩
    clear a0 a1 a2 b0 b1 b2 E0 E1 h0 h1 h2
    replace HB := hide (andthen HB.out hb)
    replace HX := hide (HX.out.keep hb)
    replace HY := hide (HY.out.keep hb)
    replace K0 := hide (range_keep K0.out hb)
    replace K1 := hide (range_keep K1.out hb)
    replace a3 := cell_keepA hb a3
    replace a4 := cell_keepA hb a4
    replace a5 := cell_keepA hb a5
    replace b3 := cell_keepA hb b3
    replace b4 := cell_keepA hb b4
    replace b5 := cell_keepA hb b5
    clear hb
    cases z3
    · go_wp2_with fail
      go_ret
      exact ⟨rfl, HB.out⟩
    go_wp2_with fail
    refine (C4.out _ HX.out.c HY.out.c).mono ?_
    rintro q w2 ⟨rfl, hb⟩
    clear a3 b3
    replace HB := hide (andthen HB.out hb)
    replace HX := hide (HX.out.keep hb)
    replace HY := hide (HY.out.keep hb)
    replace K0 := hide (range_keep K0.out hb)
    replace K1 := hide (range_keep K1.out hb)
    replace a4 := cell_keepA hb a4
    replace a5 := cell_keepA hb a5
    replace b4 := cell_keepA hb b4
    replace b5 := cell_keepA hb b5
    clear hb
    cases z4
    · go_wp2_with fail
      go_ret
      exact ⟨rfl, HB.out⟩
    cases z5
    · go_wp2_with fail
      go_ret
      exact ⟨rfl, HB.out⟩
    cases z6
    · go_wp2_with fail
      go_ret
      exact ⟨rfl, HB.out⟩
    go_wp2_with (first | refine load_book rfl _ rfl _ _ rfl _ K0.out rfl ?_ | refine load_book rfl _ rfl _ _ rfl _ K1.out rfl ?_)
    refine (dsameBk_c _ _ _ _ _ _ HX.out.b HY.out.b C7.out).mono ?_
    rintro q w3 ⟨rfl, hb⟩
    replace HB := hide (andthen HB.out hb)
    clear hb
    go_wp2_with fail
    go_ret
    exact ⟨rfl, HB.out⟩
  exact key _ _ _ _ _ _ _ _ rfl rfl rfl rfl rfl rfl rfl rfl
theorem dsameD_c (x y : D) (m n : DM) (b : Bool) (w : World) (h : DL w x m) (k : DL w y n) (hb : sameD x y = b) : Calls Tryz.prog 39 #[.agg (dC x m).toArray, .agg (dC y n).toArray] w (Ans w (.bool b)) := hb ▸ dsameD_any x y m n w h k
set_option maxRecDepth 100000 in
set_option maxHeartbeats 16000000 in
theorem rsameD_any (x y : D) (m n : DM) (w : World) (h : DL w x m) (k : DL w y n) :
    Calls Tryz.prog 13 #[.agg (dC x m).toArray, .agg (dC y n).toArray] w (Ans w (.bool (sameD x y))) := by
  have key : ∀ (z0 z1 z2 z3 z4 z5 z6 z7 : Bool), (x.kd == y.kd) = z0 → (x.id.1 == y.id.1) = z1 → (x.id.2 == y.id.2) = z2 → Ev.sameE x.e y.e = z3 → decide (x.cl = y.cl) = z4 → (x.pe == y.pe) = z5 → (x.n == y.n) = z6 → sameBk x.b y.b = z7 →
      Calls Tryz.prog 13 #[.agg (dC x m).toArray, .agg (dC y n).toArray] w (Ans w (.bool (z0 && ((z1 && z2) && (z3 && (z4 && (z5 && (z6 && z7)))))))) := by
    intro z0 z1 z2 z3 z4 z5 z6 z7 h0 h1 h2 h3 h4 h5 h6 h7
    have HB := hide (dtwo_below w (dC x m) (dC y n) 34 34)
    have HX := hide (h.keep HB.out)
    have HY := hide (k.keep HB.out)
    have R0 := dtwo_fst w (dC x m) (dC y n) 34 34
    have R1 := dtwo_snd w (dC x m) (dC y n) 34 34
    have S0 := dAt_of R0
    have S1 := dAt_of R1
    have a0 := range_cell R0 0 0 _ rfl rfl
    have a1 := range_cell R0 1 1 _ rfl rfl
    have a2 := range_cell R0 2 2 _ rfl rfl
    have a3 := range_cell R0 16 16 _ rfl rfl
    have a4 := range_cell R0 17 17 _ rfl rfl
    have a5 := range_cell R0 18 18 _ rfl rfl
    have b0 := range_cell R1 0 0 _ rfl rfl
    have b1 := range_cell R1 1 1 _ rfl rfl
    have b2 := range_cell R1 2 2 _ rfl rfl
    have b3 := range_cell R1 16 16 _ rfl rfl
    have b4 := range_cell R1 17 17 _ rfl rfl
    have b5 := range_cell R1 18 18 _ rfl rfl
    have E0 := hide S0.ev
    have E1 := hide S1.ev
    have K0 := hide S0.bk
    have K1 := hide S1.bk
    have C3 := hide h3
    have C4 := hide (fun W (u : S2.RowC W m.A x.cl) (v : S2.RowC W n.A y.cl) => ans_is (S2.R.equalC_any m.A n.A x.cl.length y.cl.length m.c n.c x.cl y.cl W u v rfl rfl (by have := h.cl; omega) (by have := k.cl; omega)) h4)
    have C7 := hide h7
    clear h k R0 R1 S0 S1 h3 h4 h7
    obtain ⟨kd, ⟨i, j⟩, e, cl, pe, nn, b⟩ := x
    obtain ⟨kd2, ⟨i2, j2⟩, e2, cl2, pe2, nn2, b2'⟩ := y
    dsimp only at *
    cases z0
    · go_enter Tryz.func13, Tryz.ntmps13
      go_wp2_with fail
      go_ret
      exact ⟨rfl, HB.out⟩
    cases z1
    · go_enter Tryz.func13, Tryz.ntmps13
      go_wp2_with fail
      go_ret
      exact ⟨rfl, HB.out⟩
    cases z2
    · go_enter Tryz.func13, Tryz.ntmps13
      go_wp2_with fail
      go_ret
      exact ⟨rfl, HB.out⟩
    go_enter Tryz.func13, Tryz.ntmps13
    go_wp2_with (first | refine load_event rfl _ rfl _ _ rfl _ E0.out rfl ?_ | refine load_event rfl _ rfl _ _ rfl _ E1.out rfl ?_)
    refine (resame_c _ _ _ _ _ _ HX.out.e HY.out.e C3.out).mono ?_
    rintro q w1 ⟨rfl, hb⟩
    clear a0 a1 a2 b0 b1 b2 E0 E1 h0 h1 h2
    replace HB := hide (andthen HB.out hb)
    replace HX := hide (HX.out.keep hb)
    replace HY := hide (HY.out.keep hb)
    replace K0 := hide (range_keep K0.out hb)
    replace K1 := hide (range_keep K1.out hb)
    replace a3 := cell_keepA hb a3
    replace a4 := cell_keepA hb a4
    replace a5 := cell_keepA hb a5
    replace b3 := cell_keepA hb b3
    replace b4 := cell_keepA hb b4
    replace b5 := cell_keepA hb b5
    clear hb
    cases z3
    · go_wp2_with fail
      go_ret
      exact ⟨rfl, HB.out⟩
    go_wp2_with fail
    refine (C4.out _ HX.out.c HY.out.c).mono ?_
    rintro q w2 ⟨rfl, hb⟩
    clear a3 b3
    replace HB := hide (andthen HB.out hb)
    replace HX := hide (HX.out.keep hb)
    replace HY := hide (HY.out.keep hb)
    replace K0 := hide (range_keep K0.out hb)
    replace K1 := hide (range_keep K1.out hb)
    replace a4 := cell_keepA hb a4
    replace a5 := cell_keepA hb a5
    replace b4 := cell_keepA hb b4
    replace b5 := cell_keepA hb b5
    clear hb
    cases z4
    · go_wp2_with fail
      go_ret
      exact ⟨rfl, HB.out⟩
    cases z5
    · go_wp2_with fail
      go_ret
      exact ⟨rfl, HB.out⟩
    cases z6
    · go_wp2_with fail
      go_ret
      exact ⟨rfl, HB.out⟩
    go_wp2_with (first | refine load_book rfl _ rfl _ _ rfl _ K0.out rfl ?_ | refine load_book rfl _ rfl _ _ rfl _ K1.out rfl ?_)
    refine (rsameBk_c _ _ _ _ _ _ HX.out.b HY.out.b C7.out).mono ?_
    rintro q w3 ⟨rfl, hb⟩
    replace HB := hide (andthen HB.out hb)
    clear hb
    go_wp2_with fail
    go_ret
    exact ⟨rfl, HB.out⟩
  exact key _ _ _ _ _ _ _ _ rfl rfl rfl rfl rfl rfl rfl rfl
theorem rsameD_c (x y : D) (m n : DM) (b : Bool) (w : World) (h : DL w x m) (k : DL w y n) (hb : sameD x y = b) : Calls Tryz.prog 13 #[.agg (dC x m).toArray, .agg (dC y n).toArray] w (Ans w (.bool b)) := hb ▸ rsameD_any x y m n w h k
end Go.Proofs.YtocnobgdlgndjaaGreat

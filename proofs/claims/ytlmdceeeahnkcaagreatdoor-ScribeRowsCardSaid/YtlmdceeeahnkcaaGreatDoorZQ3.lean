/- DeD; DeE of the recipes, what is needed of them. -/
import Derived.Test.YtlmdceeeahnkcaaGreatDoorBC4
import Derived.Test.YtlmdceeeahnkcaaGreatDoorBC7
import Derived.Test.YtlmdceeeahnkcaaGreatDoorZQ2
namespace Go.Proofs.YtlmdceeeahnkcaaGreatDoor
open Go.RowKit Rul De Cl Go.Sort

theorem S2.neatC_le (l : List C) : (neatC l).length ≤ 8 * l.length := S2.outC_le (neatF l) l.length fun r _ => S2.neatF_len l r
set_option maxHeartbeats 1600000 in
theorem dneat_any (A : Option Addr) (c : Nat) (l : List C) (b : Bool) (w : World) (h : S2.RowC w A l) (_hn : l.length ≤ 10000) (hb : neatB l = b) :
    Calls Tryz.prog 33 #[.slice A l.length c] w (Ans w (.bool b)) := by
  have HR := hide h
  subst hb
  by_cases h0 : 0 < l.length
  · have e0 : (0 : Int) < (l.length : Int) := by omega
    by_cases h1 : l.length ≤ 160
    · have HN := hide (Nat.le_trans h1 (by decide : 160 ≤ 300))
      have e1 : (l.length : Int) ≤ 160 := by omega
      have HE := hide (show neatB l = decide (l = neatC l) by unfold neatB; rw [decide_eq_true h0, decide_eq_true h1, Bool.true_and, Bool.true_and])
      have HL := hide (S2.neatC_le l)
      clear h h0 h1
      go_enter Tryz.func33, Tryz.ntmps33
      go_wp2_with fail
      refine (S2.Neat_any A _ c l _ HR.out rfl (by have := HN.out; omega)).mono ?_
      rintro q w1 ⟨v, rfl, ho, hb⟩
      obtain ⟨A2, c2, rfl, hr⟩ := S2.OwnC.row ho
      have HR2 := hide hr
      have HB := hide hb
      replace HR := hide (HR.out.keep hb)
      clear ho hr hb
      go_wp2_with fail
      refine (S2.equalC_any A A2 _ _ c c2 l (neatC l) _ HR.out HR2.out rfl rfl (by have := HN.out; omega) (by have := HN.out; have := HL.out; omega)).mono ?_
      rintro q w2 ⟨rfl, hb⟩
      replace HB := hide (andthen HB.out hb)
      clear hb
      go_wp2_with fail
      go_ret
      exact ⟨ret_bool HE.out.symm, HB.out⟩
    · have e1 : ¬ (l.length : Int) ≤ 160 := by omega
      have HE := hide (show neatB l = false by unfold neatB; rw [decide_eq_false h1, Bool.false_and, Bool.and_false])
      clear h h0 h1
      go_enter Tryz.func33, Tryz.ntmps33
      go_wp2_with fail
      go_ret
      exact ⟨ret_bool HE.out.symm, start _⟩
  · have e0 : ¬ (0 : Int) < (l.length : Int) := by omega
    have HE := hide (show neatB l = false by unfold neatB; rw [decide_eq_false h0, Bool.false_and])
    clear h h0
    go_enter Tryz.func33, Tryz.ntmps33
    go_wp2_with fail
    go_ret
    exact ⟨ret_bool HE.out.symm, start _⟩
set_option maxHeartbeats 1600000 in
theorem rneat_any (A : Option Addr) (c : Nat) (l : List C) (b : Bool) (w : World) (h : S2.RowC w A l) (_hn : l.length ≤ 10000) (hb : neatB l = b) :
    Calls Tryz.prog 22 #[.slice A l.length c] w (Ans w (.bool b)) := by
  have HR := hide h
  subst hb
  by_cases h0 : 0 < l.length
  · have e0 : (0 : Int) < (l.length : Int) := by omega
    by_cases h1 : l.length ≤ 160
    · have HN := hide (Nat.le_trans h1 (by decide : 160 ≤ 300))
      have e1 : (l.length : Int) ≤ 160 := by omega
      have HE := hide (show neatB l = decide (l = neatC l) by unfold neatB; rw [decide_eq_true h0, decide_eq_true h1, Bool.true_and, Bool.true_and])
      have HL := hide (S2.neatC_le l)
      clear h h0 h1
      go_enter Tryz.func22, Tryz.ntmps22
      go_wp2_with fail
      refine (S2.R.Neat_any A _ c l _ HR.out rfl (by have := HN.out; omega)).mono ?_
      rintro q w1 ⟨v, rfl, ho, hb⟩
      obtain ⟨A2, c2, rfl, hr⟩ := S2.OwnC.row ho
      have HR2 := hide hr
      have HB := hide hb
      replace HR := hide (HR.out.keep hb)
      clear ho hr hb
      go_wp2_with fail
      refine (S2.R.equalC_any A A2 _ _ c c2 l (neatC l) _ HR.out HR2.out rfl rfl (by have := HN.out; omega) (by have := HN.out; have := HL.out; omega)).mono ?_
      rintro q w2 ⟨rfl, hb⟩
      replace HB := hide (andthen HB.out hb)
      clear hb
      go_wp2_with fail
      go_ret
      exact ⟨ret_bool HE.out.symm, HB.out⟩
    · have e1 : ¬ (l.length : Int) ≤ 160 := by omega
      have HE := hide (show neatB l = false by unfold neatB; rw [decide_eq_false h1, Bool.false_and, Bool.and_false])
      clear h h0 h1
      go_enter Tryz.func22, Tryz.ntmps22
      go_wp2_with fail
      go_ret
      exact ⟨ret_bool HE.out.symm, start _⟩
  · have e0 : ¬ (0 : Int) < (l.length : Int) := by omega
    have HE := hide (show neatB l = false by unfold neatB; rw [decide_eq_false h0, Bool.false_and])
    clear h h0
    go_enter Tryz.func22, Tryz.ntmps22
    go_wp2_with fail
    go_ret
    exact ⟨ret_bool HE.out.symm, start _⟩
end Go.Proofs.YtlmdceeeahnkcaaGreatDoor
namespace Go.Proofs.YtlmdceeeahnkcaaGreatDoor
open Go.RowKit Rul De Cl Go.Sort

/-- nothing in memory. -/
def mZ : Mem := ⟨none, 0, none, 0, none, 0, none, 0, none, 0⟩
theorem evZ (w : World) : EvL w e0 mZ := ⟨fun h => absurd rfl h, by decide, lies_once _, fun h => absurd rfl h, by decide, by decide, by decide⟩
theorem dL1 {w : World} {d : D} {m : DM} (h : DL w d m) : DL w ⟨d.kd, d.id, d.e, [], 0, 0, b0⟩ ⟨m.e, none, 0, mZ⟩ := ⟨h.e, S2.RowC.nil _ _, Nat.zero_le _, evZ _⟩
set_option maxRecDepth 100000 in
set_option maxHeartbeats 16000000 in
theorem dIs1 (d : D) (m : DM) (w : World) (h : DL w d m) (hk : d.kd = 1 ∨ d.kd = 2) : ∀ (z0 z1 z2 : Bool), idB d.id = z0 → Ev.isE d.e = z1 → sameD d ⟨d.kd, d.id, d.e, [], 0, 0, b0⟩ = z2 →
    Calls Tryz.prog 15 #[.agg (dC d m).toArray] w (Ans w (.bool (z0 && (z1 && (z2))))) := by
  intro z0 z1 z2 h0 h1 h2
  have HB := hide (more (start w) (.cells (dC d m).toArray 34))
  have HL := hide (h.keep HB.out)
  have R0 := range_new w (dC d m) 34
  have S0 := dAt_of R0
  have a0 := range_cell R0 0 0 _ rfl rfl
  have a1 := range_cell R0 1 1 _ rfl rfl
  have a2 := range_cell R0 2 2 _ rfl rfl
  have a3 := range_cell R0 16 16 _ rfl rfl
  have a4 := range_cell R0 17 17 _ rfl rfl
  have a5 := range_cell R0 18 18 _ rfl rfl
  have a6 := range_cell R0 20 20 _ rfl rfl
  have R := hide R0
  have E0 := hide S0.ev
  have K0 := hide S0.bk
  have C0 := hide h0
  clear h0
  have C1 := hide h1
  clear h1
  have CS := hide h2
  clear h R0 S0 h2
  obtain ⟨kd, ⟨i, j⟩, e, cl, pe, nn, ⟨⟨i2, j2⟩, st, e2⟩⟩ := d
  dsimp only at *
  rcases hk with rfl | rfl
  · go_enter Tryz.func15, Tryz.ntmps15
    go_wp2_with fail
    refine (did_at (i, j) _ _ C0.out).mono ?_
    rintro q w1 ⟨rfl, hb⟩
    replace HB := hide (andthen HB.out hb)
    replace HL := hide (HL.out.keep hb)
    replace R := hide (range_keep R.out hb)
    replace E0 := hide (range_keep E0.out hb)
    replace K0 := hide (range_keep K0.out hb)
    replace a0 := cell_keepA hb a0
    replace a1 := cell_keepA hb a1
    replace a2 := cell_keepA hb a2
    replace a3 := cell_keepA hb a3
    replace a4 := cell_keepA hb a4
    replace a5 := cell_keepA hb a5
    replace a6 := cell_keepA hb a6
    clear hb
    cases z0
    · go_wp2_with fail
      go_ret
      exact ⟨rfl, HB.out⟩
    go_wp2_with (first | refine load_event rfl _ rfl _ _ rfl _ E0.out rfl ?_ | refine load_book rfl _ rfl _ _ rfl _ K0.out rfl ?_)
    refine (eis_c _ _ _ _ HL.out.e C1.out).mono ?_
    rintro q w2 ⟨rfl, hb⟩
    replace HB := hide (andthen HB.out hb)
    replace HL := hide (HL.out.keep hb)
    replace R := hide (range_keep R.out hb)
    replace E0 := hide (range_keep E0.out hb)
    replace K0 := hide (range_keep K0.out hb)
    replace a0 := cell_keepA hb a0
    replace a1 := cell_keepA hb a1
    replace a2 := cell_keepA hb a2
    replace a3 := cell_keepA hb a3
    replace a4 := cell_keepA hb a4
    replace a5 := cell_keepA hb a5
    replace a6 := cell_keepA hb a6
    clear hb
    cases z1
    · go_wp2_with fail
      go_ret
      exact ⟨rfl, HB.out⟩
    go_wp2_with (first | refine load_deed rfl _ rfl _ _ rfl _ R.out rfl ?_ | refine load_event rfl _ rfl _ _ rfl _ E0.out rfl ?_ | refine load_book rfl _ rfl _ _ rfl _ K0.out rfl ?_ | refine build_at rfl _ _ rfl (dC (⟨1, (i, j), e, [], 0, 0, b0⟩) (⟨m.e, none, 0, mZ⟩)).toArray (by kernel_rfl) ?_ | refine two_deeds rfl _ _ rfl _ _ rfl rfl rfl rfl _ rfl ?_)
    refine (dpair _ _ ⟨1, (i, j), e, [], 0, 0, b0⟩ _ ⟨m.e, none, 0, mZ⟩ _ HL.out (dL1 HL.out) CS.out _ rfl).mono ?_
    rintro q wl ⟨rfl, hb⟩
    replace HB := hide (andthen HB.out hb)
    clear hb
    go_wp2_with fail
    go_ret
    exact ⟨rfl, HB.out⟩
  · go_enter Tryz.func15, Tryz.ntmps15
    go_wp2_with fail
    refine (did_at (i, j) _ _ C0.out).mono ?_
    rintro q w1 ⟨rfl, hb⟩
    replace HB := hide (andthen HB.out hb)
    replace HL := hide (HL.out.keep hb)
    replace R := hide (range_keep R.out hb)
    replace E0 := hide (range_keep E0.out hb)
    replace K0 := hide (range_keep K0.out hb)
    replace a0 := cell_keepA hb a0
    replace a1 := cell_keepA hb a1
    replace a2 := cell_keepA hb a2
    replace a3 := cell_keepA hb a3
    replace a4 := cell_keepA hb a4
    replace a5 := cell_keepA hb a5
    replace a6 := cell_keepA hb a6
    clear hb
    cases z0
    · go_wp2_with fail
      go_ret
      exact ⟨rfl, HB.out⟩
    go_wp2_with (first | refine load_event rfl _ rfl _ _ rfl _ E0.out rfl ?_ | refine load_book rfl _ rfl _ _ rfl _ K0.out rfl ?_)
    refine (eis_c _ _ _ _ HL.out.e C1.out).mono ?_
    rintro q w2 ⟨rfl, hb⟩
    replace HB := hide (andthen HB.out hb)
    replace HL := hide (HL.out.keep hb)
    replace R := hide (range_keep R.out hb)
    replace E0 := hide (range_keep E0.out hb)
    replace K0 := hide (range_keep K0.out hb)
    replace a0 := cell_keepA hb a0
    replace a1 := cell_keepA hb a1
    replace a2 := cell_keepA hb a2
    replace a3 := cell_keepA hb a3
    replace a4 := cell_keepA hb a4
    replace a5 := cell_keepA hb a5
    replace a6 := cell_keepA hb a6
    clear hb
    cases z1
    · go_wp2_with fail
      go_ret
      exact ⟨rfl, HB.out⟩
    go_wp2_with (first | refine load_deed rfl _ rfl _ _ rfl _ R.out rfl ?_ | refine load_event rfl _ rfl _ _ rfl _ E0.out rfl ?_ | refine load_book rfl _ rfl _ _ rfl _ K0.out rfl ?_ | refine build_at rfl _ _ rfl (dC (⟨2, (i, j), e, [], 0, 0, b0⟩) (⟨m.e, none, 0, mZ⟩)).toArray (by kernel_rfl) ?_ | refine two_deeds rfl _ _ rfl _ _ rfl rfl rfl rfl _ rfl ?_)
    refine (dpair _ _ ⟨2, (i, j), e, [], 0, 0, b0⟩ _ ⟨m.e, none, 0, mZ⟩ _ HL.out (dL1 HL.out) CS.out _ rfl).mono ?_
    rintro q wl ⟨rfl, hb⟩
    replace HB := hide (andthen HB.out hb)
    clear hb
    go_wp2_with fail
    go_ret
    exact ⟨rfl, HB.out⟩
theorem dL3 {w : World} {d : D} {m : DM} (_h : DL w d m) : DL w ⟨d.kd, d.id, e0, [], 0, 0, b0⟩ ⟨mZ, none, 0, mZ⟩ := ⟨evZ _, S2.RowC.nil _ _, Nat.zero_le _, evZ _⟩
set_option maxRecDepth 100000 in
set_option maxHeartbeats 16000000 in
theorem dIs3 (d : D) (m : DM) (w : World) (h : DL w d m) (hk : d.kd = 3 ∨ d.kd = 4) : ∀ (z0 z1 : Bool), idB d.id = z0 → sameD d ⟨d.kd, d.id, e0, [], 0, 0, b0⟩ = z1 →
    Calls Tryz.prog 15 #[.agg (dC d m).toArray] w (Ans w (.bool (z0 && (z1)))) := by
  intro z0 z1 h0 h1
  have HB := hide (more (start w) (.cells (dC d m).toArray 34))
  have HL := hide (h.keep HB.out)
  have R0 := range_new w (dC d m) 34
  have S0 := dAt_of R0
  have a0 := range_cell R0 0 0 _ rfl rfl
  have a1 := range_cell R0 1 1 _ rfl rfl
  have a2 := range_cell R0 2 2 _ rfl rfl
  have a3 := range_cell R0 16 16 _ rfl rfl
  have a4 := range_cell R0 17 17 _ rfl rfl
  have a5 := range_cell R0 18 18 _ rfl rfl
  have a6 := range_cell R0 20 20 _ rfl rfl
  have R := hide R0
  have E0 := hide S0.ev
  have K0 := hide S0.bk
  have C0 := hide h0
  clear h0
  have CS := hide h1
  clear h R0 S0 h1
  obtain ⟨kd, ⟨i, j⟩, e, cl, pe, nn, ⟨⟨i2, j2⟩, st, e2⟩⟩ := d
  dsimp only at *
  rcases hk with rfl | rfl
  · go_enter Tryz.func15, Tryz.ntmps15
    go_wp2_with fail
    refine (did_at (i, j) _ _ C0.out).mono ?_
    rintro q w1 ⟨rfl, hb⟩
    replace HB := hide (andthen HB.out hb)
    replace HL := hide (HL.out.keep hb)
    replace R := hide (range_keep R.out hb)
    replace E0 := hide (range_keep E0.out hb)
    replace K0 := hide (range_keep K0.out hb)
    replace a0 := cell_keepA hb a0
    replace a1 := cell_keepA hb a1
    replace a2 := cell_keepA hb a2
    replace a3 := cell_keepA hb a3
    replace a4 := cell_keepA hb a4
    replace a5 := cell_keepA hb a5
    replace a6 := cell_keepA hb a6
    clear hb
    cases z0
    · go_wp2_with fail
      go_ret
      exact ⟨rfl, HB.out⟩
    go_wp2_with (first | refine load_deed rfl _ rfl _ _ rfl _ R.out rfl ?_ | refine load_event rfl _ rfl _ _ rfl _ E0.out rfl ?_ | refine load_book rfl _ rfl _ _ rfl _ K0.out rfl ?_ | refine build_at rfl _ _ rfl (dC (⟨3, (i, j), e0, [], 0, 0, b0⟩) (⟨mZ, none, 0, mZ⟩)).toArray (by kernel_rfl) ?_ | refine two_deeds rfl _ _ rfl _ _ rfl rfl rfl rfl _ rfl ?_)
    refine (dpair _ _ ⟨3, (i, j), e0, [], 0, 0, b0⟩ _ ⟨mZ, none, 0, mZ⟩ _ HL.out (dL3 HL.out) CS.out _ rfl).mono ?_
    rintro q wl ⟨rfl, hb⟩
    replace HB := hide (andthen HB.out hb)
    clear hb
    go_wp2_with fail
    go_ret
    exact ⟨rfl, HB.out⟩
  · go_enter Tryz.func15, Tryz.ntmps15
    go_wp2_with fail
    refine (did_at (i, j) _ _ C0.out).mono ?_
    rintro q w1 ⟨rfl, hb⟩
    replace HB := hide (andthen HB.out hb)
    replace HL := hide (HL.out.keep hb)
    replace R := hide (range_keep R.out hb)
    replace E0 := hide (range_keep E0.out hb)
    replace K0 := hide (range_keep K0.out hb)
    replace a0 := cell_keepA hb a0
    replace a1 := cell_keepA hb a1
    replace a2 := cell_keepA hb a2
    replace a3 := cell_keepA hb a3
    replace a4 := cell_keepA hb a4
    replace a5 := cell_keepA hb a5
    replace a6 := cell_keepA hb a6
    clear hb
    cases z0
    · go_wp2_with fail
      go_ret
      exact ⟨rfl, HB.out⟩
    go_wp2_with (first | refine load_deed rfl _ rfl _ _ rfl _ R.out rfl ?_ | refine load_event rfl _ rfl _ _ rfl _ E0.out rfl ?_ | refine load_book rfl _ rfl _ _ rfl _ K0.out rfl ?_ | refine build_at rfl _ _ rfl (dC (⟨4, (i, j), e0, [], 0, 0, b0⟩) (⟨mZ, none, 0, mZ⟩)).toArray (by kernel_rfl) ?_ | refine two_deeds rfl _ _ rfl _ _ rfl rfl rfl rfl _ rfl ?_)
    refine (dpair _ _ ⟨4, (i, j), e0, [], 0, 0, b0⟩ _ ⟨mZ, none, 0, mZ⟩ _ HL.out (dL3 HL.out) CS.out _ rfl).mono ?_
    rintro q wl ⟨rfl, hb⟩
    replace HB := hide (andthen HB.out hb)
    clear hb
    go_wp2_with fail
    go_ret
    exact ⟨rfl, HB.out⟩
theorem dL5 {w : World} {d : D} {m : DM} (h : DL w d m) : DL w ⟨d.kd, (0, 0), e0, d.cl, d.pe, d.n, b0⟩ ⟨mZ, m.A, m.c, mZ⟩ := ⟨evZ _, h.c, h.cl, evZ _⟩
set_option maxRecDepth 100000 in
set_option maxHeartbeats 16000000 in
theorem dIs5 (d : D) (m : DM) (w : World) (h : DL w d m) (hk : d.kd = 5 ∨ d.kd = 6) : ∀ (z0 z1 z2 z3 : Bool), neatB d.cl = z0 → peB d.pe = z1 → seqB d.n = z2 → sameD d ⟨d.kd, (0, 0), e0, d.cl, d.pe, d.n, b0⟩ = z3 →
    Calls Tryz.prog 15 #[.agg (dC d m).toArray] w (Ans w (.bool (z0 && (z1 && (z2 && (z3)))))) := by
  intro z0 z1 z2 z3 h0 h1 h2 h3
  have HB := hide (more (start w) (.cells (dC d m).toArray 34))
  have HL := hide (h.keep HB.out)
  have R0 := range_new w (dC d m) 34
  have S0 := dAt_of R0
  have a0 := range_cell R0 0 0 _ rfl rfl
  have a1 := range_cell R0 1 1 _ rfl rfl
  have a2 := range_cell R0 2 2 _ rfl rfl
  have a3 := range_cell R0 16 16 _ rfl rfl
  have a4 := range_cell R0 17 17 _ rfl rfl
  have a5 := range_cell R0 18 18 _ rfl rfl
  have a6 := range_cell R0 20 20 _ rfl rfl
  have R := hide R0
  have E0 := hide S0.ev
  have K0 := hide S0.bk
  have C0 := hide h0
  clear h0
  have C1 := hide h1
  clear h1
  have C2 := hide h2
  clear h2
  have CS := hide h3
  clear h R0 S0 h3
  obtain ⟨kd, ⟨i, j⟩, e, cl, pe, nn, ⟨⟨i2, j2⟩, st, e2⟩⟩ := d
  dsimp only at *
  rcases hk with rfl | rfl
  · go_enter Tryz.func15, Tryz.ntmps15
    go_wp2_with fail
    refine (dneat_any _ _ _ _ _ HL.out.c (by have := HL.out.cl; omega) C0.out).mono ?_
    rintro q w1 ⟨rfl, hb⟩
    replace HB := hide (andthen HB.out hb)
    replace HL := hide (HL.out.keep hb)
    replace R := hide (range_keep R.out hb)
    replace E0 := hide (range_keep E0.out hb)
    replace K0 := hide (range_keep K0.out hb)
    replace a0 := cell_keepA hb a0
    replace a1 := cell_keepA hb a1
    replace a2 := cell_keepA hb a2
    replace a3 := cell_keepA hb a3
    replace a4 := cell_keepA hb a4
    replace a5 := cell_keepA hb a5
    replace a6 := cell_keepA hb a6
    clear hb
    cases z0
    · go_wp2_with fail
      go_ret
      exact ⟨rfl, HB.out⟩
    go_wp2_with (first | refine load_event rfl _ rfl _ _ rfl _ E0.out rfl ?_ | refine load_book rfl _ rfl _ _ rfl _ K0.out rfl ?_)
    refine (dpeer_at _ _ _ C1.out).mono ?_
    rintro q w2 ⟨rfl, hb⟩
    replace HB := hide (andthen HB.out hb)
    replace HL := hide (HL.out.keep hb)
    replace R := hide (range_keep R.out hb)
    replace E0 := hide (range_keep E0.out hb)
    replace K0 := hide (range_keep K0.out hb)
    replace a0 := cell_keepA hb a0
    replace a1 := cell_keepA hb a1
    replace a2 := cell_keepA hb a2
    replace a3 := cell_keepA hb a3
    replace a4 := cell_keepA hb a4
    replace a5 := cell_keepA hb a5
    replace a6 := cell_keepA hb a6
    clear hb
    cases z1
    · go_wp2_with fail
      go_ret
      exact ⟨rfl, HB.out⟩
    go_wp2_with (first | refine load_event rfl _ rfl _ _ rfl _ E0.out rfl ?_ | refine load_book rfl _ rfl _ _ rfl _ K0.out rfl ?_)
    refine (dseq_at _ _ _ C2.out).mono ?_
    rintro q w3 ⟨rfl, hb⟩
    replace HB := hide (andthen HB.out hb)
    replace HL := hide (HL.out.keep hb)
    replace R := hide (range_keep R.out hb)
    replace E0 := hide (range_keep E0.out hb)
    replace K0 := hide (range_keep K0.out hb)
    replace a0 := cell_keepA hb a0
    replace a1 := cell_keepA hb a1
    replace a2 := cell_keepA hb a2
    replace a3 := cell_keepA hb a3
    replace a4 := cell_keepA hb a4
    replace a5 := cell_keepA hb a5
    replace a6 := cell_keepA hb a6
    clear hb
    cases z2
    · go_wp2_with fail
      go_ret
      exact ⟨rfl, HB.out⟩
    go_wp2_with (first | refine load_deed rfl _ rfl _ _ rfl _ R.out rfl ?_ | refine load_event rfl _ rfl _ _ rfl _ E0.out rfl ?_ | refine load_book rfl _ rfl _ _ rfl _ K0.out rfl ?_ | refine build_at rfl _ _ rfl (dC (⟨5, (0, 0), e0, cl, pe, nn, b0⟩) (⟨mZ, m.A, m.c, mZ⟩)).toArray (by kernel_rfl) ?_ | refine two_deeds rfl _ _ rfl _ _ rfl rfl rfl rfl _ rfl ?_)
    refine (dpair _ _ ⟨5, (0, 0), e0, cl, pe, nn, b0⟩ _ ⟨mZ, m.A, m.c, mZ⟩ _ HL.out (dL5 HL.out) CS.out _ rfl).mono ?_
    rintro q wl ⟨rfl, hb⟩
    replace HB := hide (andthen HB.out hb)
    clear hb
    go_wp2_with fail
    go_ret
    exact ⟨rfl, HB.out⟩
  · go_enter Tryz.func15, Tryz.ntmps15
    go_wp2_with fail
    refine (dneat_any _ _ _ _ _ HL.out.c (by have := HL.out.cl; omega) C0.out).mono ?_
    rintro q w1 ⟨rfl, hb⟩
    replace HB := hide (andthen HB.out hb)
    replace HL := hide (HL.out.keep hb)
    replace R := hide (range_keep R.out hb)
    replace E0 := hide (range_keep E0.out hb)
    replace K0 := hide (range_keep K0.out hb)
    replace a0 := cell_keepA hb a0
    replace a1 := cell_keepA hb a1
    replace a2 := cell_keepA hb a2
    replace a3 := cell_keepA hb a3
    replace a4 := cell_keepA hb a4
    replace a5 := cell_keepA hb a5
    replace a6 := cell_keepA hb a6
    clear hb
    cases z0
    · go_wp2_with fail
      go_ret
      exact ⟨rfl, HB.out⟩
    go_wp2_with (first | refine load_event rfl _ rfl _ _ rfl _ E0.out rfl ?_ | refine load_book rfl _ rfl _ _ rfl _ K0.out rfl ?_)
    refine (dpeer_at _ _ _ C1.out).mono ?_
    rintro q w2 ⟨rfl, hb⟩
    replace HB := hide (andthen HB.out hb)
    replace HL := hide (HL.out.keep hb)
    replace R := hide (range_keep R.out hb)
    replace E0 := hide (range_keep E0.out hb)
    replace K0 := hide (range_keep K0.out hb)
    replace a0 := cell_keepA hb a0
    replace a1 := cell_keepA hb a1
    replace a2 := cell_keepA hb a2
    replace a3 := cell_keepA hb a3
    replace a4 := cell_keepA hb a4
    replace a5 := cell_keepA hb a5
    replace a6 := cell_keepA hb a6
    clear hb
    cases z1
    · go_wp2_with fail
      go_ret
      exact ⟨rfl, HB.out⟩
    go_wp2_with (first | refine load_event rfl _ rfl _ _ rfl _ E0.out rfl ?_ | refine load_book rfl _ rfl _ _ rfl _ K0.out rfl ?_)
    refine (dseq_at _ _ _ C2.out).mono ?_
    rintro q w3 ⟨rfl, hb⟩
    replace HB := hide (andthen HB.out hb)
    replace HL := hide (HL.out.keep hb)
    replace R := hide (range_keep R.out hb)
    replace E0 := hide (range_keep E0.out hb)
    replace K0 := hide (range_keep K0.out hb)
    replace a0 := cell_keepA hb a0
    replace a1 := cell_keepA hb a1
    replace a2 := cell_keepA hb a2
    replace a3 := cell_keepA hb a3
    replace a4 := cell_keepA hb a4
    replace a5 := cell_keepA hb a5
    replace a6 := cell_keepA hb a6
    clear hb
    cases z2
    · go_wp2_with fail
      go_ret
      exact ⟨rfl, HB.out⟩
    go_wp2_with (first | refine load_deed rfl _ rfl _ _ rfl _ R.out rfl ?_ | refine load_event rfl _ rfl _ _ rfl _ E0.out rfl ?_ | refine load_book rfl _ rfl _ _ rfl _ K0.out rfl ?_ | refine build_at rfl _ _ rfl (dC (⟨6, (0, 0), e0, cl, pe, nn, b0⟩) (⟨mZ, m.A, m.c, mZ⟩)).toArray (by kernel_rfl) ?_ | refine two_deeds rfl _ _ rfl _ _ rfl rfl rfl rfl _ rfl ?_)
    refine (dpair _ _ ⟨6, (0, 0), e0, cl, pe, nn, b0⟩ _ ⟨mZ, m.A, m.c, mZ⟩ _ HL.out (dL5 HL.out) CS.out _ rfl).mono ?_
    rintro q wl ⟨rfl, hb⟩
    replace HB := hide (andthen HB.out hb)
    clear hb
    go_wp2_with fail
    go_ret
    exact ⟨rfl, HB.out⟩
theorem dL7 {w : World} {d : D} {m : DM} (_h : DL w d m) : DL w ⟨d.kd, (0, 0), e0, [], d.pe, d.n, b0⟩ ⟨mZ, none, 0, mZ⟩ := ⟨evZ _, S2.RowC.nil _ _, Nat.zero_le _, evZ _⟩
set_option maxRecDepth 100000 in
set_option maxHeartbeats 16000000 in
theorem dIs7 (d : D) (m : DM) (w : World) (h : DL w d m) (hk : d.kd = 7) : ∀ (z0 z1 z2 : Bool), peB d.pe = z0 → seqB d.n = z1 → sameD d ⟨d.kd, (0, 0), e0, [], d.pe, d.n, b0⟩ = z2 →
    Calls Tryz.prog 15 #[.agg (dC d m).toArray] w (Ans w (.bool (z0 && (z1 && (z2))))) := by
  intro z0 z1 z2 h0 h1 h2
  have HB := hide (more (start w) (.cells (dC d m).toArray 34))
  have HL := hide (h.keep HB.out)
  have R0 := range_new w (dC d m) 34
  have S0 := dAt_of R0
  have a0 := range_cell R0 0 0 _ rfl rfl
  have a1 := range_cell R0 1 1 _ rfl rfl
  have a2 := range_cell R0 2 2 _ rfl rfl
  have a3 := range_cell R0 16 16 _ rfl rfl
  have a4 := range_cell R0 17 17 _ rfl rfl
  have a5 := range_cell R0 18 18 _ rfl rfl
  have a6 := range_cell R0 20 20 _ rfl rfl
  have R := hide R0
  have E0 := hide S0.ev
  have K0 := hide S0.bk
  have C0 := hide h0
  clear h0
  have C1 := hide h1
  clear h1
  have CS := hide h2
  clear h R0 S0 h2
  obtain ⟨kd, ⟨i, j⟩, e, cl, pe, nn, ⟨⟨i2, j2⟩, st, e2⟩⟩ := d
  dsimp only at *
  subst hk
  go_enter Tryz.func15, Tryz.ntmps15
  go_wp2_with fail
  refine (dpeer_at _ _ _ C0.out).mono ?_
  rintro q w1 ⟨rfl, hb⟩
  replace HB := hide (andthen HB.out hb)
  replace HL := hide (HL.out.keep hb)
  replace R := hide (range_keep R.out hb)
  replace E0 := hide (range_keep E0.out hb)
  replace K0 := hide (range_keep K0.out hb)
  replace a0 := cell_keepA hb a0
  replace a1 := cell_keepA hb a1
  replace a2 := cell_keepA hb a2
  replace a3 := cell_keepA hb a3
  replace a4 := cell_keepA hb a4
  replace a5 := cell_keepA hb a5
  replace a6 := cell_keepA hb a6
  clear hb
  cases z0
  · go_wp2_with fail
    go_ret
    exact ⟨rfl, HB.out⟩
  go_wp2_with (first | refine load_event rfl _ rfl _ _ rfl _ E0.out rfl ?_ | refine load_book rfl _ rfl _ _ rfl _ K0.out rfl ?_)
  refine (dseq_at _ _ _ C1.out).mono ?_
  rintro q w2 ⟨rfl, hb⟩
  replace HB := hide (andthen HB.out hb)
  replace HL := hide (HL.out.keep hb)
  replace R := hide (range_keep R.out hb)
  replace E0 := hide (range_keep E0.out hb)
  replace K0 := hide (range_keep K0.out hb)
  replace a0 := cell_keepA hb a0
  replace a1 := cell_keepA hb a1
  replace a2 := cell_keepA hb a2
  replace a3 := cell_keepA hb a3
  replace a4 := cell_keepA hb a4
  replace a5 := cell_keepA hb a5
  replace a6 := cell_keepA hb a6
  clear hb
  cases z1
  · go_wp2_with fail
    go_ret
    exact ⟨rfl, HB.out⟩
  go_wp2_with (first | refine load_deed rfl _ rfl _ _ rfl _ R.out rfl ?_ | refine load_event rfl _ rfl _ _ rfl _ E0.out rfl ?_ | refine load_book rfl _ rfl _ _ rfl _ K0.out rfl ?_ | refine build_at rfl _ _ rfl (dC (⟨7, (0, 0), e0, [], pe, nn, b0⟩) (⟨mZ, none, 0, mZ⟩)).toArray (by kernel_rfl) ?_ | refine two_deeds rfl _ _ rfl _ _ rfl rfl rfl rfl _ rfl ?_)
  refine (dpair _ _ ⟨7, (0, 0), e0, [], pe, nn, b0⟩ _ ⟨mZ, none, 0, mZ⟩ _ HL.out (dL7 HL.out) CS.out _ rfl).mono ?_
  rintro q wl ⟨rfl, hb⟩
  replace HB := hide (andthen HB.out hb)
  clear hb
  go_wp2_with fail
  go_ret
  exact ⟨rfl, HB.out⟩
theorem dL8 {w : World} {d : D} {m : DM} (h : DL w d m) : DL w ⟨d.kd, (0, 0), e0, [], d.pe, d.n, d.b⟩ ⟨mZ, none, 0, m.b⟩ := ⟨evZ _, S2.RowC.nil _ _, Nat.zero_le _, h.b⟩
set_option maxRecDepth 100000 in
set_option maxHeartbeats 16000000 in
theorem dIs8 (d : D) (m : DM) (w : World) (h : DL w d m) (hk : d.kd = 8) : ∀ (z0 z1 z2 z3 z4 : Bool), peB d.pe = z0 → seqB d.n = z1 → bkB d.b = z2 → (d.b.id.2 == d.pe) = z3 → sameD d ⟨d.kd, (0, 0), e0, [], d.pe, d.n, d.b⟩ = z4 →
    Calls Tryz.prog 15 #[.agg (dC d m).toArray] w (Ans w (.bool (z0 && (z1 && (z2 && (z3 && (z4))))))) := by
  intro z0 z1 z2 z3 z4 h0 h1 h2 h3 h4
  have HB := hide (more (start w) (.cells (dC d m).toArray 34))
  have HL := hide (h.keep HB.out)
  have R0 := range_new w (dC d m) 34
  have S0 := dAt_of R0
  have a0 := range_cell R0 0 0 _ rfl rfl
  have a1 := range_cell R0 1 1 _ rfl rfl
  have a2 := range_cell R0 2 2 _ rfl rfl
  have a3 := range_cell R0 16 16 _ rfl rfl
  have a4 := range_cell R0 17 17 _ rfl rfl
  have a5 := range_cell R0 18 18 _ rfl rfl
  have a6 := range_cell R0 20 20 _ rfl rfl
  have R := hide R0
  have E0 := hide S0.ev
  have K0 := hide S0.bk
  have C0 := hide h0
  clear h0
  have C1 := hide h1
  clear h1
  have C2 := hide h2
  clear h2
  have CS := hide h4
  clear h R0 S0 h4
  obtain ⟨kd, ⟨i, j⟩, e, cl, pe, nn, ⟨⟨i2, j2⟩, st, e2⟩⟩ := d
  dsimp only at *
  subst hk
  go_enter Tryz.func15, Tryz.ntmps15
  go_wp2_with fail
  refine (dpeer_at _ _ _ C0.out).mono ?_
  rintro q w1 ⟨rfl, hb⟩
  replace HB := hide (andthen HB.out hb)
  replace HL := hide (HL.out.keep hb)
  replace R := hide (range_keep R.out hb)
  replace E0 := hide (range_keep E0.out hb)
  replace K0 := hide (range_keep K0.out hb)
  replace a0 := cell_keepA hb a0
  replace a1 := cell_keepA hb a1
  replace a2 := cell_keepA hb a2
  replace a3 := cell_keepA hb a3
  replace a4 := cell_keepA hb a4
  replace a5 := cell_keepA hb a5
  replace a6 := cell_keepA hb a6
  clear hb
  cases z0
  · go_wp2_with fail
    go_ret
    exact ⟨rfl, HB.out⟩
  go_wp2_with (first | refine load_event rfl _ rfl _ _ rfl _ E0.out rfl ?_ | refine load_book rfl _ rfl _ _ rfl _ K0.out rfl ?_)
  refine (dseq_at _ _ _ C1.out).mono ?_
  rintro q w2 ⟨rfl, hb⟩
  replace HB := hide (andthen HB.out hb)
  replace HL := hide (HL.out.keep hb)
  replace R := hide (range_keep R.out hb)
  replace E0 := hide (range_keep E0.out hb)
  replace K0 := hide (range_keep K0.out hb)
  replace a0 := cell_keepA hb a0
  replace a1 := cell_keepA hb a1
  replace a2 := cell_keepA hb a2
  replace a3 := cell_keepA hb a3
  replace a4 := cell_keepA hb a4
  replace a5 := cell_keepA hb a5
  replace a6 := cell_keepA hb a6
  clear hb
  cases z1
  · go_wp2_with fail
    go_ret
    exact ⟨rfl, HB.out⟩
  go_wp2_with (first | refine load_event rfl _ rfl _ _ rfl _ E0.out rfl ?_ | refine load_book rfl _ rfl _ _ rfl _ K0.out rfl ?_)
  refine (disBk_c _ _ _ _ HL.out.b C2.out).mono ?_
  rintro q w3 ⟨rfl, hb⟩
  replace HB := hide (andthen HB.out hb)
  replace HL := hide (HL.out.keep hb)
  replace R := hide (range_keep R.out hb)
  replace E0 := hide (range_keep E0.out hb)
  replace K0 := hide (range_keep K0.out hb)
  replace a0 := cell_keepA hb a0
  replace a1 := cell_keepA hb a1
  replace a2 := cell_keepA hb a2
  replace a3 := cell_keepA hb a3
  replace a4 := cell_keepA hb a4
  replace a5 := cell_keepA hb a5
  replace a6 := cell_keepA hb a6
  clear hb
  cases z2
  · go_wp2_with fail
    go_ret
    exact ⟨rfl, HB.out⟩
  cases z3
  · go_wp2_with fail
    go_ret
    exact ⟨rfl, HB.out⟩
  go_wp2_with (first | refine load_deed rfl _ rfl _ _ rfl _ R.out rfl ?_ | refine load_event rfl _ rfl _ _ rfl _ E0.out rfl ?_ | refine load_book rfl _ rfl _ _ rfl _ K0.out rfl ?_ | refine build_at rfl _ _ rfl (dC (⟨8, (0, 0), e0, [], pe, nn, ⟨(i2, j2), st, e2⟩⟩) (⟨mZ, none, 0, m.b⟩)).toArray (by kernel_rfl) ?_ | refine two_deeds rfl _ _ rfl _ _ rfl rfl rfl rfl _ rfl ?_)
  refine (dpair _ _ ⟨8, (0, 0), e0, [], pe, nn, ⟨(i2, j2), st, e2⟩⟩ _ ⟨mZ, none, 0, m.b⟩ _ HL.out (dL8 HL.out) CS.out _ rfl).mono ?_
  rintro q wl ⟨rfl, hb⟩
  replace HB := hide (andthen HB.out hb)
  clear hb
  go_wp2_with fail
  go_ret
  exact ⟨rfl, HB.out⟩
set_option maxHeartbeats 4000000 in
theorem dIs0 (d : D) (m : DM) (w : World) (n1 : ¬ d.kd = 1) (n2 : ¬ d.kd = 2) (n3 : ¬ d.kd = 3) (n4 : ¬ d.kd = 4) (n5 : ¬ d.kd = 5) (n6 : ¬ d.kd = 6) (n7 : ¬ d.kd = 7) (n8 : ¬ d.kd = 8) :
    Calls Tryz.prog 15 #[.agg (dC d m).toArray] w (Ans w (.bool false)) := by
  have HB := hide (more (start w) (.cells (dC d m).toArray 34))
  have a0 := range_cell (range_new w (dC d m) 34) 0 0 _ rfl rfl
  have q1 : (d.kd == 1) = false := by rw [beq_eq_false_iff_ne]; exact n1
  have q2 : (d.kd == 2) = false := by rw [beq_eq_false_iff_ne]; exact n2
  have q3 : (d.kd == 3) = false := by rw [beq_eq_false_iff_ne]; exact n3
  have q4 : (d.kd == 4) = false := by rw [beq_eq_false_iff_ne]; exact n4
  have q5 : (d.kd == 5) = false := by rw [beq_eq_false_iff_ne]; exact n5
  have q6 : (d.kd == 6) = false := by rw [beq_eq_false_iff_ne]; exact n6
  have q7 : (d.kd == 7) = false := by rw [beq_eq_false_iff_ne]; exact n7
  have q8 : (d.kd == 8) = false := by rw [beq_eq_false_iff_ne]; exact n8
  clear n1 n2 n3 n4 n5 n6 n7 n8
  go_enter Tryz.func15, Tryz.ntmps15
  go_wp2_with fail
  go_ret
  exact ⟨rfl, HB.out⟩
theorem dIs_c (d : D) (m : DM) (b : Bool) (w : World) (h : DL w d m) (hb : isD d = b) : Calls Tryz.prog 15 #[.agg (dC d m).toArray] w (Ans w (.bool b)) := by
  subst hb
  unfold isD De.ask bare
  by_cases h1 : d.kd = 1 ∨ d.kd = 2
  · exact ans_is (dIs1 d m w h h1 _ _ _ rfl rfl rfl) (by simp only [if_pos h1, Bool.and_assoc])
  by_cases h3 : d.kd = 3 ∨ d.kd = 4
  · exact ans_is (dIs3 d m w h h3 _ _ rfl rfl) (by simp only [if_neg h1, if_pos h3])
  by_cases h5 : d.kd = 5 ∨ d.kd = 6
  · exact ans_is (dIs5 d m w h h5 _ _ _ _ rfl rfl rfl rfl) (by simp only [if_neg h1, if_neg h3, if_pos h5, Bool.and_assoc])
  by_cases h7 : d.kd = 7
  · exact ans_is (dIs7 d m w h h7 _ _ _ rfl rfl rfl) (by simp only [if_neg h1, if_neg h3, if_neg h5, if_pos h7, Bool.and_assoc])
  by_cases h8 : d.kd = 8
  · exact ans_is (dIs8 d m w h h8 _ _ _ _ _ rfl rfl rfl rfl rfl) (by simp only [if_neg h1, if_neg h3, if_neg h5, if_neg h7, if_pos h8, Bool.and_assoc]; rfl)
  · exact ans_is (dIs0 d m w (fun e => h1 (.inl e)) (fun e => h1 (.inr e)) (fun e => h3 (.inl e)) (fun e => h3 (.inr e)) (fun e => h5 (.inl e)) (fun e => h5 (.inr e)) h7 h8) (by simp only [if_neg h1, if_neg h3, if_neg h5, if_neg h7, if_neg h8, Bool.false_and])
end Go.Proofs.YtlmdceeeahnkcaaGreatDoor

/- SpanMinutes walked: every two spans, every minute, every row. -/
import Derived.Test.YtncciofckfbcaaaSpTellsK
import Derived.Test.YtncciofckfbcaaaSpL
import Derived.Deep.DeepCutAuto
namespace Go.Proofs.Ytncciofckfbcaaa
open Go.RowKit Spn Go.Sort

theorem inLaw_is (A : Option Addr) (n c : Nat) (l : List Sp) (m : Int) (b : Bool) (w : World) (hr : Row w A l) (hn : n = l.length) (hs : l.length ≤ 1000000) (h : inL l m = b) :
    Calls Try.prog 27 #[.slice A n c, .int .i64 m] w fun e w' => e = .returned (.bool b) ∧ Below w.heap.size w w' := by
  subst h; exact inLaw_any A n c l m w hr hn hs
theorem longLaw_is (A : Option Addr) (n c : Nat) (l : List Sp) (s : Int) (w : World) (hr : Row w A l) (hn : n = l.length) (hs : l.length ≤ 1000000) (h : sumL l = s) :
    Calls Try.prog 28 #[.slice A n c] w fun e w' => e = .returned (.int .i64 s) ∧ Below w.heap.size w w' := by
  subst h; exact longLaw_any A n c l w hr hn hs

set_option maxRecDepth 100000 in
set_option maxHeartbeats 1000000 in
theorem minutes_long (f t g u m : Int) (A : Option Addr) (n c : Nat) (w : World) (hn : 20 < n) (hm : n ≤ maxLen) :
    Calls Try.prog 4 #[.agg #[.int .i64 f, .int .i64 t], .agg #[.int .i64 g, .int .i64 u], .int .i64 m, .slice A n c] w fun e w' => e = .returned (.bool true) ∧ Below w.heap.size w w' := by
  unfold maxLen at hm
  go_enter Try.func4, Try.ntmps4
  go_wp2_with fail
  refine (known_any _).mono ?_
  rintro e w1 ⟨rfl, hb1⟩
  have hbb := andthen (more (more (start w) _) _) hb1
  go_wp2_with fail
  go_ret
  exact ⟨rfl, hbb⟩

set_option linter.unusedSimpArgs false in
set_option maxRecDepth 100000 in
set_option maxHeartbeats 4000000 in
theorem minutes_short (f t g u m x y LM SD : Int) (X Y IL : Bool) (ND : Nat) (A : Option Addr) (c : Nat) (l D C : List Sp) (w : World) (hrow : Row w A l) (hn : l.length ≤ 20)
    (hX : inB (f, t) m = X) (hY : inB (g, u) m = Y) (hXY : inB (x, y) m = (X && Y)) (hM : meet (f, t) (g, u) = (x, y)) (hD : minus (f, t) (g, u) = D) (hXD : inL D m = (X && !Y)) (hC : canon l = C) (hCn : Neat C) (hCl : C.length ≤ 20)
    (hI1 : inL C m = IL) (hI2 : inL l m = IL) (hLA : long (f, t) = LM + SD) (hLM : long (x, y) = LM) (hSD : sumL D = SD) (hla : 0 ≤ LM ∧ LM ≤ 52596000) (hsd : 0 ≤ SD ∧ SD ≤ 105192000) (hW : withinB (f, t) (g, u) = ((ND : Int) == 0))
    (hDL : D.length = ND) (hND : ND ≤ 2) :
    Calls Try.prog 4 #[.agg #[.int .i64 f, .int .i64 t], .agg #[.int .i64 g, .int .i64 u], .int .i64 m, .slice A l.length c] w fun e w' => e = .returned (.bool true) ∧ Below w.heap.size w w' := by
  have HX := hide hX
  have HY := hide hY
  have HXY := hide hXY
  have HM := hide hM
  have HD := hide hD
  have HXD := hide hXD
  have HC := hide hC
  have HCN := hide hCn
  have HI1 := hide hI1
  have HI2 := hide hI2
  have HLA := hide hLA
  have HLM := hide hLM
  have HSD := hide hSD
  have HW := hide hW
  have HDL := hide hDL
  clear hX hY hXY hM hD hXD hC hCn hI1 hI2 hLA hLM hSD hW hDL
  go_enter Try.func4, Try.ntmps4
  go_wp2_with fail
  have HB := boxes_new w f t g u
  refine (known_any _).mono ?_
  rintro e w1 ⟨rfl, hb1⟩
  replace HB := HB.keep hb1
  clear hb1
  go_upto_region 5 with (fail)
  have f0 := fun d os => cell_regrown HB.a0 d os
  have f1 := fun d os => cell_regrown HB.a1 d os
  have f2 := fun d os => cell_regrown HB.b0 d os
  have f3 := fun d os => cell_regrown HB.b1 d os
  refine wp_region_quiet_below (by kernel_rfl) (by kernel_rfl) ?_
  repeat (first
    | go_big_quiet_step ((go_at_call 14; exact Calls.regrown_of (in_any _ _ _ _)))
    | quiet_step ((go_at_call 14; exact Calls.regrown_of (in_any _ _ _ _))))
  refine wpQuiet_nil ?_
  intro _ hw'
  obtain ⟨⟨nq, osq⟩, hw''⟩ := hw'
  subst hw''
  clear f0 f1 f2 f3
  rw [HX.out, HY.out]
  have hq := below_regrown w1 nq osq
  replace HB := HB.keep hq
  clear hq
  generalize grow (redrawn w1 nq) osq = W2 at *
  go_upto_region 6 with (fail)
  go_cut [46] (fun s wx => s = .bool false ∧ Boxes w f t g u wx)
  case first =>
    cases X <;> cases Y
    all_goals
      obtain ⟨c0, c1, c2, c3, _, _⟩ := id HB
      go_wp2_with fail
      refine (meet_is f t g u x y _ HM.out).mono ?_
      rintro e w3 ⟨rfl, hb3⟩
      clear c0 c1 c2 c3
      replace HB := HB.keep hb3
      clear hb3
      obtain ⟨c0, c1, c2, c3, _, _⟩ := id HB
      go_wp2_with fail
      refine (in_is x y m _ _ HXY.out).mono ?_
      rintro e w4 ⟨rfl, hb4⟩
      clear c0 c1 c2 c3
      replace HB := HB.keep hb4
      clear hb4
      obtain ⟨c0, c1, c2, c3, _, _⟩ := id HB
      go_wp2_with fail
      refine (minus_is f t g u D _ HD.out).mono ?_
      rintro e w5 ⟨v1, rfl, hown1, hb5⟩
      clear c0 c1 c2 c3
      replace HB := HB.keep hb5
      clear hb5
      obtain ⟨A1, c1, rfl, hr1⟩ := Own.row hown1
      go_wp2_with fail
      refine (inLaw_is _ _ _ D m _ _ hr1 rfl (by have := HDL.out; omega) HXD.out).mono ?_
      rintro e w6 ⟨rfl, hb6⟩
      replace HB := HB.keep hb6
      clear hb6 hown1 hr1
      go_wp2_with fail
      go_meet
      exact ⟨rfl, HB⟩
  case rest =>
    obtain ⟨rfl, HB⟩ := hcut
    clear HX HY HXY HXD
    go_wp2_with fail
    refine (all_is A _ c l C _ (hrow.keep HB.below) rfl (by omega) HC.out).mono ?_
    rintro e w7 ⟨v2, rfl, hown2, hb7⟩
    replace HB := HB.keep hb7
    clear hb7
    obtain ⟨A2, c2, rfl, hrC⟩ := Own.row hown2
    clear hown2
    go_wp2_with fail
    have hCl1 : (C.length : Int) ≤ 20 := by omega
    go_loopw [12] (fun i wr => ∃ j : Nat, j ≤ C.length ∧ i = .int .i64 ((j : Int) + 1) ∧ Boxes w f t g u wr ∧ Row wr A2 C) (fun i _ => C.length + 1 - (intOf i).toNat)
    case atStart => exact ⟨0, by omega, rfl, HB, hrC⟩
    case round =>
      obtain ⟨j, hk2, rfl, HB, hrC⟩ := hrel
      by_cases hlt : j + 1 < C.length
      · obtain ⟨b, off, rfl, hb, hcl⟩ := id (hrC (by rintro rfl; simp at hlt))
        have hfar := neat_next C HCN.out j hlt
        have HT := hide (tch_far C[j] C[j + 1] hfar)
        obtain ⟨x1, x2⟩ := hcl j (by omega)
        obtain ⟨x3, x4⟩ := hcl (j + 1) hlt
        have q1 := fun d os => cell_regrown x1 d os
        have q2 := fun d os => cell_regrown x2 d os
        have q3 := fun d os => cell_regrown x3 d os
        have q4 := fun d os => cell_regrown x4 d os
        have hfd : decide (C[j + 1].1 ≤ C[j].2) = false := decide_eq_false (by omega)
        have hlt2 : (j : Int) + 1 < (C.length : Int) := by omega
        have hw1 : IntKind.i64.wrap ((j : Int) + 1 - 1) = (j : Int) := by rw [show (j : Int) + 1 - 1 = j by omega]; exact IntWalk.i64_in _ (by omega)
        clear x1 x2 x3 x4 hcl
        go_wp2_with fail
        refine wp_region_quiet_below (by kernel_rfl) (by kernel_rfl) ?_
        repeat (first
          | go_big_quiet_step ((go_at_call 18; exact Calls.regrown_of (touch_at _ _ _ _ false _ HT.out)))
          | quiet_step ((go_at_call 18; exact Calls.regrown_of (touch_at _ _ _ _ false _ HT.out))))
        refine wpQuiet_nil ?_
        intro _ hw'
        obtain ⟨⟨nq, osq⟩, hw''⟩ := hw'
        subst hw''
        have hq := below_regrown wr nq osq
        replace HB := HB.keep hq
        replace hrC := hrC.keep hq
        clear q1 q2 q3 q4 hw1
        go_wp2_with fail
        go_roundw
        case rel => exact ⟨j + 1, by omega, by go_num, HB, hrC⟩
        case measure => simp [intOf]; omega
      · go_wp2_with fail
        have hS : wr.cell? ⟨w.heap.size, 0, none⟩ = some (.int .i64 f) ∧ wr.cell? ⟨w.heap.size, 1, none⟩ = some (.int .i64 t) ∧ wr.cell? ⟨w.heap.size + 1, 0, none⟩ = some (.int .i64 g) ∧ wr.cell? ⟨w.heap.size + 1, 1, none⟩ = some (.int .i64 u) ∧ Boxes w f t g u wr := ⟨HB.a0, HB.a1, HB.b0, HB.b1, HB⟩
        clear HB
        have hwr : IntKind.i64.wrap (LM + SD) = LM + SD := IntWalk.i64_in _ (by omega)
        try simp only [List.append]
        refine wp_region_held_drew (S := (fun w' => w'.cell? ⟨w.heap.size, 0, none⟩ = some (.int .i64 f) ∧ w'.cell? ⟨w.heap.size, 1, none⟩ = some (.int .i64 t) ∧ w'.cell? ⟨w.heap.size + 1, 0, none⟩ = some (.int .i64 g) ∧ w'.cell? ⟨w.heap.size + 1, 1, none⟩ = some (.int .i64 u) ∧ Boxes w f t g u w')) (by kernel_rfl) ?_ (fun hH0 => ?_)
        · exact tells_keep (Below.drew (start _)) hS
        refine' wpAnyH_take (i := 0) (oi := _) (v := ?v0) rfl (by as_aux_lemma => kernel_rfl) (by as_aux_lemma => kernel_rfl) (by as_aux_lemma => kernel_rfl) (fun _ _ _ h => h) (Or.inl ⟨by rfl, ?y0⟩) hH0 ?r0
        case y0 => (intro w hSw; (try dsimp only at hSw); go_simp; (try with_reducible rfl))
        try simp only [Act.put, List.getElem_toArray, List.getElem_cons_succ, List.getElem_cons_zero, List.setIfInBounds_toArray, List.set_cons_zero, List.set_cons_succ]
        refine' wpAnyH_take (i := 1) (oi := _) (v := ?v1) rfl (by as_aux_lemma => kernel_rfl) (by as_aux_lemma => kernel_rfl) (by as_aux_lemma => kernel_rfl) (fun _ _ _ h => h) (Or.inl ⟨by rfl, ?y1⟩) hH0 ?r1
        case y1 => (intro w hSw; (try dsimp only at hSw); go_simp; (try with_reducible rfl))
        try simp only [Act.put, List.getElem_toArray, List.getElem_cons_succ, List.getElem_cons_zero, List.setIfInBounds_toArray, List.set_cons_zero, List.set_cons_succ]
        refine' wpAnyH_take (i := 3) (oi := _) (v := ?v2) rfl (by as_aux_lemma => kernel_rfl) (by as_aux_lemma => kernel_rfl) (by as_aux_lemma => kernel_rfl) (fun _ _ _ h => h) (Or.inl ⟨by rfl, ?y2⟩) hH0 ?r2
        case y2 => (intro w hSw; (try dsimp only at hSw); go_simp; (try with_reducible rfl))
        try simp only [Act.put, List.getElem_toArray, List.getElem_cons_succ, List.getElem_cons_zero, List.setIfInBounds_toArray, List.set_cons_zero, List.set_cons_succ]
        refine' wpAnyH_take (i := 4) (oi := _) (v := ?v3) rfl (by as_aux_lemma => kernel_rfl) (by as_aux_lemma => kernel_rfl) (by as_aux_lemma => kernel_rfl) (fun _ _ _ h => h) (Or.inl ⟨by rfl, ?y3⟩) hH0 ?r3
        case y3 => (intro w hSw; (try dsimp only at hSw); go_simp; (try with_reducible rfl))
        try simp only [Act.put, List.getElem_toArray, List.getElem_cons_succ, List.getElem_cons_zero, List.setIfInBounds_toArray, List.set_cons_zero, List.set_cons_succ]
        refine wpAnyH_ready (rs := [2]) (by as_aux_lemma => kernel_rfl) (by simp) ?_
        refine AllReadyH.cons (o := _) rfl (fun K hK => ?_) AllReadyH.nil
        go_simp
        refine (inLaw_is _ _ _ C m IL _ (hrC.keep (Below.drew (start _))) rfl (by omega) HI1.out).mono ?_
        rintro e w2 ⟨rfl, hb⟩
        refine hK.out _ _ (tells_keep hb hH0) (fun hN => ?_)
        clear hK K hH0
        have hH1 := hN
        clear hN
        try simp only [Act.put, List.getElem_toArray, List.getElem_cons_succ, List.getElem_cons_zero, List.setIfInBounds_toArray, List.set_cons_zero, List.set_cons_succ]
        refine wpAnyH_ready (rs := [5]) (by as_aux_lemma => kernel_rfl) (by simp) ?_
        refine AllReadyH.cons (o := _) rfl (fun K hK => ?_) AllReadyH.nil
        go_simp
        refine (inLaw_is _ _ _ l m IL _ (hrow.keep hH1.2.2.2.2.below) rfl (by omega) HI2.out).mono ?_
        rintro e w2 ⟨rfl, hb⟩
        refine hK.out _ _ (tells_keep hb hH1) (fun hN => ?_)
        clear hK K hH1
        have hH2 := hN
        clear hN
        try simp only [Act.put, List.getElem_toArray, List.getElem_cons_succ, List.getElem_cons_zero, List.setIfInBounds_toArray, List.set_cons_zero, List.set_cons_succ]
        refine' wpAnyH_take (i := 6) (oi := _) (v := ?v4) rfl (by as_aux_lemma => kernel_rfl) (by as_aux_lemma => kernel_rfl) (by as_aux_lemma => kernel_rfl) (fun _ _ _ h => h) (Or.inl ⟨by rfl, ?y4⟩) hH2 ?r4
        case y4 => (intro w hSw; (try dsimp only at hSw); go_simp; (try with_reducible rfl))
        try simp only [Act.put, List.getElem_toArray, List.getElem_cons_succ, List.getElem_cons_zero, List.setIfInBounds_toArray, List.set_cons_zero, List.set_cons_succ]
        refine' wpAnyH_take (i := 7) (oi := _) (v := ?v5) rfl (by as_aux_lemma => kernel_rfl) (by as_aux_lemma => kernel_rfl) (by as_aux_lemma => kernel_rfl) (fun _ _ _ h => h) (Or.inl ⟨by rfl, ?y5⟩) hH2 ?r5
        case y5 => (intro w hSw; (try dsimp only at hSw); go_simp; (try with_reducible rfl))
        try simp only [Act.put, List.getElem_toArray, List.getElem_cons_succ, List.getElem_cons_zero, List.setIfInBounds_toArray, List.set_cons_zero, List.set_cons_succ]
        refine' wpAnyH_take (i := 8) (oi := _) (v := ?v6) rfl (by as_aux_lemma => kernel_rfl) (by as_aux_lemma => kernel_rfl) (by as_aux_lemma => kernel_rfl) (fun _ _ _ h => h) (Or.inl ⟨by rfl, ?y6⟩) hH2 ?r6
        case y6 => (intro w hSw; (try dsimp only at hSw); go_simp; (try with_reducible rfl))
        try simp only [Act.put, List.getElem_toArray, List.getElem_cons_succ, List.getElem_cons_zero, List.setIfInBounds_toArray, List.set_cons_zero, List.set_cons_succ]
        refine' wpAnyH_take (i := 10) (oi := _) (v := ?v7) rfl (by as_aux_lemma => kernel_rfl) (by as_aux_lemma => kernel_rfl) (by as_aux_lemma => kernel_rfl) (fun _ _ _ h => h) (Or.inl ⟨by rfl, ?y7⟩) hH2 ?r7
        case y7 => (intro w hSw; (try dsimp only at hSw); go_simp; (try with_reducible rfl))
        try simp only [Act.put, List.getElem_toArray, List.getElem_cons_succ, List.getElem_cons_zero, List.setIfInBounds_toArray, List.set_cons_zero, List.set_cons_succ]
        refine' wpAnyH_take (i := 11) (oi := _) (v := ?v8) rfl (by as_aux_lemma => kernel_rfl) (by as_aux_lemma => kernel_rfl) (by as_aux_lemma => kernel_rfl) (fun _ _ _ h => h) (Or.inl ⟨by rfl, ?y8⟩) hH2 ?r8
        case y8 => (intro w hSw; (try dsimp only at hSw); go_simp; (try with_reducible rfl))
        try simp only [Act.put, List.getElem_toArray, List.getElem_cons_succ, List.getElem_cons_zero, List.setIfInBounds_toArray, List.set_cons_zero, List.set_cons_succ]
        refine' wpAnyH_take (i := 14) (oi := _) (v := ?v9) rfl (by as_aux_lemma => kernel_rfl) (by as_aux_lemma => kernel_rfl) (by as_aux_lemma => kernel_rfl) (fun _ _ _ h => h) (Or.inl ⟨by rfl, ?y9⟩) hH2 ?r9
        case y9 => (intro w hSw; (try dsimp only at hSw); go_simp; (try with_reducible rfl))
        try simp only [Act.put, List.getElem_toArray, List.getElem_cons_succ, List.getElem_cons_zero, List.setIfInBounds_toArray, List.set_cons_zero, List.set_cons_succ]
        refine' wpAnyH_take (i := 15) (oi := _) (v := ?v10) rfl (by as_aux_lemma => kernel_rfl) (by as_aux_lemma => kernel_rfl) (by as_aux_lemma => kernel_rfl) (fun _ _ _ h => h) (Or.inl ⟨by rfl, ?y10⟩) hH2 ?r10
        case y10 => (intro w hSw; (try dsimp only at hSw); go_simp; (try with_reducible rfl))
        try simp only [Act.put, List.getElem_toArray, List.getElem_cons_succ, List.getElem_cons_zero, List.setIfInBounds_toArray, List.set_cons_zero, List.set_cons_succ]
        refine wpAnyH_ready (rs := [9]) (by as_aux_lemma => kernel_rfl) (by simp) ?_
        refine AllReadyH.cons (o := _) rfl (fun K hK => ?_) AllReadyH.nil
        go_simp
        refine (long_is f t (LM + SD) _ HLA.out).mono ?_
        rintro e w2 ⟨rfl, hb⟩
        refine hK.out _ _ (tells_keep hb hH2) (fun hN => ?_)
        clear hK K hH2
        have hH3 := hN
        clear hN
        try simp only [Act.put, List.getElem_toArray, List.getElem_cons_succ, List.getElem_cons_zero, List.setIfInBounds_toArray, List.set_cons_zero, List.set_cons_succ]
        refine wpAnyH_ready (rs := [12]) (by as_aux_lemma => kernel_rfl) (by simp) ?_
        refine AllReadyH.cons (o := _) rfl (fun K hK => ?_) AllReadyH.nil
        go_simp
        refine (meet_is f t g u x y _ HM.out).mono ?_
        rintro e w2 ⟨rfl, hb⟩
        refine hK.out _ _ (tells_keep hb hH3) (fun hN => ?_)
        clear hK K hH3
        have hH4 := hN
        clear hN
        try simp only [Act.put, List.getElem_toArray, List.getElem_cons_succ, List.getElem_cons_zero, List.setIfInBounds_toArray, List.set_cons_zero, List.set_cons_succ]
        refine wpAnyH_ready (rs := [13]) (by as_aux_lemma => kernel_rfl) (by simp) ?_
        refine AllReadyH.cons (o := _) rfl (fun K hK => ?_) AllReadyH.nil
        go_simp
        refine (long_is x y LM _ HLM.out).mono ?_
        rintro e w2 ⟨rfl, hb⟩
        refine hK.out _ _ (tells_keep hb hH4) (fun hN => ?_)
        clear hK K hH4
        have hH5 := hN
        clear hN
        try simp only [Act.put, List.getElem_toArray, List.getElem_cons_succ, List.getElem_cons_zero, List.setIfInBounds_toArray, List.set_cons_zero, List.set_cons_succ]
        refine wpAnyH_ready (rs := [16]) (by as_aux_lemma => kernel_rfl) (by simp) ?_
        refine AllReadyH.cons (o := _) rfl (fun K hK => ?_) AllReadyH.nil
        go_simp
        refine (minus_is f t g u D _ HD.out).mono ?_
        rintro e w2 ⟨v1, rfl, hown1, hb⟩
        obtain ⟨A1, c1, rfl, hr1⟩ := Own.row hown1
        rw [HDL.out]
        refine hK.out _ _ (tells_keep hb hH5) (fun hN => ?_)
        clear hK K hH5
        have hH6 := hN
        clear hN
        try simp only [Act.put, List.getElem_toArray, List.getElem_cons_succ, List.getElem_cons_zero, List.setIfInBounds_toArray, List.set_cons_zero, List.set_cons_succ]
        refine wpAnyH_ready (rs := [17]) (by as_aux_lemma => kernel_rfl) (by simp) ?_
        refine AllReadyH.cons (o := _) rfl (fun K hK => ?_) AllReadyH.nil
        go_simp
        refine (longLaw_is _ _ _ D SD _ hr1 HDL.out.symm (by rw [HDL.out]; omega) HSD.out).mono ?_
        rintro e w2 ⟨rfl, hb⟩
        refine hK.out _ _ (tells_keep hb hH6) (fun hN => ?_)
        clear hK K hH6
        have hH7 := hN
        clear hN
        try simp only [Act.put, List.getElem_toArray, List.getElem_cons_succ, List.getElem_cons_zero, List.setIfInBounds_toArray, List.set_cons_zero, List.set_cons_succ]
        refine' wpAnyH_take (i := 18) (oi := _) (v := ?v11) rfl (by as_aux_lemma => kernel_rfl) (by as_aux_lemma => kernel_rfl) (by as_aux_lemma => kernel_rfl) (fun _ _ _ h => h) (Or.inl ⟨by rfl, ?y11⟩) hH7 ?r11
        case y11 => (intro w hSw; (try dsimp only at hSw); go_simp; (try with_reducible rfl))
        try simp only [Act.put, List.getElem_toArray, List.getElem_cons_succ, List.getElem_cons_zero, List.setIfInBounds_toArray, List.set_cons_zero, List.set_cons_succ]
        refine' wpAnyH_take (i := 19) (oi := _) (v := ?v12) rfl (by as_aux_lemma => kernel_rfl) (by as_aux_lemma => kernel_rfl) (by as_aux_lemma => kernel_rfl) (fun _ _ _ h => h) (Or.inl ⟨by rfl, ?y12⟩) hH7 ?r12
        case y12 => (intro w hSw; (try dsimp only at hSw); go_simp; (try with_reducible rfl))
        try simp only [Act.put, List.getElem_toArray, List.getElem_cons_succ, List.getElem_cons_zero, List.setIfInBounds_toArray, List.set_cons_zero, List.set_cons_succ]
        refine' wpAnyH_take (i := 20) (oi := _) (v := ?v13) rfl (by as_aux_lemma => kernel_rfl) (by as_aux_lemma => kernel_rfl) (by as_aux_lemma => kernel_rfl) (fun _ _ _ h => h) (Or.inl ⟨by rfl, ?y13⟩) hH7 ?r13
        case y13 => (intro w hSw; (try dsimp only at hSw); go_simp; (try with_reducible rfl))
        try simp only [Act.put, List.getElem_toArray, List.getElem_cons_succ, List.getElem_cons_zero, List.setIfInBounds_toArray, List.set_cons_zero, List.set_cons_succ]
        refine' wpAnyH_take (i := 21) (oi := _) (v := ?v14) rfl (by as_aux_lemma => kernel_rfl) (by as_aux_lemma => kernel_rfl) (by as_aux_lemma => kernel_rfl) (fun _ _ _ h => h) (Or.inl ⟨by rfl, ?y14⟩) hH7 ?r14
        case y14 => (intro w hSw; (try dsimp only at hSw); go_simp; (try with_reducible rfl))
        try simp only [Act.put, List.getElem_toArray, List.getElem_cons_succ, List.getElem_cons_zero, List.setIfInBounds_toArray, List.set_cons_zero, List.set_cons_succ]
        refine' wpAnyH_take (i := 22) (oi := _) (v := ?v15) rfl (by as_aux_lemma => kernel_rfl) (by as_aux_lemma => kernel_rfl) (by as_aux_lemma => kernel_rfl) (fun _ _ _ h => h) (Or.inl ⟨by rfl, ?y15⟩) hH7 ?r15
        case y15 => (intro w hSw; (try dsimp only at hSw); go_simp; (try with_reducible rfl))
        try simp only [Act.put, List.getElem_toArray, List.getElem_cons_succ, List.getElem_cons_zero, List.setIfInBounds_toArray, List.set_cons_zero, List.set_cons_succ]
        refine' wpAnyH_take (i := 23) (oi := _) (v := ?v16) rfl (by as_aux_lemma => kernel_rfl) (by as_aux_lemma => kernel_rfl) (by as_aux_lemma => kernel_rfl) (fun _ _ _ h => h) (Or.inl ⟨by rfl, ?y16⟩) hH7 ?r16
        case y16 => (intro w hSw; (try dsimp only at hSw); go_simp; (try with_reducible rfl))
        try simp only [Act.put, List.getElem_toArray, List.getElem_cons_succ, List.getElem_cons_zero, List.setIfInBounds_toArray, List.set_cons_zero, List.set_cons_succ]
        refine' wpAnyH_take (i := 25) (oi := _) (v := ?v17) rfl (by as_aux_lemma => kernel_rfl) (by as_aux_lemma => kernel_rfl) (by as_aux_lemma => kernel_rfl) (fun _ _ _ h => h) (Or.inl ⟨by rfl, ?y17⟩) hH7 ?r17
        case y17 => (intro w hSw; (try dsimp only at hSw); go_simp; (try with_reducible rfl))
        try simp only [Act.put, List.getElem_toArray, List.getElem_cons_succ, List.getElem_cons_zero, List.setIfInBounds_toArray, List.set_cons_zero, List.set_cons_succ]
        refine' wpAnyH_take (i := 26) (oi := _) (v := ?v18) rfl (by as_aux_lemma => kernel_rfl) (by as_aux_lemma => kernel_rfl) (by as_aux_lemma => kernel_rfl) (fun _ _ _ h => h) (Or.inl ⟨by rfl, ?y18⟩) hH7 ?r18
        case y18 => (intro w hSw; (try dsimp only at hSw); go_simp; (try with_reducible rfl))
        try simp only [Act.put, List.getElem_toArray, List.getElem_cons_succ, List.getElem_cons_zero, List.setIfInBounds_toArray, List.set_cons_zero, List.set_cons_succ]
        refine wpAnyH_ready (rs := [24]) (by as_aux_lemma => kernel_rfl) (by simp) ?_
        refine AllReadyH.cons (o := _) rfl (fun K hK => ?_) AllReadyH.nil
        go_simp
        refine (within_is f t g u _ _ HW.out).mono ?_
        rintro e w2 ⟨rfl, hb⟩
        refine hK.out _ _ (tells_keep hb hH7) (fun hN => ?_)
        clear hK K hH7
        have hH8 := hN
        clear hN
        try simp only [Act.put, List.getElem_toArray, List.getElem_cons_succ, List.getElem_cons_zero, List.setIfInBounds_toArray, List.set_cons_zero, List.set_cons_succ]
        refine wpAnyH_ready (rs := [27]) (by as_aux_lemma => kernel_rfl) (by simp) ?_
        refine AllReadyH.cons (o := _) rfl (fun K hK => ?_) AllReadyH.nil
        go_simp
        refine (minus_is f t g u D _ HD.out).mono ?_
        rintro e w2 ⟨v1, rfl, hown1, hb⟩
        obtain ⟨A1, c1, rfl, hr1⟩ := Own.row hown1
        rw [HDL.out]
        refine hK.out _ _ (tells_keep hb hH8) (fun hN => ?_)
        clear hK K hH8
        have hH9 := hN
        clear hN
        try simp only [Act.put, List.getElem_toArray, List.getElem_cons_succ, List.getElem_cons_zero, List.setIfInBounds_toArray, List.set_cons_zero, List.set_cons_succ]
        refine' wpAnyH_take (i := 28) (oi := _) (v := ?v19) rfl (by as_aux_lemma => kernel_rfl) (by as_aux_lemma => kernel_rfl) (by as_aux_lemma => kernel_rfl) (fun _ _ _ h => h) (Or.inl ⟨by rfl, ?y19⟩) hH9 ?r19
        case y19 => (intro w hSw; (try dsimp only at hSw); go_simp; (try with_reducible rfl))
        try simp only [Act.put, List.getElem_toArray, List.getElem_cons_succ, List.getElem_cons_zero, List.setIfInBounds_toArray, List.set_cons_zero, List.set_cons_succ]
        refine' wpAnyH_take (i := 29) (oi := _) (v := ?v20) rfl (by as_aux_lemma => kernel_rfl) (by as_aux_lemma => kernel_rfl) (by as_aux_lemma => kernel_rfl) (fun _ _ _ h => h) (Or.inl ⟨by rfl, ?y20⟩) hH9 ?r20
        case y20 => (intro w hSw; (try dsimp only at hSw); go_simp; (try with_reducible rfl))
        try simp only [Act.put, List.getElem_toArray, List.getElem_cons_succ, List.getElem_cons_zero, List.setIfInBounds_toArray, List.set_cons_zero, List.set_cons_succ]
        refine' wpAnyH_take (i := 30) (oi := _) (v := ?v21) rfl (by as_aux_lemma => kernel_rfl) (by as_aux_lemma => kernel_rfl) (by as_aux_lemma => kernel_rfl) (fun _ _ _ h => h) (Or.inl ⟨by rfl, ?y21⟩) hH9 ?r21
        case y21 => (intro w hSw; (try dsimp only at hSw); go_simp; (try with_reducible rfl))
        try simp only [Act.put, List.getElem_toArray, List.getElem_cons_succ, List.getElem_cons_zero, List.setIfInBounds_toArray, List.set_cons_zero, List.set_cons_succ]
        refine' wpAnyH_take (i := 31) (oi := _) (v := ?v22) rfl (by as_aux_lemma => kernel_rfl) (by as_aux_lemma => kernel_rfl) (by as_aux_lemma => kernel_rfl) (fun _ _ _ h => h) (Or.inl ⟨by rfl, ?y22⟩) hH9 ?r22
        case y22 => (intro w hSw; (try dsimp only at hSw); go_simp; (try with_reducible rfl))
        try simp only [Act.put, List.getElem_toArray, List.getElem_cons_succ, List.getElem_cons_zero, List.setIfInBounds_toArray, List.set_cons_zero, List.set_cons_succ]
        refine' wpAnyH_take (i := 32) (oi := _) (v := ?v23) rfl (by as_aux_lemma => kernel_rfl) (by as_aux_lemma => kernel_rfl) (by as_aux_lemma => kernel_rfl) (fun _ _ _ h => h) (Or.inl ⟨by rfl, ?y23⟩) hH9 ?r23
        case y23 => (intro w hSw; (try dsimp only at hSw); go_simp; (try with_reducible rfl))
        try simp only [Act.put, List.getElem_toArray, List.getElem_cons_succ, List.getElem_cons_zero, List.setIfInBounds_toArray, List.set_cons_zero, List.set_cons_succ]
        refine wpAnyH_done (by as_aux_lemma => kernel_rfl) ?_ _
        obtain ⟨_, _, _, _, hbx⟩ := hH9
        go_wp2_with fail
        go_ret
        exact ⟨rfl, hbx.below⟩

theorem minutes_any (f t g u m : Int) (A : Option Addr) (n c : Nat) (l : List Sp) (w : World) (hr : Row w A l) (hn : n = l.length) (hm : l.length ≤ maxLen) :
    Calls Try.prog 4 #[.agg #[.int .i64 f, .int .i64 t], .agg #[.int .i64 g, .int .i64 u], .int .i64 m, .slice A n c] w fun e w' => e = .returned (.bool true) ∧ Below w.heap.size w w' := by
  by_cases h : 20 < n
  · exact minutes_long f t g u m A n c w h (by omega)
  · subst hn
    obtain ⟨x, y, hM⟩ : ∃ x y, meet (f, t) (g, u) = (x, y) := ⟨_, _, rfl⟩
    have hl := canon_len l
    have hin := in_meet (f, t) (g, u) m
    have hlm := long_minus (f, t) (g, u)
    rw [hM] at hin hlm
    have hl2 := minus_len (f, t) (g, u)
    have hsb := sumL_bd (minus (f, t) (g, u))
    refine minutes_short f t g u m x y _ _ _ _ _ _ A c l _ _ w hr (by omega) rfl rfl hin hM rfl (inL_minus _ _ _) rfl (canon_neat l).1 (by omega) (inL_canon l m) rfl hlm rfl rfl (long_bd _) ⟨hsb.1, ?_⟩ ?_ rfl hl2
    · have := hsb.2; omega
    · rw [within_minus, Bool.eq_iff_iff, decide_eq_true_eq, beq_iff_eq]; omega

end Go.Proofs.Ytncciofckfbcaaa

/- DeedTells. Written by recipes/de6.py. -/
import Derived.Test.YtocnobgdlgndjaaGreatDeK
import Derived.Test.YtocnobgdlgndjaaGreatDeF
namespace Go.Proofs.YtocnobgdlgndjaaGreat
open Go.RowKit Rul De Cl Go.Sort

theorem range_alloc {w : World} {b f : Nat} {cs : List Value} (h : w.rangeAt b f cs) (o : Obj) : (w.alloc o).rangeAt b f cs := range_keep h (more (start _) _)
theorem range_newN (w : World) (cs : List Value) (t : TypeId) (N : Nat) (hN : w.heap.size = N) : (w.alloc (.cells cs.toArray t)).rangeAt N 0 cs := hN ▸ range_new w cs t
theorem sD4 {W w w' : World} {a1 a2 a3 a4 : Addr} {v1 v2 v3 v4 : Value} (hb : Below w.heap.size w w') (h : Below W.heap.size W w ∧ w.cell? a1 = some v1 ∧ w.cell? a2 = some v2 ∧ w.cell? a3 = some v3 ∧ w.cell? a4 = some v4) :
    Below W.heap.size W w' ∧ w'.cell? a1 = some v1 ∧ w'.cell? a2 = some v2 ∧ w'.cell? a3 = some v3 ∧ w'.cell? a4 = some v4 :=
  ⟨andthen h.1 hb, cell_keepA hb h.2.1, cell_keepA hb h.2.2.1, cell_keepA hb h.2.2.2.1, cell_keepA hb h.2.2.2.2⟩
theorem rdIs_c (d : D) (m : DM) (b : Bool) (w : World) (h : DL w d m) (hb : isD d = b) : Calls Tryz.prog 11 #[.agg (dC d m).toArray] w (Ans w (.bool b)) := by
  subst hb
  rw [isD_isR, isR_isV]
  have e : ((d.cl.length : Int) == 0) = decide (d.cl.length = 0) := by
    by_cases q : d.cl.length = 0
    · rw [decide_eq_true q, beq_iff_eq]; omega
    · rw [decide_eq_false q, beq_eq_false_iff_ne]; omega
  rw [← e]
  exact rdIs_any d m w h _ _ _ _ _ _ _ rfl rfl rfl rfl rfl rfl rfl
set_option linter.unusedSimpArgs false in
set_option maxRecDepth 100000 in
set_option maxHeartbeats 32000000 in
theorem te14_any (d : D) (m : DM) (f : D) (n : DM) (x y : Nm) (p : B) (mp : Mem) (q : B) (mq : Mem) (w : World) (h : DO w d m) (k : DO w f n) (hp : EvO w p.e mp) (hq : EvO w q.e mq) :
    Calls Tryz.prog 3 #[.agg (dC d m).toArray, .agg (dC f n).toArray, .agg #[.int .i64 x.1, .int .i64 x.2], .agg #[.int .i64 y.1, .int .i64 y.2], .agg (bkC p mp).toArray, .agg (bkC q mq).toArray] w fun e w' => e = .returned (.bool true) ∧ Below w.heap.size w w' := by
  have HB := hide (more (more (more (more (more (more (start w) (.cells (dC d m).toArray 34)) (.cells (dC f n).toArray 34)) (.cells #[.int .i64 x.1, .int .i64 x.2] 23)) (.cells #[.int .i64 y.1, .int .i64 y.2] 23)) (.cells (bkC p mp).toArray 32)) (.cells (bkC q mq).toArray 32))
  have RD := hide (range_alloc (range_alloc (range_alloc (range_alloc (range_alloc (range_newN w (dC d m) 34 (w.heap.size) (by simp)) (.cells (dC f n).toArray 34)) (.cells #[.int .i64 x.1, .int .i64 x.2] 23)) (.cells #[.int .i64 y.1, .int .i64 y.2] 23)) (.cells (bkC p mp).toArray 32)) (.cells (bkC q mq).toArray 32))
  have RF := hide (range_alloc (range_alloc (range_alloc (range_alloc (range_newN (w.alloc (.cells (dC d m).toArray 34)) (dC f n) 34 (w.heap.size + 1) (by simp)) (.cells #[.int .i64 x.1, .int .i64 x.2] 23)) (.cells #[.int .i64 y.1, .int .i64 y.2] 23)) (.cells (bkC p mp).toArray 32)) (.cells (bkC q mq).toArray 32))
  have RP := hide (range_alloc (range_newN ((((w.alloc (.cells (dC d m).toArray 34)).alloc (.cells (dC f n).toArray 34)).alloc (.cells #[.int .i64 x.1, .int .i64 x.2] 23)).alloc (.cells #[.int .i64 y.1, .int .i64 y.2] 23)) (bkC p mp) 32 (w.heap.size + 1 + 1 + 1 + 1) (by simp)) (.cells (bkC q mq).toArray 32))
  have RQ := hide (range_newN (((((w.alloc (.cells (dC d m).toArray 34)).alloc (.cells (dC f n).toArray 34)).alloc (.cells #[.int .i64 x.1, .int .i64 x.2] 23)).alloc (.cells #[.int .i64 y.1, .int .i64 y.2] 23)).alloc (.cells (bkC p mp).toArray 32)) (bkC q mq) 32 (w.heap.size + 1 + 1 + 1 + 1 + 1) (by simp))
  have RX := range_alloc (range_alloc (range_alloc (range_newN ((w.alloc (.cells (dC d m).toArray 34)).alloc (.cells (dC f n).toArray 34)) [.int .i64 x.1, .int .i64 x.2] 23 (w.heap.size + 1 + 1) (by simp)) (.cells #[.int .i64 y.1, .int .i64 y.2] 23)) (.cells (bkC p mp).toArray 32)) (.cells (bkC q mq).toArray 32)
  have RY := range_alloc (range_alloc (range_newN (((w.alloc (.cells (dC d m).toArray 34)).alloc (.cells (dC f n).toArray 34)).alloc (.cells #[.int .i64 x.1, .int .i64 x.2] 23)) [.int .i64 y.1, .int .i64 y.2] 23 (w.heap.size + 1 + 1 + 1) (by simp)) (.cells (bkC p mp).toArray 32)) (.cells (bkC q mq).toArray 32)
  have a0 := range_cell RX 0 0 _ rfl rfl
  have a1 := range_cell RX 1 1 _ rfl rfl
  have a2 := range_cell RY 0 0 _ rfl rfl
  have a3 := range_cell RY 1 1 _ rfl rfl
  clear RX RY
  have OD := hide (h.keep HB.out)
  have OF := hide (k.keep HB.out)
  have OP := hide (hp.keep HB.out)
  have OQ := hide (hq.keep HB.out)
  obtain ⟨z0, e0⟩ : ∃ z, fewD d = z := ⟨_, rfl⟩
  have F0 := hide e0
  clear e0
  obtain ⟨z1, e1⟩ : ∃ z, fewD f = z := ⟨_, rfl⟩
  have F1 := hide e1
  clear e1
  obtain ⟨z2, e2⟩ : ∃ z, fewV p.e = z := ⟨_, rfl⟩
  have F2 := hide e2
  clear e2
  obtain ⟨z3, e3⟩ : ∃ z, fewV q.e = z := ⟨_, rfl⟩
  have F3 := hide e3
  clear e3
  obtain ⟨g0, e0⟩ : ∃ z, isD d = z := ⟨_, rfl⟩
  have G0 := hide e0
  clear e0
  obtain ⟨g1, e1⟩ : ∃ z, sameD d f = z := ⟨_, rfl⟩
  have G1 := hide e1
  clear e1
  obtain ⟨g2, e2⟩ : ∃ z, idB x = z := ⟨_, rfl⟩
  have G2 := hide e2
  clear e2
  obtain ⟨g3, e3⟩ : ∃ z, befB x y = z := ⟨_, rfl⟩
  have G3 := hide e3
  clear e3
  obtain ⟨g4, e4⟩ : ∃ z, bkB p = z := ⟨_, rfl⟩
  have G4 := hide e4
  clear e4
  obtain ⟨g5, e5⟩ : ∃ z, sameBk p q = z := ⟨_, rfl⟩
  have G5 := hide e5
  clear e5
  clear h k hp hq
  go_enter Tryz.func3, Tryz.ntmps3
  go_wp2_with fail
  generalize ((((((w.alloc (.cells (dC d m).toArray 34)).alloc (.cells (dC f n).toArray 34)).alloc (.cells #[.int .i64 x.1, .int .i64 x.2] 23)).alloc (.cells #[.int .i64 y.1, .int .i64 y.2] 23)).alloc (.cells (bkC p mp).toArray 32)).alloc (.cells (bkC q mq).toArray 32)) = W at *
  refine (known_any _).mono ?_
  rintro _ w1 ⟨rfl, hb⟩
  replace HB := hide (andthen HB.out hb)
  replace RD := hide (range_keep RD.out hb)
  replace RF := hide (range_keep RF.out hb)
  replace RP := hide (range_keep RP.out hb)
  replace RQ := hide (range_keep RQ.out hb)
  replace OD := hide (OD.out.keep hb)
  replace OF := hide (OF.out.keep hb)
  replace OP := hide (OP.out.keep hb)
  replace OQ := hide (OQ.out.keep hb)
  replace a0 := cell_keepA hb a0
  replace a1 := cell_keepA hb a1
  replace a2 := cell_keepA hb a2
  replace a3 := cell_keepA hb a3
  clear hb
  go_wp2_with (first | refine load_deed rfl _ rfl _ _ rfl _ RD.out rfl ?_ | refine load_deed rfl _ rfl _ _ rfl _ RF.out rfl ?_)
  refine (fewD_c d m z0 _ F0.out).mono ?_
  rintro _ wq ⟨rfl, hb⟩
  replace HB := hide (andthen HB.out hb)
  replace RD := hide (range_keep RD.out hb)
  replace RF := hide (range_keep RF.out hb)
  replace RP := hide (range_keep RP.out hb)
  replace RQ := hide (range_keep RQ.out hb)
  replace OD := hide (OD.out.keep hb)
  replace OF := hide (OF.out.keep hb)
  replace OP := hide (OP.out.keep hb)
  replace OQ := hide (OQ.out.keep hb)
  replace a0 := cell_keepA hb a0
  replace a1 := cell_keepA hb a1
  replace a2 := cell_keepA hb a2
  replace a3 := cell_keepA hb a3
  clear hb
  cases z0
  · go_wp2_with fail
    go_ret
    exact ⟨rfl, HB.out⟩
  go_wp2_with (first | refine load_deed rfl _ rfl _ _ rfl _ RD.out rfl ?_ | refine load_deed rfl _ rfl _ _ rfl _ RF.out rfl ?_)
  refine (fewD_c f n z1 _ F1.out).mono ?_
  rintro _ wq ⟨rfl, hb⟩
  replace HB := hide (andthen HB.out hb)
  replace RD := hide (range_keep RD.out hb)
  replace RF := hide (range_keep RF.out hb)
  replace RP := hide (range_keep RP.out hb)
  replace RQ := hide (range_keep RQ.out hb)
  replace OD := hide (OD.out.keep hb)
  replace OF := hide (OF.out.keep hb)
  replace OP := hide (OP.out.keep hb)
  replace OQ := hide (OQ.out.keep hb)
  replace a0 := cell_keepA hb a0
  replace a1 := cell_keepA hb a1
  replace a2 := cell_keepA hb a2
  replace a3 := cell_keepA hb a3
  clear hb
  cases z1
  · go_wp2_with fail
    go_ret
    exact ⟨rfl, HB.out⟩
  have EP := hide (range_end (pre := [.int .i64 p.id.1, .int .i64 p.id.2, .int .i64 p.st]) RP.out 3 rfl)
  have EQ := hide (range_end (pre := [.int .i64 q.id.1, .int .i64 q.id.2, .int .i64 q.st]) RQ.out 3 rfl)
  go_wp2_with (refine load_event rfl _ rfl _ _ rfl _ EP.out rfl ?_)
  refine (fewV_c p.e mp z2 _ F2.out).mono ?_
  rintro _ wq ⟨rfl, hb⟩
  replace HB := hide (andthen HB.out hb)
  replace RD := hide (range_keep RD.out hb)
  replace RF := hide (range_keep RF.out hb)
  replace RP := hide (range_keep RP.out hb)
  replace RQ := hide (range_keep RQ.out hb)
  replace OD := hide (OD.out.keep hb)
  replace OF := hide (OF.out.keep hb)
  replace OP := hide (OP.out.keep hb)
  replace OQ := hide (OQ.out.keep hb)
  replace a0 := cell_keepA hb a0
  replace a1 := cell_keepA hb a1
  replace a2 := cell_keepA hb a2
  replace a3 := cell_keepA hb a3
  replace EQ := hide (range_keep EQ.out hb)
  clear hb
  cases z2
  · go_wp2_with fail
    go_ret
    exact ⟨rfl, HB.out⟩
  go_wp2_with (refine load_event rfl _ rfl _ _ rfl _ EQ.out rfl ?_)
  refine (fewV_c q.e mq z3 _ F3.out).mono ?_
  rintro _ W ⟨rfl, hb⟩
  replace HB := hide (andthen HB.out hb)
  replace RD := hide (range_keep RD.out hb)
  replace RF := hide (range_keep RF.out hb)
  replace RP := hide (range_keep RP.out hb)
  replace RQ := hide (range_keep RQ.out hb)
  replace OD := hide (OD.out.keep hb)
  replace OF := hide (OF.out.keep hb)
  replace OP := hide (OP.out.keep hb)
  replace OQ := hide (OQ.out.keep hb)
  replace a0 := cell_keepA hb a0
  replace a1 := cell_keepA hb a1
  replace a2 := cell_keepA hb a2
  replace a3 := cell_keepA hb a3
  clear hb
  cases z3
  · go_wp2_with fail
    go_ret
    exact ⟨rfl, HB.out⟩
  clear EP EQ
  have LD := hide (OD.out.few F0.out)
  have LF := hide (OF.out.few F1.out)
  have LP := hide (OP.out.few F2.out)
  have LQ := hide (OQ.out.few F3.out)
  clear OD OF OP OQ F0 F1 F2 F3
  go_wp2_with fail
  refine wp_region_held_drew (S := fun w' => Below W.heap.size W w' ∧ w'.cell? ⟨w.heap.size + 1 + 1, 0, none⟩ = some (.int .i64 x.1) ∧ w'.cell? ⟨w.heap.size + 1 + 1, 1, none⟩ = some (.int .i64 x.2) ∧ w'.cell? ⟨w.heap.size + 1 + 1 + 1, 0, none⟩ = some (.int .i64 y.1) ∧ w'.cell? ⟨w.heap.size + 1 + 1 + 1, 1, none⟩ = some (.int .i64 y.2)) (by kernel_rfl) ?_ (fun hH0 => ?_)
  · exact sD4 (start W).drew ⟨start W, a0, a1, a2, a3⟩
  refine' wpAnyH_take (i := 0) (oi := _) (v := _) rfl (by as_aux_lemma => kernel_rfl) (by as_aux_lemma => kernel_rfl) (by as_aux_lemma => kernel_rfl) (fun _ _ _ h => h) (yields_deed (by rfl) _ rfl _ _ rfl _ (fun _ hS => range_keep RD.out hS.1) rfl) hH0 ?_
  try simp only [Act.put, List.getElem_toArray, List.getElem_cons_succ, List.getElem_cons_zero, List.setIfInBounds_toArray, List.set_cons_zero, List.set_cons_succ]
  refine' wpAnyH_take (i := 2) (oi := _) (v := _) rfl (by as_aux_lemma => kernel_rfl) (by as_aux_lemma => kernel_rfl) (by as_aux_lemma => kernel_rfl) (fun _ _ _ h => h) (yields_deed (by rfl) _ rfl _ _ rfl _ (fun _ hS => range_keep RD.out hS.1) rfl) hH0 ?_
  try simp only [Act.put, List.getElem_toArray, List.getElem_cons_succ, List.getElem_cons_zero, List.setIfInBounds_toArray, List.set_cons_zero, List.set_cons_succ]
  refine wpAnyH_ready (rs := [1]) (by as_aux_lemma => kernel_rfl) (by simp) ?_
  refine AllReadyH.cons (o := _) rfl (fun K hK => ?_) AllReadyH.nil
  go_simp
  refine (dIs_c d m g0 _ (LD.out.keep hH0.1) G0.out).mono ?_
  rintro _ wz ⟨rfl, hb⟩
  refine hK.out _ _ (sD4 hb hH0) (fun hN => ?_)
  clear hK K hH0
  have hH1 := hN
  clear hN
  try simp only [Act.put, List.getElem_toArray, List.getElem_cons_succ, List.getElem_cons_zero, List.setIfInBounds_toArray, List.set_cons_zero, List.set_cons_succ]
  refine wpAnyH_ready (rs := [3]) (by as_aux_lemma => kernel_rfl) (by simp) ?_
  refine AllReadyH.cons (o := _) rfl (fun K hK => ?_) AllReadyH.nil
  go_simp
  refine (rdIs_c d m g0 _ (LD.out.keep hH1.1) G0.out).mono ?_
  rintro _ wz ⟨rfl, hb⟩
  refine hK.out _ _ (sD4 hb hH1) (fun hN => ?_)
  clear hK K hH1
  have hH2 := hN
  clear hN
  try simp only [Act.put, List.getElem_toArray, List.getElem_cons_succ, List.getElem_cons_zero, List.setIfInBounds_toArray, List.set_cons_zero, List.set_cons_succ]
  refine' wpAnyH_take (i := 4) (oi := _) (v := ?v2) rfl (by as_aux_lemma => kernel_rfl) (by as_aux_lemma => kernel_rfl) (by as_aux_lemma => kernel_rfl) (fun _ _ _ h => h) (Or.inl ⟨by rfl, ?y2⟩) hH2 ?r2
  case y2 => (intro w hSw; (try dsimp only at hSw); go_simp; (try with_reducible rfl))
  try simp only [Act.put, List.getElem_toArray, List.getElem_cons_succ, List.getElem_cons_zero, List.setIfInBounds_toArray, List.set_cons_zero, List.set_cons_succ]
  refine' wpAnyH_take (i := 5) (oi := _) (v := ?v3) rfl (by as_aux_lemma => kernel_rfl) (by as_aux_lemma => kernel_rfl) (by as_aux_lemma => kernel_rfl) (fun _ _ _ h => h) (Or.inl ⟨by rfl, ?y3⟩) hH2 ?r3
  case y3 => (intro w hSw; (try dsimp only at hSw); go_simp; (try with_reducible rfl))
  try simp only [Act.put, List.getElem_toArray, List.getElem_cons_succ, List.getElem_cons_zero, List.setIfInBounds_toArray, List.set_cons_zero, List.set_cons_succ]
  refine' wpAnyH_take (i := 6) (oi := _) (v := _) rfl (by as_aux_lemma => kernel_rfl) (by as_aux_lemma => kernel_rfl) (by as_aux_lemma => kernel_rfl) (fun _ _ _ h => h) (yields_deed (by rfl) _ rfl _ _ rfl _ (fun _ hS => range_keep RD.out hS.1) rfl) hH2 ?_
  try simp only [Act.put, List.getElem_toArray, List.getElem_cons_succ, List.getElem_cons_zero, List.setIfInBounds_toArray, List.set_cons_zero, List.set_cons_succ]
  refine' wpAnyH_take (i := 7) (oi := _) (v := _) rfl (by as_aux_lemma => kernel_rfl) (by as_aux_lemma => kernel_rfl) (by as_aux_lemma => kernel_rfl) (fun _ _ _ h => h) (yields_deed (by rfl) _ rfl _ _ rfl _ (fun _ hS => range_keep RF.out hS.1) rfl) hH2 ?_
  try simp only [Act.put, List.getElem_toArray, List.getElem_cons_succ, List.getElem_cons_zero, List.setIfInBounds_toArray, List.set_cons_zero, List.set_cons_succ]
  refine' wpAnyH_take (i := 9) (oi := _) (v := _) rfl (by as_aux_lemma => kernel_rfl) (by as_aux_lemma => kernel_rfl) (by as_aux_lemma => kernel_rfl) (fun _ _ _ h => h) (yields_deed (by rfl) _ rfl _ _ rfl _ (fun _ hS => range_keep RD.out hS.1) rfl) hH2 ?_
  try simp only [Act.put, List.getElem_toArray, List.getElem_cons_succ, List.getElem_cons_zero, List.setIfInBounds_toArray, List.set_cons_zero, List.set_cons_succ]
  refine' wpAnyH_take (i := 10) (oi := _) (v := _) rfl (by as_aux_lemma => kernel_rfl) (by as_aux_lemma => kernel_rfl) (by as_aux_lemma => kernel_rfl) (fun _ _ _ h => h) (yields_deed (by rfl) _ rfl _ _ rfl _ (fun _ hS => range_keep RF.out hS.1) rfl) hH2 ?_
  try simp only [Act.put, List.getElem_toArray, List.getElem_cons_succ, List.getElem_cons_zero, List.setIfInBounds_toArray, List.set_cons_zero, List.set_cons_succ]
  refine wpAnyH_ready (rs := [8]) (by as_aux_lemma => kernel_rfl) (by simp) ?_
  refine AllReadyH.cons (o := _) rfl (fun K hK => ?_) AllReadyH.nil
  go_simp
  refine (dSame_any d f m n g1 _ (LD.out.keep hH2.1) (LF.out.keep hH2.1) G1.out).mono ?_
  rintro _ wz ⟨rfl, hb⟩
  refine hK.out _ _ (sD4 hb hH2) (fun hN => ?_)
  clear hK K hH2
  have hH3 := hN
  clear hN
  try simp only [Act.put, List.getElem_toArray, List.getElem_cons_succ, List.getElem_cons_zero, List.setIfInBounds_toArray, List.set_cons_zero, List.set_cons_succ]
  refine wpAnyH_ready (rs := [11]) (by as_aux_lemma => kernel_rfl) (by simp) ?_
  refine AllReadyH.cons (o := _) rfl (fun K hK => ?_) AllReadyH.nil
  go_simp
  refine (rsameD_c d f m n g1 _ (LD.out.keep hH3.1) (LF.out.keep hH3.1) G1.out).mono ?_
  rintro _ wz ⟨rfl, hb⟩
  refine hK.out _ _ (sD4 hb hH3) (fun hN => ?_)
  clear hK K hH3
  have hH4 := hN
  clear hN
  try simp only [Act.put, List.getElem_toArray, List.getElem_cons_succ, List.getElem_cons_zero, List.setIfInBounds_toArray, List.set_cons_zero, List.set_cons_succ]
  refine' wpAnyH_take (i := 12) (oi := _) (v := ?v8) rfl (by as_aux_lemma => kernel_rfl) (by as_aux_lemma => kernel_rfl) (by as_aux_lemma => kernel_rfl) (fun _ _ _ h => h) (Or.inl ⟨by rfl, ?y8⟩) hH4 ?r8
  case y8 => (intro w hSw; (try dsimp only at hSw); go_simp; (try with_reducible rfl))
  try simp only [Act.put, List.getElem_toArray, List.getElem_cons_succ, List.getElem_cons_zero, List.setIfInBounds_toArray, List.set_cons_zero, List.set_cons_succ]
  refine' wpAnyH_take (i := 13) (oi := _) (v := ?v9) rfl (by as_aux_lemma => kernel_rfl) (by as_aux_lemma => kernel_rfl) (by as_aux_lemma => kernel_rfl) (fun _ _ _ h => h) (Or.inl ⟨by rfl, ?y9⟩) hH4 ?r9
  case y9 => (intro w hSw; (try dsimp only at hSw); go_simp; (try with_reducible rfl))
  try simp only [Act.put, List.getElem_toArray, List.getElem_cons_succ, List.getElem_cons_zero, List.setIfInBounds_toArray, List.set_cons_zero, List.set_cons_succ]
  refine' wpAnyH_take (i := 14) (oi := _) (v := ?v10) rfl (by as_aux_lemma => kernel_rfl) (by as_aux_lemma => kernel_rfl) (by as_aux_lemma => kernel_rfl) (fun _ _ _ h => h) (Or.inl ⟨by rfl, ?y10⟩) hH4 ?r10
  case y10 => (intro w hSw; (try dsimp only at hSw); go_simp; (try with_reducible rfl))
  try simp only [Act.put, List.getElem_toArray, List.getElem_cons_succ, List.getElem_cons_zero, List.setIfInBounds_toArray, List.set_cons_zero, List.set_cons_succ]
  refine' wpAnyH_take (i := 15) (oi := _) (v := ?v11) rfl (by as_aux_lemma => kernel_rfl) (by as_aux_lemma => kernel_rfl) (by as_aux_lemma => kernel_rfl) (fun _ _ _ h => h) (Or.inl ⟨by rfl, ?y11⟩) hH4 ?r11
  case y11 => (intro w hSw; (try dsimp only at hSw); go_simp; (try with_reducible rfl))
  try simp only [Act.put, List.getElem_toArray, List.getElem_cons_succ, List.getElem_cons_zero, List.setIfInBounds_toArray, List.set_cons_zero, List.set_cons_succ]
  refine' wpAnyH_take (i := 17) (oi := _) (v := ?v12) rfl (by as_aux_lemma => kernel_rfl) (by as_aux_lemma => kernel_rfl) (by as_aux_lemma => kernel_rfl) (fun _ _ _ h => h) (Or.inl ⟨by rfl, ?y12⟩) hH4 ?r12
  case y12 => (intro w hSw; (try dsimp only at hSw); go_simp; (try with_reducible rfl))
  try simp only [Act.put, List.getElem_toArray, List.getElem_cons_succ, List.getElem_cons_zero, List.setIfInBounds_toArray, List.set_cons_zero, List.set_cons_succ]
  refine wpAnyH_ready (rs := [16]) (by as_aux_lemma => kernel_rfl) (by simp) ?_
  refine AllReadyH.cons (o := _) rfl (fun K hK => ?_) AllReadyH.nil
  go_simp
  refine (did_at x g2 _ G2.out).mono ?_
  rintro _ wz ⟨rfl, hb⟩
  refine hK.out _ _ (sD4 hb hH4) (fun hN => ?_)
  clear hK K hH4
  have hH5 := hN
  clear hN
  try simp only [Act.put, List.getElem_toArray, List.getElem_cons_succ, List.getElem_cons_zero, List.setIfInBounds_toArray, List.set_cons_zero, List.set_cons_succ]
  refine wpAnyH_ready (rs := [18]) (by as_aux_lemma => kernel_rfl) (by simp) ?_
  refine AllReadyH.cons (o := _) rfl (fun K hK => ?_) AllReadyH.nil
  go_simp
  refine (rid_at x g2 _ G2.out).mono ?_
  rintro _ wz ⟨rfl, hb⟩
  refine hK.out _ _ (sD4 hb hH5) (fun hN => ?_)
  clear hK K hH5
  have hH6 := hN
  clear hN
  try simp only [Act.put, List.getElem_toArray, List.getElem_cons_succ, List.getElem_cons_zero, List.setIfInBounds_toArray, List.set_cons_zero, List.set_cons_succ]
  refine' wpAnyH_take (i := 19) (oi := _) (v := ?v13) rfl (by as_aux_lemma => kernel_rfl) (by as_aux_lemma => kernel_rfl) (by as_aux_lemma => kernel_rfl) (fun _ _ _ h => h) (Or.inl ⟨by rfl, ?y13⟩) hH6 ?r13
  case y13 => (intro w hSw; (try dsimp only at hSw); go_simp; (try with_reducible rfl))
  try simp only [Act.put, List.getElem_toArray, List.getElem_cons_succ, List.getElem_cons_zero, List.setIfInBounds_toArray, List.set_cons_zero, List.set_cons_succ]
  refine' wpAnyH_take (i := 20) (oi := _) (v := ?v14) rfl (by as_aux_lemma => kernel_rfl) (by as_aux_lemma => kernel_rfl) (by as_aux_lemma => kernel_rfl) (fun _ _ _ h => h) (Or.inl ⟨by rfl, ?y14⟩) hH6 ?r14
  case y14 => (intro w hSw; (try dsimp only at hSw); go_simp; (try with_reducible rfl))
  try simp only [Act.put, List.getElem_toArray, List.getElem_cons_succ, List.getElem_cons_zero, List.setIfInBounds_toArray, List.set_cons_zero, List.set_cons_succ]
  refine' wpAnyH_take (i := 21) (oi := _) (v := ?v15) rfl (by as_aux_lemma => kernel_rfl) (by as_aux_lemma => kernel_rfl) (by as_aux_lemma => kernel_rfl) (fun _ _ _ h => h) (Or.inl ⟨by rfl, ?y15⟩) hH6 ?r15
  case y15 => (intro w hSw; (try dsimp only at hSw); go_simp; (try with_reducible rfl))
  try simp only [Act.put, List.getElem_toArray, List.getElem_cons_succ, List.getElem_cons_zero, List.setIfInBounds_toArray, List.set_cons_zero, List.set_cons_succ]
  refine' wpAnyH_take (i := 22) (oi := _) (v := ?v16) rfl (by as_aux_lemma => kernel_rfl) (by as_aux_lemma => kernel_rfl) (by as_aux_lemma => kernel_rfl) (fun _ _ _ h => h) (Or.inl ⟨by rfl, ?y16⟩) hH6 ?r16
  case y16 => (intro w hSw; (try dsimp only at hSw); go_simp; (try with_reducible rfl))
  try simp only [Act.put, List.getElem_toArray, List.getElem_cons_succ, List.getElem_cons_zero, List.setIfInBounds_toArray, List.set_cons_zero, List.set_cons_succ]
  refine' wpAnyH_take (i := 23) (oi := _) (v := ?v17) rfl (by as_aux_lemma => kernel_rfl) (by as_aux_lemma => kernel_rfl) (by as_aux_lemma => kernel_rfl) (fun _ _ _ h => h) (Or.inl ⟨by rfl, ?y17⟩) hH6 ?r17
  case y17 => (intro w hSw; (try dsimp only at hSw); go_simp; (try with_reducible rfl))
  try simp only [Act.put, List.getElem_toArray, List.getElem_cons_succ, List.getElem_cons_zero, List.setIfInBounds_toArray, List.set_cons_zero, List.set_cons_succ]
  refine' wpAnyH_take (i := 25) (oi := _) (v := ?v18) rfl (by as_aux_lemma => kernel_rfl) (by as_aux_lemma => kernel_rfl) (by as_aux_lemma => kernel_rfl) (fun _ _ _ h => h) (Or.inl ⟨by rfl, ?y18⟩) hH6 ?r18
  case y18 => (intro w hSw; (try dsimp only at hSw); go_simp; (try with_reducible rfl))
  try simp only [Act.put, List.getElem_toArray, List.getElem_cons_succ, List.getElem_cons_zero, List.setIfInBounds_toArray, List.set_cons_zero, List.set_cons_succ]
  refine' wpAnyH_take (i := 26) (oi := _) (v := ?v19) rfl (by as_aux_lemma => kernel_rfl) (by as_aux_lemma => kernel_rfl) (by as_aux_lemma => kernel_rfl) (fun _ _ _ h => h) (Or.inl ⟨by rfl, ?y19⟩) hH6 ?r19
  case y19 => (intro w hSw; (try dsimp only at hSw); go_simp; (try with_reducible rfl))
  try simp only [Act.put, List.getElem_toArray, List.getElem_cons_succ, List.getElem_cons_zero, List.setIfInBounds_toArray, List.set_cons_zero, List.set_cons_succ]
  refine wpAnyH_ready (rs := [24]) (by as_aux_lemma => kernel_rfl) (by simp) ?_
  refine AllReadyH.cons (o := _) rfl (fun K hK => ?_) AllReadyH.nil
  go_simp
  refine (dbefore_at x y g3 _ G3.out).mono ?_
  rintro _ wz ⟨rfl, hb⟩
  refine hK.out _ _ (sD4 hb hH6) (fun hN => ?_)
  clear hK K hH6
  have hH7 := hN
  clear hN
  try simp only [Act.put, List.getElem_toArray, List.getElem_cons_succ, List.getElem_cons_zero, List.setIfInBounds_toArray, List.set_cons_zero, List.set_cons_succ]
  refine wpAnyH_ready (rs := [27]) (by as_aux_lemma => kernel_rfl) (by simp) ?_
  refine AllReadyH.cons (o := _) rfl (fun K hK => ?_) AllReadyH.nil
  go_simp
  refine (rbefore_at x y g3 _ G3.out).mono ?_
  rintro _ wz ⟨rfl, hb⟩
  refine hK.out _ _ (sD4 hb hH7) (fun hN => ?_)
  clear hK K hH7
  have hH8 := hN
  clear hN
  try simp only [Act.put, List.getElem_toArray, List.getElem_cons_succ, List.getElem_cons_zero, List.setIfInBounds_toArray, List.set_cons_zero, List.set_cons_succ]
  refine' wpAnyH_take (i := 28) (oi := _) (v := ?v20) rfl (by as_aux_lemma => kernel_rfl) (by as_aux_lemma => kernel_rfl) (by as_aux_lemma => kernel_rfl) (fun _ _ _ h => h) (Or.inl ⟨by rfl, ?y20⟩) hH8 ?r20
  case y20 => (intro w hSw; (try dsimp only at hSw); go_simp; (try with_reducible rfl))
  try simp only [Act.put, List.getElem_toArray, List.getElem_cons_succ, List.getElem_cons_zero, List.setIfInBounds_toArray, List.set_cons_zero, List.set_cons_succ]
  refine' wpAnyH_take (i := 29) (oi := _) (v := ?v21) rfl (by as_aux_lemma => kernel_rfl) (by as_aux_lemma => kernel_rfl) (by as_aux_lemma => kernel_rfl) (fun _ _ _ h => h) (Or.inl ⟨by rfl, ?y21⟩) hH8 ?r21
  case y21 => (intro w hSw; (try dsimp only at hSw); go_simp; (try with_reducible rfl))
  try simp only [Act.put, List.getElem_toArray, List.getElem_cons_succ, List.getElem_cons_zero, List.setIfInBounds_toArray, List.set_cons_zero, List.set_cons_succ]
  refine' wpAnyH_take (i := 30) (oi := _) (v := ?v22) rfl (by as_aux_lemma => kernel_rfl) (by as_aux_lemma => kernel_rfl) (by as_aux_lemma => kernel_rfl) (fun _ _ _ h => h) (Or.inl ⟨by rfl, ?y22⟩) hH8 ?r22
  case y22 => (intro w hSw; (try dsimp only at hSw); go_simp; (try with_reducible rfl))
  try simp only [Act.put, List.getElem_toArray, List.getElem_cons_succ, List.getElem_cons_zero, List.setIfInBounds_toArray, List.set_cons_zero, List.set_cons_succ]
  refine' wpAnyH_take (i := 31) (oi := _) (v := _) rfl (by as_aux_lemma => kernel_rfl) (by as_aux_lemma => kernel_rfl) (by as_aux_lemma => kernel_rfl) (fun _ _ _ h => h) (yields_book (by rfl) _ rfl _ _ rfl _ (fun _ hS => range_keep RP.out hS.1) rfl) hH8 ?_
  try simp only [Act.put, List.getElem_toArray, List.getElem_cons_succ, List.getElem_cons_zero, List.setIfInBounds_toArray, List.set_cons_zero, List.set_cons_succ]
  refine' wpAnyH_take (i := 33) (oi := _) (v := _) rfl (by as_aux_lemma => kernel_rfl) (by as_aux_lemma => kernel_rfl) (by as_aux_lemma => kernel_rfl) (fun _ _ _ h => h) (yields_book (by rfl) _ rfl _ _ rfl _ (fun _ hS => range_keep RP.out hS.1) rfl) hH8 ?_
  try simp only [Act.put, List.getElem_toArray, List.getElem_cons_succ, List.getElem_cons_zero, List.setIfInBounds_toArray, List.set_cons_zero, List.set_cons_succ]
  refine wpAnyH_ready (rs := [32]) (by as_aux_lemma => kernel_rfl) (by simp) ?_
  refine AllReadyH.cons (o := _) rfl (fun K hK => ?_) AllReadyH.nil
  go_simp
  refine (disBk_c p mp g4 _ (LP.out.keep hH8.1) G4.out).mono ?_
  rintro _ wz ⟨rfl, hb⟩
  refine hK.out _ _ (sD4 hb hH8) (fun hN => ?_)
  clear hK K hH8
  have hH9 := hN
  clear hN
  try simp only [Act.put, List.getElem_toArray, List.getElem_cons_succ, List.getElem_cons_zero, List.setIfInBounds_toArray, List.set_cons_zero, List.set_cons_succ]
  refine wpAnyH_ready (rs := [34]) (by as_aux_lemma => kernel_rfl) (by simp) ?_
  refine AllReadyH.cons (o := _) rfl (fun K hK => ?_) AllReadyH.nil
  go_simp
  refine (risBk_c p mp g4 _ (LP.out.keep hH9.1) G4.out).mono ?_
  rintro _ wz ⟨rfl, hb⟩
  refine hK.out _ _ (sD4 hb hH9) (fun hN => ?_)
  clear hK K hH9
  have hH10 := hN
  clear hN
  try simp only [Act.put, List.getElem_toArray, List.getElem_cons_succ, List.getElem_cons_zero, List.setIfInBounds_toArray, List.set_cons_zero, List.set_cons_succ]
  refine' wpAnyH_take (i := 35) (oi := _) (v := ?v25) rfl (by as_aux_lemma => kernel_rfl) (by as_aux_lemma => kernel_rfl) (by as_aux_lemma => kernel_rfl) (fun _ _ _ h => h) (Or.inl ⟨by rfl, ?y25⟩) hH10 ?r25
  case y25 => (intro w hSw; (try dsimp only at hSw); go_simp; (try with_reducible rfl))
  try simp only [Act.put, List.getElem_toArray, List.getElem_cons_succ, List.getElem_cons_zero, List.setIfInBounds_toArray, List.set_cons_zero, List.set_cons_succ]
  refine' wpAnyH_take (i := 36) (oi := _) (v := ?v26) rfl (by as_aux_lemma => kernel_rfl) (by as_aux_lemma => kernel_rfl) (by as_aux_lemma => kernel_rfl) (fun _ _ _ h => h) (Or.inl ⟨by rfl, ?y26⟩) hH10 ?r26
  case y26 => (intro w hSw; (try dsimp only at hSw); go_simp; (try with_reducible rfl))
  try simp only [Act.put, List.getElem_toArray, List.getElem_cons_succ, List.getElem_cons_zero, List.setIfInBounds_toArray, List.set_cons_zero, List.set_cons_succ]
  refine' wpAnyH_take (i := 37) (oi := _) (v := ?v27) rfl (by as_aux_lemma => kernel_rfl) (by as_aux_lemma => kernel_rfl) (by as_aux_lemma => kernel_rfl) (fun _ _ _ h => h) (Or.inl ⟨by rfl, ?y27⟩) hH10 ?r27
  case y27 => (intro w hSw; (try dsimp only at hSw); go_simp; (try with_reducible rfl))
  try simp only [Act.put, List.getElem_toArray, List.getElem_cons_succ, List.getElem_cons_zero, List.setIfInBounds_toArray, List.set_cons_zero, List.set_cons_succ]
  refine' wpAnyH_take (i := 38) (oi := _) (v := _) rfl (by as_aux_lemma => kernel_rfl) (by as_aux_lemma => kernel_rfl) (by as_aux_lemma => kernel_rfl) (fun _ _ _ h => h) (yields_book (by rfl) _ rfl _ _ rfl _ (fun _ hS => range_keep RP.out hS.1) rfl) hH10 ?_
  try simp only [Act.put, List.getElem_toArray, List.getElem_cons_succ, List.getElem_cons_zero, List.setIfInBounds_toArray, List.set_cons_zero, List.set_cons_succ]
  refine' wpAnyH_take (i := 39) (oi := _) (v := _) rfl (by as_aux_lemma => kernel_rfl) (by as_aux_lemma => kernel_rfl) (by as_aux_lemma => kernel_rfl) (fun _ _ _ h => h) (yields_book (by rfl) _ rfl _ _ rfl _ (fun _ hS => range_keep RQ.out hS.1) rfl) hH10 ?_
  try simp only [Act.put, List.getElem_toArray, List.getElem_cons_succ, List.getElem_cons_zero, List.setIfInBounds_toArray, List.set_cons_zero, List.set_cons_succ]
  refine' wpAnyH_take (i := 41) (oi := _) (v := _) rfl (by as_aux_lemma => kernel_rfl) (by as_aux_lemma => kernel_rfl) (by as_aux_lemma => kernel_rfl) (fun _ _ _ h => h) (yields_book (by rfl) _ rfl _ _ rfl _ (fun _ hS => range_keep RP.out hS.1) rfl) hH10 ?_
  try simp only [Act.put, List.getElem_toArray, List.getElem_cons_succ, List.getElem_cons_zero, List.setIfInBounds_toArray, List.set_cons_zero, List.set_cons_succ]
  refine' wpAnyH_take (i := 42) (oi := _) (v := _) rfl (by as_aux_lemma => kernel_rfl) (by as_aux_lemma => kernel_rfl) (by as_aux_lemma => kernel_rfl) (fun _ _ _ h => h) (yields_book (by rfl) _ rfl _ _ rfl _ (fun _ hS => range_keep RQ.out hS.1) rfl) hH10 ?_
  try simp only [Act.put, List.getElem_toArray, List.getElem_cons_succ, List.getElem_cons_zero, List.setIfInBounds_toArray, List.set_cons_zero, List.set_cons_succ]
  refine wpAnyH_ready (rs := [40]) (by as_aux_lemma => kernel_rfl) (by simp) ?_
  refine AllReadyH.cons (o := _) rfl (fun K hK => ?_) AllReadyH.nil
  go_simp
  refine (dsameBk_c p q mp mq g5 _ (LP.out.keep hH10.1) (LQ.out.keep hH10.1) G5.out).mono ?_
  rintro _ wz ⟨rfl, hb⟩
  refine hK.out _ _ (sD4 hb hH10) (fun hN => ?_)
  clear hK K hH10
  have hH11 := hN
  clear hN
  try simp only [Act.put, List.getElem_toArray, List.getElem_cons_succ, List.getElem_cons_zero, List.setIfInBounds_toArray, List.set_cons_zero, List.set_cons_succ]
  refine wpAnyH_ready (rs := [43]) (by as_aux_lemma => kernel_rfl) (by simp) ?_
  refine AllReadyH.cons (o := _) rfl (fun K hK => ?_) AllReadyH.nil
  go_simp
  refine (rsameBk_c p q mp mq g5 _ (LP.out.keep hH11.1) (LQ.out.keep hH11.1) G5.out).mono ?_
  rintro _ wz ⟨rfl, hb⟩
  refine hK.out _ _ (sD4 hb hH11) (fun hN => ?_)
  clear hK K hH11
  have hH12 := hN
  clear hN
  try simp only [Act.put, List.getElem_toArray, List.getElem_cons_succ, List.getElem_cons_zero, List.setIfInBounds_toArray, List.set_cons_zero, List.set_cons_succ]
  refine' wpAnyH_take (i := 44) (oi := _) (v := ?v32) rfl (by as_aux_lemma => kernel_rfl) (by as_aux_lemma => kernel_rfl) (by as_aux_lemma => kernel_rfl) (fun _ _ _ h => h) (Or.inl ⟨by rfl, ?y32⟩) hH12 ?r32
  case y32 => (intro w hSw; (try dsimp only at hSw); go_simp; (try with_reducible rfl))
  try simp only [Act.put, List.getElem_toArray, List.getElem_cons_succ, List.getElem_cons_zero, List.setIfInBounds_toArray, List.set_cons_zero, List.set_cons_succ]
  refine' wpAnyH_take (i := 45) (oi := _) (v := ?v33) rfl (by as_aux_lemma => kernel_rfl) (by as_aux_lemma => kernel_rfl) (by as_aux_lemma => kernel_rfl) (fun _ _ _ h => h) (Or.inl ⟨by rfl, ?y33⟩) hH12 ?r33
  case y33 => (intro w hSw; (try dsimp only at hSw); go_simp; (try with_reducible rfl))
  try simp only [Act.put, List.getElem_toArray, List.getElem_cons_succ, List.getElem_cons_zero, List.setIfInBounds_toArray, List.set_cons_zero, List.set_cons_succ]
  refine' wpAnyH_take (i := 46) (oi := _) (v := ?v34) rfl (by as_aux_lemma => kernel_rfl) (by as_aux_lemma => kernel_rfl) (by as_aux_lemma => kernel_rfl) (fun _ _ _ h => h) (Or.inl ⟨by rfl, ?y34⟩) hH12 ?r34
  case y34 => (intro w hSw; (try dsimp only at hSw); go_simp; (try with_reducible rfl))
  try simp only [Act.put, List.getElem_toArray, List.getElem_cons_succ, List.getElem_cons_zero, List.setIfInBounds_toArray, List.set_cons_zero, List.set_cons_succ]
  refine wpAnyH_done (by as_aux_lemma => kernel_rfl) ?_ _
  have HBE := hide hH12.1
  clear hH12
  go_wp2_with fail
  go_ret
  exact ⟨rfl, andthen HB.out HBE.out⟩
end Go.Proofs.YtocnobgdlgndjaaGreat

/- The document's deeds: Is. Written by recipes/de5.py. -/
import Derived.Deep.Cut
import Derived.Test.YtlmdceeeahnkcaaGreatDoorZQ3
namespace Go.Proofs.YtlmdceeeahnkcaaGreatDoor
open Go.RowKit Rul De Cl Go.Sort

theorem sD5 {W w w' : World} {a1 a2 a3 a4 a5 : Addr} {v1 v2 v3 v4 v5 : Value} (hb : Below w.heap.size w w') (h : Below W.heap.size W w ∧ w.cell? a1 = some v1 ∧ w.cell? a2 = some v2 ∧ w.cell? a3 = some v3 ∧ w.cell? a4 = some v4 ∧ w.cell? a5 = some v5) :
    Below W.heap.size W w' ∧ w'.cell? a1 = some v1 ∧ w'.cell? a2 = some v2 ∧ w'.cell? a3 = some v3 ∧ w'.cell? a4 = some v4 ∧ w'.cell? a5 = some v5 :=
  ⟨andthen h.1 hb, cell_keepA hb h.2.1, cell_keepA hb h.2.2.1, cell_keepA hb h.2.2.2.1, cell_keepA hb h.2.2.2.2.1, cell_keepA hb h.2.2.2.2.2⟩
/-- the document's, what it looks at first being known. -/
def isV (d : D) (nI nE nC nP nB : Bool) : Bool :=
  if d.kd = 1 ∨ d.kd = 2 then idB d.id && (Ev.isE d.e && (nC && (nP && nB)))
  else if d.kd = 3 ∨ d.kd = 4 then idB d.id && (nE && (nC && (nP && nB)))
  else if d.kd = 5 ∨ d.kd = 6 then nI && (nE && (neatB d.cl && (peB d.pe && (seqB d.n && nB))))
  else if d.kd = 7 then nI && (nE && (nC && (peB d.pe && (seqB d.n && nB))))
  else if d.kd = 8 then nI && (nE && (nC && (peB d.pe && (seqB d.n && (bkB d.b && decide (d.b.id.2 = d.pe))))))
  else false
theorem isR_isV (d : D) : isR d = isV d (idE d.id (0, 0)) (Ev.sameE d.e e0) (decide (d.cl.length = 0)) (decide (d.pe = 0) && decide (d.n = 0)) (sameBk d.b b0) := rfl
set_option linter.unusedSimpArgs false in
set_option maxRecDepth 100000 in
set_option maxHeartbeats 32000000 in
theorem rdIs_any (d : D) (m : DM) (w : World) (h : DL w d m) : ∀ (y0 y1 y2 y3 y4 y5 y6 : Bool), (d.id.1 == 0) = y0 → (d.id.2 == 0) = y1 → Ev.sameE d.e e0 = y2 → ((d.cl.length : Int) == 0) = y3 → (d.pe == 0) = y4 → (d.n == 0) = y5 → sameBk d.b b0 = y6 →
    Calls Tryz.prog 11 #[.agg (dC d m).toArray] w (Ans w (.bool (isV d (y0 && y1) y2 y3 (y4 && y5) y6))) := by
  intro y0 y1 y2 y3 y4 y5 y6 h0 h1 h2 h3 h4 h5 h6
  have HB := hide (more (start w) (.cells (dC d m).toArray 34))
  have HL := hide (h.keep HB.out)
  have R0 := range_new w (dC d m) 34
  have S0 := dAt_of R0
  have a0 := range_cell R0 0 0 _ rfl rfl
  have a1 := range_cell R0 1 1 _ rfl rfl
  have a2 := range_cell R0 2 2 _ rfl rfl
  have a3 := range_cell R0 16 16 _ rfl rfl
  have a4 := range_cell R0 17 17 _ rfl rfl
  have a5 := range_cell R0 18 18 _ rfl rfl
  have a6 := range_cell R0 20 20 _ rfl rfl
  have E0 := hide S0.ev
  have K0 := hide S0.bk
  have C2 := hide h2
  have C6 := hide h6
  clear h R0 S0 h2 h6
  obtain ⟨z0, q0⟩ : ∃ z, idB d.id = z := ⟨_, rfl⟩
  obtain ⟨z1, q1⟩ : ∃ z, Ev.isE d.e = z := ⟨_, rfl⟩
  obtain ⟨z2, q2⟩ : ∃ z, neatB d.cl = z := ⟨_, rfl⟩
  obtain ⟨z3, q3⟩ : ∃ z, peB d.pe = z := ⟨_, rfl⟩
  obtain ⟨z4, q4⟩ : ∃ z, seqB d.n = z := ⟨_, rfl⟩
  obtain ⟨z5, q5⟩ : ∃ z, bkB d.b = z := ⟨_, rfl⟩
  obtain ⟨z6, q6⟩ : ∃ z, decide (d.b.id.2 = d.pe) = z := ⟨_, rfl⟩
  have p6 : (d.b.id.2 == d.pe) = z6 := q6
  have HV := hide (fun (nI nE nC nP nB : Bool) => show isV d nI nE nC nP nB = (if d.kd = 1 ∨ d.kd = 2 then z0 && (z1 && (nC && (nP && nB))) else if d.kd = 3 ∨ d.kd = 4 then z0 && (nE && (nC && (nP && nB))) else if d.kd = 5 ∨ d.kd = 6 then nI && (nE && (z2 && (z3 && (z4 && nB)))) else if d.kd = 7 then nI && (nE && (nC && (z3 && (z4 && nB)))) else if d.kd = 8 then nI && (nE && (nC && (z3 && (z4 && (z5 && z6))))) else false) by
    unfold isV; rw [q0, q1, q2, q3, q4, q5, q6])
  have Q0 := hide q0
  have Q1 := hide q1
  have Q2 := hide q2
  have Q3 := hide q3
  have Q4 := hide q4
  have Q5 := hide q5
  clear q0 q1 q2 q3 q4 q5 q6
  rw [HV.out]
  clear HV
  obtain ⟨kd, ⟨i, j⟩, e, cl, pe, nn, ⟨⟨i2, j2⟩, st, e2⟩⟩ := d
  dsimp only at *
  go_enter Tryz.func11, Tryz.ntmps11
  go_upto_region 1 with fail
  generalize w.alloc (.cells (dC ⟨kd, (i, j), e, cl, pe, nn, ⟨(i2, j2), st, e2⟩⟩ m).toArray 34) = W0 at *
  go_cut [3, 4, 5, 6, 7] from 8 (fun v3 v4 v5 v6 v7 wx => v3 = .bool (y0 && y1) ∧ v4 = .bool y2 ∧ v5 = .bool y3 ∧ v6 = .bool (y4 && y5) ∧ v7 = .bool y6 ∧ Below W0.heap.size W0 wx)
  case first =>
    cases y4
    ·
      refine wp_region_held_drew (S := fun w' => Below W0.heap.size W0 w' ∧ w'.cell? ⟨w.heap.size, 1, none⟩ = some (.int .i64 i) ∧ w'.cell? ⟨w.heap.size, 2, none⟩ = some (.int .i64 j) ∧ w'.cell? ⟨w.heap.size, 16, none⟩ = some (.slice m.A cl.length m.c) ∧ w'.cell? ⟨w.heap.size, 17, none⟩ = some (.int .i64 pe) ∧ w'.cell? ⟨w.heap.size, 18, none⟩ = some (.int .i64 nn)) (by kernel_rfl) ?_ (fun hH0 => ?_)
      · exact sD5 (start W0).drew ⟨start W0, a1, a2, a3, a4, a5⟩
      refine' wpAnyH_take (i := 0) (oi := _) (v := ?v0) rfl (by as_aux_lemma => kernel_rfl) (by as_aux_lemma => kernel_rfl) (by as_aux_lemma => kernel_rfl) (fun _ _ _ h => h) (Or.inl ⟨by rfl, ?y0⟩) hH0 ?r0
      case y0 => (intro w hSw; (try dsimp only at hSw); go_simp; (try with_reducible rfl))
      try simp only [Act.put, List.getElem_toArray, List.getElem_cons_succ, List.getElem_cons_zero, List.setIfInBounds_toArray, List.set_cons_zero, List.set_cons_succ]
      refine' wpAnyH_take (i := 1) (oi := _) (v := ?v1) rfl (by as_aux_lemma => kernel_rfl) (by as_aux_lemma => kernel_rfl) (by as_aux_lemma => kernel_rfl) (fun _ _ _ h => h) (Or.inl ⟨by rfl, ?y1⟩) hH0 ?r1
      case y1 => (intro w hSw; (try dsimp only at hSw); go_simp; (try with_reducible rfl))
      try simp only [Act.put, List.getElem_toArray, List.getElem_cons_succ, List.getElem_cons_zero, List.setIfInBounds_toArray, List.set_cons_zero, List.set_cons_succ]
      refine' wpAnyH_take (i := 2) (oi := _) (v := ?v2) rfl (by as_aux_lemma => kernel_rfl) (by as_aux_lemma => kernel_rfl) (by as_aux_lemma => kernel_rfl) (fun _ _ _ h => h) (Or.inl ⟨by rfl, ?y2⟩) hH0 ?r2
      case y2 => (intro w hSw; (try dsimp only at hSw); go_simp; (try with_reducible rfl))
      try simp only [Act.put, List.getElem_toArray, List.getElem_cons_succ, List.getElem_cons_zero, List.setIfInBounds_toArray, List.set_cons_zero, List.set_cons_succ]
      refine' wpAnyH_take (i := 3) (oi := _) (v := .bool (y0 && y1)) rfl (by as_aux_lemma => kernel_rfl) (by as_aux_lemma => kernel_rfl) (by as_aux_lemma => kernel_rfl) (fun _ _ _ h => h) (Or.inl ⟨by rfl, ?y3⟩) hH0 ?r3
      case y3 => (intro w hSw; (try dsimp only at hSw); go_simp; (cases y0 <;> cases y1 <;> rfl))
      try simp only [Act.put, List.getElem_toArray, List.getElem_cons_succ, List.getElem_cons_zero, List.setIfInBounds_toArray, List.set_cons_zero, List.set_cons_succ]
      refine' wpAnyH_take (i := 4) (oi := _) (v := ?v4) rfl (by as_aux_lemma => kernel_rfl) (by as_aux_lemma => kernel_rfl) (by as_aux_lemma => kernel_rfl) (fun _ _ _ h => h) (Or.inl ⟨by rfl, ?y4⟩) hH0 ?r4
      case y4 => (intro w hSw; (try dsimp only at hSw); go_simp; (try with_reducible rfl))
      try simp only [Act.put, List.getElem_toArray, List.getElem_cons_succ, List.getElem_cons_zero, List.setIfInBounds_toArray, List.set_cons_zero, List.set_cons_succ]
      refine' wpAnyH_take (i := 5) (oi := _) (v := _) rfl (by as_aux_lemma => kernel_rfl) (by as_aux_lemma => kernel_rfl) (by as_aux_lemma => kernel_rfl) (fun _ _ _ h => h) (yields_event (by rfl) _ rfl _ _ rfl _ (fun _ hS => range_keep E0.out hS.1) rfl) hH0 ?_
      try simp only [Act.put, List.getElem_toArray, List.getElem_cons_succ, List.getElem_cons_zero, List.setIfInBounds_toArray, List.set_cons_zero, List.set_cons_succ]
      refine' wpAnyH_take (i := 6) (oi := _) (v := ?v6) rfl (by as_aux_lemma => kernel_rfl) (by as_aux_lemma => kernel_rfl) (by as_aux_lemma => kernel_rfl) (fun _ _ _ h => h) (Or.inl ⟨by rfl, ?y6⟩) hH0 ?r6
      case y6 => (intro w hSw; (try dsimp only at hSw); go_simp; (try with_reducible rfl))
      try simp only [Act.put, List.getElem_toArray, List.getElem_cons_succ, List.getElem_cons_zero, List.setIfInBounds_toArray, List.set_cons_zero, List.set_cons_succ]
      refine' wpAnyH_take (i := 8) (oi := _) (v := ?v7) rfl (by as_aux_lemma => kernel_rfl) (by as_aux_lemma => kernel_rfl) (by as_aux_lemma => kernel_rfl) (fun _ _ _ h => h) (Or.inl ⟨by rfl, ?y7⟩) hH0 ?r7
      case y7 => (intro w hSw; (try dsimp only at hSw); go_simp; (try with_reducible rfl))
      try simp only [Act.put, List.getElem_toArray, List.getElem_cons_succ, List.getElem_cons_zero, List.setIfInBounds_toArray, List.set_cons_zero, List.set_cons_succ]
      refine' wpAnyH_take (i := 9) (oi := _) (v := ?v8) rfl (by as_aux_lemma => kernel_rfl) (by as_aux_lemma => kernel_rfl) (by as_aux_lemma => kernel_rfl) (fun _ _ _ h => h) (Or.inl ⟨by rfl, ?y8⟩) hH0 ?r8
      case y8 => (intro w hSw; (try dsimp only at hSw); go_simp; (try with_reducible rfl))
      try simp only [Act.put, List.getElem_toArray, List.getElem_cons_succ, List.getElem_cons_zero, List.setIfInBounds_toArray, List.set_cons_zero, List.set_cons_succ]
      refine' wpAnyH_take (i := 10) (oi := _) (v := ?v9) rfl (by as_aux_lemma => kernel_rfl) (by as_aux_lemma => kernel_rfl) (by as_aux_lemma => kernel_rfl) (fun _ _ _ h => h) (Or.inl ⟨by rfl, ?y9⟩) hH0 ?r9
      case y9 => (intro w hSw; (try dsimp only at hSw); go_simp; (try with_reducible rfl))
      try simp only [Act.put, List.getElem_toArray, List.getElem_cons_succ, List.getElem_cons_zero, List.setIfInBounds_toArray, List.set_cons_zero, List.set_cons_succ]
      refine' wpAnyH_take (i := 11) (oi := _) (v := ?v10) rfl (by as_aux_lemma => kernel_rfl) (by as_aux_lemma => kernel_rfl) (by as_aux_lemma => kernel_rfl) (fun _ _ _ h => h) (Or.inl ⟨by rfl, ?y10⟩) hH0 ?r10
      case y10 => (intro w hSw; (try dsimp only at hSw); go_simp; (try with_reducible rfl))
      try simp only [Act.put, List.getElem_toArray, List.getElem_cons_succ, List.getElem_cons_zero, List.setIfInBounds_toArray, List.set_cons_zero, List.set_cons_succ]
      refine' wpAnyH_take (i := 12) (oi := _) (v := ?v11) rfl (by as_aux_lemma => kernel_rfl) (by as_aux_lemma => kernel_rfl) (by as_aux_lemma => kernel_rfl) (fun _ _ _ h => h) (Or.inl ⟨by rfl, ?y11⟩) hH0 ?r11
      case y11 => (intro w hSw; (try dsimp only at hSw); go_simp; (try with_reducible rfl))
      try simp only [Act.put, List.getElem_toArray, List.getElem_cons_succ, List.getElem_cons_zero, List.setIfInBounds_toArray, List.set_cons_zero, List.set_cons_succ]
      refine' wpAnyH_take (i := 13) (oi := _) (v := ?v12) rfl (by as_aux_lemma => kernel_rfl) (by as_aux_lemma => kernel_rfl) (by as_aux_lemma => kernel_rfl) (fun _ _ _ h => h) (Or.inl ⟨by rfl, ?y12⟩) hH0 ?r12
      case y12 => (intro w hSw; (try dsimp only at hSw); go_simp; (try with_reducible rfl))
      try simp only [Act.put, List.getElem_toArray, List.getElem_cons_succ, List.getElem_cons_zero, List.setIfInBounds_toArray, List.set_cons_zero, List.set_cons_succ]
      refine' wpAnyH_take (i := 14) (oi := _) (v := ?v13) rfl (by as_aux_lemma => kernel_rfl) (by as_aux_lemma => kernel_rfl) (by as_aux_lemma => kernel_rfl) (fun _ _ _ h => h) (Or.inl ⟨by rfl, ?y13⟩) hH0 ?r13
      case y13 => (intro w hSw; (try dsimp only at hSw); go_simp; (try with_reducible rfl))
      try simp only [Act.put, List.getElem_toArray, List.getElem_cons_succ, List.getElem_cons_zero, List.setIfInBounds_toArray, List.set_cons_zero, List.set_cons_succ]
      refine' wpAnyH_take (i := 20) (oi := _) (v := ?v14) rfl (by as_aux_lemma => kernel_rfl) (by as_aux_lemma => kernel_rfl) (by as_aux_lemma => kernel_rfl) (fun _ _ _ h => h) (Or.inl ⟨by rfl, ?y14⟩) hH0 ?r14
      case y14 => (intro w hSw; (try dsimp only at hSw); go_simp; (try with_reducible rfl))
      try simp only [Act.put, List.getElem_toArray, List.getElem_cons_succ, List.getElem_cons_zero, List.setIfInBounds_toArray, List.set_cons_zero, List.set_cons_succ]
      refine' wpAnyH_take (i := 21) (oi := _) (v := _) rfl (by as_aux_lemma => kernel_rfl) (by as_aux_lemma => kernel_rfl) (by as_aux_lemma => kernel_rfl) (fun _ _ _ h => h) (yields_book (by rfl) _ rfl _ _ rfl _ (fun _ hS => range_keep K0.out hS.1) rfl) hH0 ?_
      try simp only [Act.put, List.getElem_toArray, List.getElem_cons_succ, List.getElem_cons_zero, List.setIfInBounds_toArray, List.set_cons_zero, List.set_cons_succ]
      refine' wpAnyH_take (i := 22) (oi := _) (v := ?v16) rfl (by as_aux_lemma => kernel_rfl) (by as_aux_lemma => kernel_rfl) (by as_aux_lemma => kernel_rfl) (fun _ _ _ h => h) (Or.inl ⟨by rfl, ?y16⟩) hH0 ?r16
      case y16 => (intro w hSw; (try dsimp only at hSw); go_simp; (try with_reducible rfl))
      try simp only [Act.put, List.getElem_toArray, List.getElem_cons_succ, List.getElem_cons_zero, List.setIfInBounds_toArray, List.set_cons_zero, List.set_cons_succ]
      refine wpAnyH_ready (rs := [7]) (by as_aux_lemma => kernel_rfl) (by simp) ?_
      refine AllReadyH.cons (o := _) rfl (fun K hK => ?_) AllReadyH.nil
      go_simp
      refine (resame_c e e0 m.e mZ _ _ (HL.out.e.keep hH0.1) (evZ _) C2.out).mono ?_
      rintro _ wz ⟨rfl, hb⟩
      refine hK.out _ _ (sD5 hb hH0) (fun hN => ?_)
      clear hK K hH0
      have hH1 := hN
      clear hN
      try simp only [Act.put, List.getElem_toArray, List.getElem_cons_succ, List.getElem_cons_zero, List.setIfInBounds_toArray, List.set_cons_zero, List.set_cons_succ]
      refine' wpAnyH_take (i := 15) (oi := _) (v := ?v17) rfl (by as_aux_lemma => kernel_rfl) (by as_aux_lemma => kernel_rfl) (by as_aux_lemma => kernel_rfl) (fun _ _ _ h => h) (Or.inl ⟨by rfl, ?y17⟩) hH1 ?r17
      case y17 => (intro w hSw; (try dsimp only at hSw); go_simp; (try with_reducible rfl))
      try simp only [Act.put, List.getElem_toArray, List.getElem_cons_succ, List.getElem_cons_zero, List.setIfInBounds_toArray, List.set_cons_zero, List.set_cons_succ]
      refine' wpAnyH_take (i := 16) (oi := _) (v := undef) rfl (by as_aux_lemma => kernel_rfl) (by as_aux_lemma => kernel_rfl) (by as_aux_lemma => kernel_rfl) (fun _ _ _ h => h) (Or.inr ⟨by rfl, rfl⟩) hH1 ?_
      try simp only [Act.put, List.getElem_toArray, List.getElem_cons_succ, List.getElem_cons_zero, List.setIfInBounds_toArray, List.set_cons_zero, List.set_cons_succ]
      refine' wpAnyH_take (i := 17) (oi := _) (v := undef) rfl (by as_aux_lemma => kernel_rfl) (by as_aux_lemma => kernel_rfl) (by as_aux_lemma => kernel_rfl) (fun _ _ _ h => h) (Or.inr ⟨by rfl, rfl⟩) hH1 ?_
      try simp only [Act.put, List.getElem_toArray, List.getElem_cons_succ, List.getElem_cons_zero, List.setIfInBounds_toArray, List.set_cons_zero, List.set_cons_succ]
      refine' wpAnyH_take (i := 18) (oi := _) (v := undef) rfl (by as_aux_lemma => kernel_rfl) (by as_aux_lemma => kernel_rfl) (by as_aux_lemma => kernel_rfl) (fun _ _ _ h => h) (Or.inr ⟨by rfl, rfl⟩) hH1 ?_
      try simp only [Act.put, List.getElem_toArray, List.getElem_cons_succ, List.getElem_cons_zero, List.setIfInBounds_toArray, List.set_cons_zero, List.set_cons_succ]
      refine' wpAnyH_take (i := 19) (oi := _) (v := ?v21) rfl (by as_aux_lemma => kernel_rfl) (by as_aux_lemma => kernel_rfl) (by as_aux_lemma => kernel_rfl) (fun _ _ _ h => h) (Or.inl ⟨by rfl, ?y21⟩) hH1 ?r21
      case y21 => (intro w hSw; (try dsimp only at hSw); go_simp; (try with_reducible rfl))
      try simp only [Act.put, List.getElem_toArray, List.getElem_cons_succ, List.getElem_cons_zero, List.setIfInBounds_toArray, List.set_cons_zero, List.set_cons_succ]
      refine wpAnyH_ready (rs := [23]) (by as_aux_lemma => kernel_rfl) (by simp) ?_
      refine AllReadyH.cons (o := _) rfl (fun K hK => ?_) AllReadyH.nil
      go_simp
      refine (rsameBk_c ⟨(i2, j2), st, e2⟩ b0 m.b mZ _ _ (HL.out.b.keep hH1.1) (evZ _) C6.out).mono ?_
      rintro _ wz ⟨rfl, hb⟩
      refine hK.out _ _ (sD5 hb hH1) (fun hN => ?_)
      clear hK K hH1
      have hH2 := hN
      clear hN
      try simp only [Act.put, List.getElem_toArray, List.getElem_cons_succ, List.getElem_cons_zero, List.setIfInBounds_toArray, List.set_cons_zero, List.set_cons_succ]
      refine' wpAnyH_take (i := 24) (oi := _) (v := ?v22) rfl (by as_aux_lemma => kernel_rfl) (by as_aux_lemma => kernel_rfl) (by as_aux_lemma => kernel_rfl) (fun _ _ _ h => h) (Or.inl ⟨by rfl, ?y22⟩) hH2 ?r22
      case y22 => (intro w hSw; (try dsimp only at hSw); go_simp; (try with_reducible rfl))
      try simp only [Act.put, List.getElem_toArray, List.getElem_cons_succ, List.getElem_cons_zero, List.setIfInBounds_toArray, List.set_cons_zero, List.set_cons_succ]
      refine' wpAnyH_take (i := 25) (oi := _) (v := ?v23) rfl (by as_aux_lemma => kernel_rfl) (by as_aux_lemma => kernel_rfl) (by as_aux_lemma => kernel_rfl) (fun _ _ _ h => h) (Or.inl ⟨by rfl, ?y23⟩) hH2 ?r23
      case y23 => (intro w hSw; (try dsimp only at hSw); go_simp; (try with_reducible rfl))
      try simp only [Act.put, List.getElem_toArray, List.getElem_cons_succ, List.getElem_cons_zero, List.setIfInBounds_toArray, List.set_cons_zero, List.set_cons_succ]
      refine' wpAnyH_take (i := 26) (oi := _) (v := ?v24) rfl (by as_aux_lemma => kernel_rfl) (by as_aux_lemma => kernel_rfl) (by as_aux_lemma => kernel_rfl) (fun _ _ _ h => h) (Or.inl ⟨by rfl, ?y24⟩) hH2 ?r24
      case y24 => (intro w hSw; (try dsimp only at hSw); go_simp; (try with_reducible rfl))
      try simp only [Act.put, List.getElem_toArray, List.getElem_cons_succ, List.getElem_cons_zero, List.setIfInBounds_toArray, List.set_cons_zero, List.set_cons_succ]
      refine' wpAnyH_take (i := 27) (oi := _) (v := ?v25) rfl (by as_aux_lemma => kernel_rfl) (by as_aux_lemma => kernel_rfl) (by as_aux_lemma => kernel_rfl) (fun _ _ _ h => h) (Or.inl ⟨by rfl, ?y25⟩) hH2 ?r25
      case y25 => (intro w hSw; (try dsimp only at hSw); go_simp; (try with_reducible rfl))
      try simp only [Act.put, List.getElem_toArray, List.getElem_cons_succ, List.getElem_cons_zero, List.setIfInBounds_toArray, List.set_cons_zero, List.set_cons_succ]
      refine' wpAnyH_take (i := 28) (oi := _) (v := ?v26) rfl (by as_aux_lemma => kernel_rfl) (by as_aux_lemma => kernel_rfl) (by as_aux_lemma => kernel_rfl) (fun _ _ _ h => h) (Or.inl ⟨by rfl, ?y26⟩) hH2 ?r26
      case y26 => (intro w hSw; (try dsimp only at hSw); go_simp; (try with_reducible rfl))
      try simp only [Act.put, List.getElem_toArray, List.getElem_cons_succ, List.getElem_cons_zero, List.setIfInBounds_toArray, List.set_cons_zero, List.set_cons_succ]
      refine wpAnyH_done (by as_aux_lemma => kernel_rfl) ?_ _
      have HBE := hide hH2.1
      clear hH2
      go_wp2_with fail
      go_meet
      exact ⟨rfl, rfl, rfl, rfl, rfl, HBE.out⟩
    ·
      refine wp_region_held_drew (S := fun w' => Below W0.heap.size W0 w' ∧ w'.cell? ⟨w.heap.size, 1, none⟩ = some (.int .i64 i) ∧ w'.cell? ⟨w.heap.size, 2, none⟩ = some (.int .i64 j) ∧ w'.cell? ⟨w.heap.size, 16, none⟩ = some (.slice m.A cl.length m.c) ∧ w'.cell? ⟨w.heap.size, 17, none⟩ = some (.int .i64 pe) ∧ w'.cell? ⟨w.heap.size, 18, none⟩ = some (.int .i64 nn)) (by kernel_rfl) ?_ (fun hH0 => ?_)
      · exact sD5 (start W0).drew ⟨start W0, a1, a2, a3, a4, a5⟩
      refine' wpAnyH_take (i := 0) (oi := _) (v := ?v100) rfl (by as_aux_lemma => kernel_rfl) (by as_aux_lemma => kernel_rfl) (by as_aux_lemma => kernel_rfl) (fun _ _ _ h => h) (Or.inl ⟨by rfl, ?y100⟩) hH0 ?r100
      case y100 => (intro w hSw; (try dsimp only at hSw); go_simp; (try with_reducible rfl))
      try simp only [Act.put, List.getElem_toArray, List.getElem_cons_succ, List.getElem_cons_zero, List.setIfInBounds_toArray, List.set_cons_zero, List.set_cons_succ]
      refine' wpAnyH_take (i := 1) (oi := _) (v := ?v101) rfl (by as_aux_lemma => kernel_rfl) (by as_aux_lemma => kernel_rfl) (by as_aux_lemma => kernel_rfl) (fun _ _ _ h => h) (Or.inl ⟨by rfl, ?y101⟩) hH0 ?r101
      case y101 => (intro w hSw; (try dsimp only at hSw); go_simp; (try with_reducible rfl))
      try simp only [Act.put, List.getElem_toArray, List.getElem_cons_succ, List.getElem_cons_zero, List.setIfInBounds_toArray, List.set_cons_zero, List.set_cons_succ]
      refine' wpAnyH_take (i := 2) (oi := _) (v := ?v102) rfl (by as_aux_lemma => kernel_rfl) (by as_aux_lemma => kernel_rfl) (by as_aux_lemma => kernel_rfl) (fun _ _ _ h => h) (Or.inl ⟨by rfl, ?y102⟩) hH0 ?r102
      case y102 => (intro w hSw; (try dsimp only at hSw); go_simp; (try with_reducible rfl))
      try simp only [Act.put, List.getElem_toArray, List.getElem_cons_succ, List.getElem_cons_zero, List.setIfInBounds_toArray, List.set_cons_zero, List.set_cons_succ]
      refine' wpAnyH_take (i := 3) (oi := _) (v := .bool (y0 && y1)) rfl (by as_aux_lemma => kernel_rfl) (by as_aux_lemma => kernel_rfl) (by as_aux_lemma => kernel_rfl) (fun _ _ _ h => h) (Or.inl ⟨by rfl, ?y103⟩) hH0 ?r103
      case y103 => (intro w hSw; (try dsimp only at hSw); go_simp; (cases y0 <;> cases y1 <;> rfl))
      try simp only [Act.put, List.getElem_toArray, List.getElem_cons_succ, List.getElem_cons_zero, List.setIfInBounds_toArray, List.set_cons_zero, List.set_cons_succ]
      refine' wpAnyH_take (i := 4) (oi := _) (v := ?v104) rfl (by as_aux_lemma => kernel_rfl) (by as_aux_lemma => kernel_rfl) (by as_aux_lemma => kernel_rfl) (fun _ _ _ h => h) (Or.inl ⟨by rfl, ?y104⟩) hH0 ?r104
      case y104 => (intro w hSw; (try dsimp only at hSw); go_simp; (try with_reducible rfl))
      try simp only [Act.put, List.getElem_toArray, List.getElem_cons_succ, List.getElem_cons_zero, List.setIfInBounds_toArray, List.set_cons_zero, List.set_cons_succ]
      refine' wpAnyH_take (i := 5) (oi := _) (v := _) rfl (by as_aux_lemma => kernel_rfl) (by as_aux_lemma => kernel_rfl) (by as_aux_lemma => kernel_rfl) (fun _ _ _ h => h) (yields_event (by rfl) _ rfl _ _ rfl _ (fun _ hS => range_keep E0.out hS.1) rfl) hH0 ?_
      try simp only [Act.put, List.getElem_toArray, List.getElem_cons_succ, List.getElem_cons_zero, List.setIfInBounds_toArray, List.set_cons_zero, List.set_cons_succ]
      refine' wpAnyH_take (i := 6) (oi := _) (v := ?v106) rfl (by as_aux_lemma => kernel_rfl) (by as_aux_lemma => kernel_rfl) (by as_aux_lemma => kernel_rfl) (fun _ _ _ h => h) (Or.inl ⟨by rfl, ?y106⟩) hH0 ?r106
      case y106 => (intro w hSw; (try dsimp only at hSw); go_simp; (try with_reducible rfl))
      try simp only [Act.put, List.getElem_toArray, List.getElem_cons_succ, List.getElem_cons_zero, List.setIfInBounds_toArray, List.set_cons_zero, List.set_cons_succ]
      refine' wpAnyH_take (i := 8) (oi := _) (v := ?v107) rfl (by as_aux_lemma => kernel_rfl) (by as_aux_lemma => kernel_rfl) (by as_aux_lemma => kernel_rfl) (fun _ _ _ h => h) (Or.inl ⟨by rfl, ?y107⟩) hH0 ?r107
      case y107 => (intro w hSw; (try dsimp only at hSw); go_simp; (try with_reducible rfl))
      try simp only [Act.put, List.getElem_toArray, List.getElem_cons_succ, List.getElem_cons_zero, List.setIfInBounds_toArray, List.set_cons_zero, List.set_cons_succ]
      refine' wpAnyH_take (i := 9) (oi := _) (v := ?v108) rfl (by as_aux_lemma => kernel_rfl) (by as_aux_lemma => kernel_rfl) (by as_aux_lemma => kernel_rfl) (fun _ _ _ h => h) (Or.inl ⟨by rfl, ?y108⟩) hH0 ?r108
      case y108 => (intro w hSw; (try dsimp only at hSw); go_simp; (try with_reducible rfl))
      try simp only [Act.put, List.getElem_toArray, List.getElem_cons_succ, List.getElem_cons_zero, List.setIfInBounds_toArray, List.set_cons_zero, List.set_cons_succ]
      refine' wpAnyH_take (i := 10) (oi := _) (v := ?v109) rfl (by as_aux_lemma => kernel_rfl) (by as_aux_lemma => kernel_rfl) (by as_aux_lemma => kernel_rfl) (fun _ _ _ h => h) (Or.inl ⟨by rfl, ?y109⟩) hH0 ?r109
      case y109 => (intro w hSw; (try dsimp only at hSw); go_simp; (try with_reducible rfl))
      try simp only [Act.put, List.getElem_toArray, List.getElem_cons_succ, List.getElem_cons_zero, List.setIfInBounds_toArray, List.set_cons_zero, List.set_cons_succ]
      refine' wpAnyH_take (i := 11) (oi := _) (v := ?v110) rfl (by as_aux_lemma => kernel_rfl) (by as_aux_lemma => kernel_rfl) (by as_aux_lemma => kernel_rfl) (fun _ _ _ h => h) (Or.inl ⟨by rfl, ?y110⟩) hH0 ?r110
      case y110 => (intro w hSw; (try dsimp only at hSw); go_simp; (try with_reducible rfl))
      try simp only [Act.put, List.getElem_toArray, List.getElem_cons_succ, List.getElem_cons_zero, List.setIfInBounds_toArray, List.set_cons_zero, List.set_cons_succ]
      refine' wpAnyH_take (i := 12) (oi := _) (v := ?v111) rfl (by as_aux_lemma => kernel_rfl) (by as_aux_lemma => kernel_rfl) (by as_aux_lemma => kernel_rfl) (fun _ _ _ h => h) (Or.inl ⟨by rfl, ?y111⟩) hH0 ?r111
      case y111 => (intro w hSw; (try dsimp only at hSw); go_simp; (try with_reducible rfl))
      try simp only [Act.put, List.getElem_toArray, List.getElem_cons_succ, List.getElem_cons_zero, List.setIfInBounds_toArray, List.set_cons_zero, List.set_cons_succ]
      refine' wpAnyH_take (i := 13) (oi := _) (v := ?v112) rfl (by as_aux_lemma => kernel_rfl) (by as_aux_lemma => kernel_rfl) (by as_aux_lemma => kernel_rfl) (fun _ _ _ h => h) (Or.inl ⟨by rfl, ?y112⟩) hH0 ?r112
      case y112 => (intro w hSw; (try dsimp only at hSw); go_simp; (try with_reducible rfl))
      try simp only [Act.put, List.getElem_toArray, List.getElem_cons_succ, List.getElem_cons_zero, List.setIfInBounds_toArray, List.set_cons_zero, List.set_cons_succ]
      refine' wpAnyH_take (i := 14) (oi := _) (v := ?v113) rfl (by as_aux_lemma => kernel_rfl) (by as_aux_lemma => kernel_rfl) (by as_aux_lemma => kernel_rfl) (fun _ _ _ h => h) (Or.inl ⟨by rfl, ?y113⟩) hH0 ?r113
      case y113 => (intro w hSw; (try dsimp only at hSw); go_simp; (try with_reducible rfl))
      try simp only [Act.put, List.getElem_toArray, List.getElem_cons_succ, List.getElem_cons_zero, List.setIfInBounds_toArray, List.set_cons_zero, List.set_cons_succ]
      refine' wpAnyH_take (i := 20) (oi := _) (v := ?v114) rfl (by as_aux_lemma => kernel_rfl) (by as_aux_lemma => kernel_rfl) (by as_aux_lemma => kernel_rfl) (fun _ _ _ h => h) (Or.inl ⟨by rfl, ?y114⟩) hH0 ?r114
      case y114 => (intro w hSw; (try dsimp only at hSw); go_simp; (try with_reducible rfl))
      try simp only [Act.put, List.getElem_toArray, List.getElem_cons_succ, List.getElem_cons_zero, List.setIfInBounds_toArray, List.set_cons_zero, List.set_cons_succ]
      refine' wpAnyH_take (i := 21) (oi := _) (v := _) rfl (by as_aux_lemma => kernel_rfl) (by as_aux_lemma => kernel_rfl) (by as_aux_lemma => kernel_rfl) (fun _ _ _ h => h) (yields_book (by rfl) _ rfl _ _ rfl _ (fun _ hS => range_keep K0.out hS.1) rfl) hH0 ?_
      try simp only [Act.put, List.getElem_toArray, List.getElem_cons_succ, List.getElem_cons_zero, List.setIfInBounds_toArray, List.set_cons_zero, List.set_cons_succ]
      refine' wpAnyH_take (i := 22) (oi := _) (v := ?v116) rfl (by as_aux_lemma => kernel_rfl) (by as_aux_lemma => kernel_rfl) (by as_aux_lemma => kernel_rfl) (fun _ _ _ h => h) (Or.inl ⟨by rfl, ?y116⟩) hH0 ?r116
      case y116 => (intro w hSw; (try dsimp only at hSw); go_simp; (try with_reducible rfl))
      try simp only [Act.put, List.getElem_toArray, List.getElem_cons_succ, List.getElem_cons_zero, List.setIfInBounds_toArray, List.set_cons_zero, List.set_cons_succ]
      refine wpAnyH_ready (rs := [7]) (by as_aux_lemma => kernel_rfl) (by simp) ?_
      refine AllReadyH.cons (o := _) rfl (fun K hK => ?_) AllReadyH.nil
      go_simp
      refine (resame_c e e0 m.e mZ _ _ (HL.out.e.keep hH0.1) (evZ _) C2.out).mono ?_
      rintro _ wz ⟨rfl, hb⟩
      refine hK.out _ _ (sD5 hb hH0) (fun hN => ?_)
      clear hK K hH0
      have hH1 := hN
      clear hN
      try simp only [Act.put, List.getElem_toArray, List.getElem_cons_succ, List.getElem_cons_zero, List.setIfInBounds_toArray, List.set_cons_zero, List.set_cons_succ]
      refine' wpAnyH_take (i := 15) (oi := _) (v := ?v117) rfl (by as_aux_lemma => kernel_rfl) (by as_aux_lemma => kernel_rfl) (by as_aux_lemma => kernel_rfl) (fun _ _ _ h => h) (Or.inl ⟨by rfl, ?y117⟩) hH1 ?r117
      case y117 => (intro w hSw; (try dsimp only at hSw); go_simp; (try with_reducible rfl))
      try simp only [Act.put, List.getElem_toArray, List.getElem_cons_succ, List.getElem_cons_zero, List.setIfInBounds_toArray, List.set_cons_zero, List.set_cons_succ]
      refine' wpAnyH_take (i := 16) (oi := _) (v := ?v118) rfl (by as_aux_lemma => kernel_rfl) (by as_aux_lemma => kernel_rfl) (by as_aux_lemma => kernel_rfl) (fun _ _ _ h => h) (Or.inl ⟨by rfl, ?y118⟩) hH1 ?r118
      case y118 => (intro w hSw; (try dsimp only at hSw); go_simp; (try with_reducible rfl))
      try simp only [Act.put, List.getElem_toArray, List.getElem_cons_succ, List.getElem_cons_zero, List.setIfInBounds_toArray, List.set_cons_zero, List.set_cons_succ]
      refine' wpAnyH_take (i := 17) (oi := _) (v := ?v119) rfl (by as_aux_lemma => kernel_rfl) (by as_aux_lemma => kernel_rfl) (by as_aux_lemma => kernel_rfl) (fun _ _ _ h => h) (Or.inl ⟨by rfl, ?y119⟩) hH1 ?r119
      case y119 => (intro w hSw; (try dsimp only at hSw); go_simp; (try with_reducible rfl))
      try simp only [Act.put, List.getElem_toArray, List.getElem_cons_succ, List.getElem_cons_zero, List.setIfInBounds_toArray, List.set_cons_zero, List.set_cons_succ]
      refine' wpAnyH_take (i := 18) (oi := _) (v := ?v120) rfl (by as_aux_lemma => kernel_rfl) (by as_aux_lemma => kernel_rfl) (by as_aux_lemma => kernel_rfl) (fun _ _ _ h => h) (Or.inl ⟨by rfl, ?y120⟩) hH1 ?r120
      case y120 => (intro w hSw; (try dsimp only at hSw); go_simp; (try with_reducible rfl))
      try simp only [Act.put, List.getElem_toArray, List.getElem_cons_succ, List.getElem_cons_zero, List.setIfInBounds_toArray, List.set_cons_zero, List.set_cons_succ]
      refine' wpAnyH_take (i := 19) (oi := _) (v := ?v121) rfl (by as_aux_lemma => kernel_rfl) (by as_aux_lemma => kernel_rfl) (by as_aux_lemma => kernel_rfl) (fun _ _ _ h => h) (Or.inl ⟨by rfl, ?y121⟩) hH1 ?r121
      case y121 => (intro w hSw; (try dsimp only at hSw); go_simp; (try with_reducible rfl))
      try simp only [Act.put, List.getElem_toArray, List.getElem_cons_succ, List.getElem_cons_zero, List.setIfInBounds_toArray, List.set_cons_zero, List.set_cons_succ]
      refine wpAnyH_ready (rs := [23]) (by as_aux_lemma => kernel_rfl) (by simp) ?_
      refine AllReadyH.cons (o := _) rfl (fun K hK => ?_) AllReadyH.nil
      go_simp
      refine (rsameBk_c ⟨(i2, j2), st, e2⟩ b0 m.b mZ _ _ (HL.out.b.keep hH1.1) (evZ _) C6.out).mono ?_
      rintro _ wz ⟨rfl, hb⟩
      refine hK.out _ _ (sD5 hb hH1) (fun hN => ?_)
      clear hK K hH1
      have hH2 := hN
      clear hN
      try simp only [Act.put, List.getElem_toArray, List.getElem_cons_succ, List.getElem_cons_zero, List.setIfInBounds_toArray, List.set_cons_zero, List.set_cons_succ]
      refine' wpAnyH_take (i := 24) (oi := _) (v := ?v122) rfl (by as_aux_lemma => kernel_rfl) (by as_aux_lemma => kernel_rfl) (by as_aux_lemma => kernel_rfl) (fun _ _ _ h => h) (Or.inl ⟨by rfl, ?y122⟩) hH2 ?r122
      case y122 => (intro w hSw; (try dsimp only at hSw); go_simp; (try with_reducible rfl))
      try simp only [Act.put, List.getElem_toArray, List.getElem_cons_succ, List.getElem_cons_zero, List.setIfInBounds_toArray, List.set_cons_zero, List.set_cons_succ]
      refine' wpAnyH_take (i := 25) (oi := _) (v := ?v123) rfl (by as_aux_lemma => kernel_rfl) (by as_aux_lemma => kernel_rfl) (by as_aux_lemma => kernel_rfl) (fun _ _ _ h => h) (Or.inl ⟨by rfl, ?y123⟩) hH2 ?r123
      case y123 => (intro w hSw; (try dsimp only at hSw); go_simp; (try with_reducible rfl))
      try simp only [Act.put, List.getElem_toArray, List.getElem_cons_succ, List.getElem_cons_zero, List.setIfInBounds_toArray, List.set_cons_zero, List.set_cons_succ]
      refine' wpAnyH_take (i := 26) (oi := _) (v := ?v124) rfl (by as_aux_lemma => kernel_rfl) (by as_aux_lemma => kernel_rfl) (by as_aux_lemma => kernel_rfl) (fun _ _ _ h => h) (Or.inl ⟨by rfl, ?y124⟩) hH2 ?r124
      case y124 => (intro w hSw; (try dsimp only at hSw); go_simp; (try with_reducible rfl))
      try simp only [Act.put, List.getElem_toArray, List.getElem_cons_succ, List.getElem_cons_zero, List.setIfInBounds_toArray, List.set_cons_zero, List.set_cons_succ]
      refine' wpAnyH_take (i := 27) (oi := _) (v := ?v125) rfl (by as_aux_lemma => kernel_rfl) (by as_aux_lemma => kernel_rfl) (by as_aux_lemma => kernel_rfl) (fun _ _ _ h => h) (Or.inl ⟨by rfl, ?y125⟩) hH2 ?r125
      case y125 => (intro w hSw; (try dsimp only at hSw); go_simp; (try with_reducible rfl))
      try simp only [Act.put, List.getElem_toArray, List.getElem_cons_succ, List.getElem_cons_zero, List.setIfInBounds_toArray, List.set_cons_zero, List.set_cons_succ]
      refine' wpAnyH_take (i := 28) (oi := _) (v := ?v126) rfl (by as_aux_lemma => kernel_rfl) (by as_aux_lemma => kernel_rfl) (by as_aux_lemma => kernel_rfl) (fun _ _ _ h => h) (Or.inl ⟨by rfl, ?y126⟩) hH2 ?r126
      case y126 => (intro w hSw; (try dsimp only at hSw); go_simp; (try with_reducible rfl))
      try simp only [Act.put, List.getElem_toArray, List.getElem_cons_succ, List.getElem_cons_zero, List.setIfInBounds_toArray, List.set_cons_zero, List.set_cons_succ]
      refine wpAnyH_done (by as_aux_lemma => kernel_rfl) ?_ _
      have HBE := hide hH2.1
      clear hH2
      go_wp2_with fail
      go_meet
      exact ⟨rfl, rfl, rfl, rfl, rfl, HBE.out⟩
  obtain ⟨rfl, rfl, rfl, rfl, rfl, hb⟩ := hcut
  replace HB := hide (andthen HB.out hb)
  replace HL := hide (HL.out.keep hb)
  replace E0 := hide (range_keep E0.out hb)
  replace K0 := hide (range_keep K0.out hb)
  replace a0 := cell_keepA hb a0
  replace a1 := cell_keepA hb a1
  replace a2 := cell_keepA hb a2
  replace a3 := cell_keepA hb a3
  replace a4 := cell_keepA hb a4
  replace a5 := cell_keepA hb a5
  replace a6 := cell_keepA hb a6
  clear hb C2 C6 h0 h1 h3 h4 h5
  generalize (y0 && y1) = nI at *
  generalize (y4 && y5) = nP at *
  by_cases hk : kd = 1 ∨ kd = 2
  · rcases hk with rfl | rfl
    all_goals
      go_wp2_with (first | refine load_event rfl _ rfl _ _ rfl _ E0.out rfl ?_ | refine load_book rfl _ rfl _ _ rfl _ K0.out rfl ?_)
      refine (rid_at (i, j) _ _ Q0.out).mono ?_
      rintro q wq ⟨rfl, hb⟩
      replace HB := hide (andthen HB.out hb)
      replace HL := hide (HL.out.keep hb)
      replace E0 := hide (range_keep E0.out hb)
      replace K0 := hide (range_keep K0.out hb)
      replace a0 := cell_keepA hb a0
      replace a1 := cell_keepA hb a1
      replace a2 := cell_keepA hb a2
      replace a3 := cell_keepA hb a3
      replace a4 := cell_keepA hb a4
      replace a5 := cell_keepA hb a5
      replace a6 := cell_keepA hb a6
      clear hb
      cases z0
      · go_wp2_with fail
        go_ret
        exact ⟨rfl, HB.out⟩
      go_wp2_with (first | refine load_event rfl _ rfl _ _ rfl _ E0.out rfl ?_ | refine load_book rfl _ rfl _ _ rfl _ K0.out rfl ?_)
      refine (reis_c _ _ _ _ HL.out.e Q1.out).mono ?_
      rintro q wq ⟨rfl, hb⟩
      replace HB := hide (andthen HB.out hb)
      replace HL := hide (HL.out.keep hb)
      replace E0 := hide (range_keep E0.out hb)
      replace K0 := hide (range_keep K0.out hb)
      replace a0 := cell_keepA hb a0
      replace a1 := cell_keepA hb a1
      replace a2 := cell_keepA hb a2
      replace a3 := cell_keepA hb a3
      replace a4 := cell_keepA hb a4
      replace a5 := cell_keepA hb a5
      replace a6 := cell_keepA hb a6
      clear hb
      cases z1
      · go_wp2_with fail
        go_ret
        exact ⟨rfl, HB.out⟩
      cases y3
      · go_wp2_with fail
        go_ret
        exact ⟨rfl, HB.out⟩
      cases nP
      · go_wp2_with fail
        go_ret
        exact ⟨rfl, HB.out⟩
      go_wp2_with (first | refine load_event rfl _ rfl _ _ rfl _ E0.out rfl ?_ | refine load_book rfl _ rfl _ _ rfl _ K0.out rfl ?_)
      go_ret
      exact ⟨rfl, HB.out⟩
  by_cases hk : kd = 3 ∨ kd = 4
  · rcases hk with rfl | rfl
    all_goals
      go_wp2_with (first | refine load_event rfl _ rfl _ _ rfl _ E0.out rfl ?_ | refine load_book rfl _ rfl _ _ rfl _ K0.out rfl ?_)
      refine (rid_at (i, j) _ _ Q0.out).mono ?_
      rintro q wq ⟨rfl, hb⟩
      replace HB := hide (andthen HB.out hb)
      replace HL := hide (HL.out.keep hb)
      replace E0 := hide (range_keep E0.out hb)
      replace K0 := hide (range_keep K0.out hb)
      replace a0 := cell_keepA hb a0
      replace a1 := cell_keepA hb a1
      replace a2 := cell_keepA hb a2
      replace a3 := cell_keepA hb a3
      replace a4 := cell_keepA hb a4
      replace a5 := cell_keepA hb a5
      replace a6 := cell_keepA hb a6
      clear hb
      cases z0
      · go_wp2_with fail
        go_ret
        exact ⟨rfl, HB.out⟩
      cases y2
      · go_wp2_with fail
        go_ret
        exact ⟨rfl, HB.out⟩
      cases y3
      · go_wp2_with fail
        go_ret
        exact ⟨rfl, HB.out⟩
      cases nP
      · go_wp2_with fail
        go_ret
        exact ⟨rfl, HB.out⟩
      go_wp2_with (first | refine load_event rfl _ rfl _ _ rfl _ E0.out rfl ?_ | refine load_book rfl _ rfl _ _ rfl _ K0.out rfl ?_)
      go_ret
      exact ⟨rfl, HB.out⟩
  by_cases hk : kd = 5 ∨ kd = 6
  · rcases hk with rfl | rfl
    all_goals
      cases nI
      · go_wp2_with fail
        go_ret
        exact ⟨rfl, HB.out⟩
      cases y2
      · go_wp2_with fail
        go_ret
        exact ⟨rfl, HB.out⟩
      go_wp2_with (first | refine load_event rfl _ rfl _ _ rfl _ E0.out rfl ?_ | refine load_book rfl _ rfl _ _ rfl _ K0.out rfl ?_)
      refine (rneat_any _ _ _ _ _ HL.out.c (by have := HL.out.cl; omega) Q2.out).mono ?_
      rintro q wq ⟨rfl, hb⟩
      replace HB := hide (andthen HB.out hb)
      replace HL := hide (HL.out.keep hb)
      replace E0 := hide (range_keep E0.out hb)
      replace K0 := hide (range_keep K0.out hb)
      replace a0 := cell_keepA hb a0
      replace a1 := cell_keepA hb a1
      replace a2 := cell_keepA hb a2
      replace a3 := cell_keepA hb a3
      replace a4 := cell_keepA hb a4
      replace a5 := cell_keepA hb a5
      replace a6 := cell_keepA hb a6
      clear hb
      cases z2
      · go_wp2_with fail
        go_ret
        exact ⟨rfl, HB.out⟩
      go_wp2_with (first | refine load_event rfl _ rfl _ _ rfl _ E0.out rfl ?_ | refine load_book rfl _ rfl _ _ rfl _ K0.out rfl ?_)
      refine (rpeer_at _ _ _ Q3.out).mono ?_
      rintro q wq ⟨rfl, hb⟩
      replace HB := hide (andthen HB.out hb)
      replace HL := hide (HL.out.keep hb)
      replace E0 := hide (range_keep E0.out hb)
      replace K0 := hide (range_keep K0.out hb)
      replace a0 := cell_keepA hb a0
      replace a1 := cell_keepA hb a1
      replace a2 := cell_keepA hb a2
      replace a3 := cell_keepA hb a3
      replace a4 := cell_keepA hb a4
      replace a5 := cell_keepA hb a5
      replace a6 := cell_keepA hb a6
      clear hb
      cases z3
      · go_wp2_with fail
        go_ret
        exact ⟨rfl, HB.out⟩
      go_wp2_with (first | refine load_event rfl _ rfl _ _ rfl _ E0.out rfl ?_ | refine load_book rfl _ rfl _ _ rfl _ K0.out rfl ?_)
      refine (rseq_at _ _ _ Q4.out).mono ?_
      rintro q wq ⟨rfl, hb⟩
      replace HB := hide (andthen HB.out hb)
      replace HL := hide (HL.out.keep hb)
      replace E0 := hide (range_keep E0.out hb)
      replace K0 := hide (range_keep K0.out hb)
      replace a0 := cell_keepA hb a0
      replace a1 := cell_keepA hb a1
      replace a2 := cell_keepA hb a2
      replace a3 := cell_keepA hb a3
      replace a4 := cell_keepA hb a4
      replace a5 := cell_keepA hb a5
      replace a6 := cell_keepA hb a6
      clear hb
      cases z4
      · go_wp2_with fail
        go_ret
        exact ⟨rfl, HB.out⟩
      go_wp2_with (first | refine load_event rfl _ rfl _ _ rfl _ E0.out rfl ?_ | refine load_book rfl _ rfl _ _ rfl _ K0.out rfl ?_)
      go_ret
      exact ⟨rfl, HB.out⟩
  by_cases hk : kd = 7
  · subst hk
    cases nI
    · go_wp2_with fail
      go_ret
      exact ⟨rfl, HB.out⟩
    cases y2
    · go_wp2_with fail
      go_ret
      exact ⟨rfl, HB.out⟩
    cases y3
    · go_wp2_with fail
      go_ret
      exact ⟨rfl, HB.out⟩
    go_wp2_with (first | refine load_event rfl _ rfl _ _ rfl _ E0.out rfl ?_ | refine load_book rfl _ rfl _ _ rfl _ K0.out rfl ?_)
    refine (rpeer_at _ _ _ Q3.out).mono ?_
    rintro q wq ⟨rfl, hb⟩
    replace HB := hide (andthen HB.out hb)
    replace HL := hide (HL.out.keep hb)
    replace E0 := hide (range_keep E0.out hb)
    replace K0 := hide (range_keep K0.out hb)
    replace a0 := cell_keepA hb a0
    replace a1 := cell_keepA hb a1
    replace a2 := cell_keepA hb a2
    replace a3 := cell_keepA hb a3
    replace a4 := cell_keepA hb a4
    replace a5 := cell_keepA hb a5
    replace a6 := cell_keepA hb a6
    clear hb
    cases z3
    · go_wp2_with fail
      go_ret
      exact ⟨rfl, HB.out⟩
    go_wp2_with (first | refine load_event rfl _ rfl _ _ rfl _ E0.out rfl ?_ | refine load_book rfl _ rfl _ _ rfl _ K0.out rfl ?_)
    refine (rseq_at _ _ _ Q4.out).mono ?_
    rintro q wq ⟨rfl, hb⟩
    replace HB := hide (andthen HB.out hb)
    replace HL := hide (HL.out.keep hb)
    replace E0 := hide (range_keep E0.out hb)
    replace K0 := hide (range_keep K0.out hb)
    replace a0 := cell_keepA hb a0
    replace a1 := cell_keepA hb a1
    replace a2 := cell_keepA hb a2
    replace a3 := cell_keepA hb a3
    replace a4 := cell_keepA hb a4
    replace a5 := cell_keepA hb a5
    replace a6 := cell_keepA hb a6
    clear hb
    cases z4
    · go_wp2_with fail
      go_ret
      exact ⟨rfl, HB.out⟩
    go_wp2_with (first | refine load_event rfl _ rfl _ _ rfl _ E0.out rfl ?_ | refine load_book rfl _ rfl _ _ rfl _ K0.out rfl ?_)
    go_ret
    exact ⟨rfl, HB.out⟩
  by_cases hk : kd = 8
  · subst hk
    cases nI
    · go_wp2_with fail
      go_ret
      exact ⟨rfl, HB.out⟩
    cases y2
    · go_wp2_with fail
      go_ret
      exact ⟨rfl, HB.out⟩
    cases y3
    · go_wp2_with fail
      go_ret
      exact ⟨rfl, HB.out⟩
    go_wp2_with (first | refine load_event rfl _ rfl _ _ rfl _ E0.out rfl ?_ | refine load_book rfl _ rfl _ _ rfl _ K0.out rfl ?_)
    refine (rpeer_at _ _ _ Q3.out).mono ?_
    rintro q wq ⟨rfl, hb⟩
    replace HB := hide (andthen HB.out hb)
    replace HL := hide (HL.out.keep hb)
    replace E0 := hide (range_keep E0.out hb)
    replace K0 := hide (range_keep K0.out hb)
    replace a0 := cell_keepA hb a0
    replace a1 := cell_keepA hb a1
    replace a2 := cell_keepA hb a2
    replace a3 := cell_keepA hb a3
    replace a4 := cell_keepA hb a4
    replace a5 := cell_keepA hb a5
    replace a6 := cell_keepA hb a6
    clear hb
    cases z3
    · go_wp2_with fail
      go_ret
      exact ⟨rfl, HB.out⟩
    go_wp2_with (first | refine load_event rfl _ rfl _ _ rfl _ E0.out rfl ?_ | refine load_book rfl _ rfl _ _ rfl _ K0.out rfl ?_)
    refine (rseq_at _ _ _ Q4.out).mono ?_
    rintro q wq ⟨rfl, hb⟩
    replace HB := hide (andthen HB.out hb)
    replace HL := hide (HL.out.keep hb)
    replace E0 := hide (range_keep E0.out hb)
    replace K0 := hide (range_keep K0.out hb)
    replace a0 := cell_keepA hb a0
    replace a1 := cell_keepA hb a1
    replace a2 := cell_keepA hb a2
    replace a3 := cell_keepA hb a3
    replace a4 := cell_keepA hb a4
    replace a5 := cell_keepA hb a5
    replace a6 := cell_keepA hb a6
    clear hb
    cases z4
    · go_wp2_with fail
      go_ret
      exact ⟨rfl, HB.out⟩
    go_wp2_with (first | refine load_event rfl _ rfl _ _ rfl _ E0.out rfl ?_ | refine load_book rfl _ rfl _ _ rfl _ K0.out rfl ?_)
    refine (risBk_c _ _ _ _ HL.out.b Q5.out).mono ?_
    rintro q wq ⟨rfl, hb⟩
    replace HB := hide (andthen HB.out hb)
    replace HL := hide (HL.out.keep hb)
    replace E0 := hide (range_keep E0.out hb)
    replace K0 := hide (range_keep K0.out hb)
    replace a0 := cell_keepA hb a0
    replace a1 := cell_keepA hb a1
    replace a2 := cell_keepA hb a2
    replace a3 := cell_keepA hb a3
    replace a4 := cell_keepA hb a4
    replace a5 := cell_keepA hb a5
    replace a6 := cell_keepA hb a6
    clear hb
    cases z5
    · go_wp2_with fail
      go_ret
      exact ⟨rfl, HB.out⟩
    go_wp2_with (first | refine load_event rfl _ rfl _ _ rfl _ E0.out rfl ?_ | refine load_book rfl _ rfl _ _ rfl _ K0.out rfl ?_)
    go_ret
    exact ⟨rfl, HB.out⟩
  have n1 : (kd == 1) = false := by rw [beq_eq_false_iff_ne]; omega
  have n2 : (kd == 2) = false := by rw [beq_eq_false_iff_ne]; omega
  have n3 : (kd == 3) = false := by rw [beq_eq_false_iff_ne]; omega
  have n4 : (kd == 4) = false := by rw [beq_eq_false_iff_ne]; omega
  have n5 : (kd == 5) = false := by rw [beq_eq_false_iff_ne]; omega
  have n6 : (kd == 6) = false := by rw [beq_eq_false_iff_ne]; omega
  have n7 : (kd == 7) = false := by rw [beq_eq_false_iff_ne]; omega
  have n8 : (kd == 8) = false := by rw [beq_eq_false_iff_ne]; omega
  go_wp2_with fail
  go_ret
  exact ⟨rfl, HB.out⟩
end Go.Proofs.YtlmdceeeahnkcaaGreatDoor

/- DeedOrder. Written by recipes/de8.py. -/
import Derived.Test.YtocnobgdlgndjaaGreatDeK
import Derived.Test.YtocnobgdlgndjaaGreatDeMathB
namespace Go.Proofs.YtocnobgdlgndjaaGreat
open Go.RowKit Rul De Cl Go.Sort

theorem sD6 {W w w' : World} {a1 a2 a3 a4 a5 a6 : Addr} {v1 v2 v3 v4 v5 v6 : Value} (hb : Below w.heap.size w w') (h : Below W.heap.size W w ∧ w.cell? a1 = some v1 ∧ w.cell? a2 = some v2 ∧ w.cell? a3 = some v3 ∧ w.cell? a4 = some v4 ∧ w.cell? a5 = some v5 ∧ w.cell? a6 = some v6) :
    Below W.heap.size W w' ∧ w'.cell? a1 = some v1 ∧ w'.cell? a2 = some v2 ∧ w'.cell? a3 = some v3 ∧ w'.cell? a4 = some v4 ∧ w'.cell? a5 = some v5 ∧ w'.cell? a6 = some v6 :=
  ⟨andthen h.1 hb, cell_keepA hb h.2.1, cell_keepA hb h.2.2.1, cell_keepA hb h.2.2.2.1, cell_keepA hb h.2.2.2.2.1, cell_keepA hb h.2.2.2.2.2.1, cell_keepA hb h.2.2.2.2.2.2⟩
theorem range_alloc' {w : World} {b f : Nat} {cs : List Value} (h : w.rangeAt b f cs) (o : Obj) : (w.alloc o).rangeAt b f cs := range_keep h (more (start _) _)
theorem range_newN' (w : World) (cs : List Value) (t : TypeId) (N : Nat) (hN : w.heap.size = N) : (w.alloc (.cells cs.toArray t)).rangeAt N 0 cs := hN ▸ range_new w cs t
set_option linter.unusedSimpArgs false in
set_option maxRecDepth 100000 in
set_option maxHeartbeats 32000000 in
theorem or14_any (a b c : Nm) (w : World) :
    Calls Tryz.prog 5 #[.agg #[.int .i64 a.1, .int .i64 a.2], .agg #[.int .i64 b.1, .int .i64 b.2], .agg #[.int .i64 c.1, .int .i64 c.2]] w fun e w' => e = .returned (.bool true) ∧ Below w.heap.size w w' := by
  have HB := hide (more (more (more (start w) (.cells #[.int .i64 a.1, .int .i64 a.2] 23)) (.cells #[.int .i64 b.1, .int .i64 b.2] 23)) (.cells #[.int .i64 c.1, .int .i64 c.2] 23))
  have R0 := range_alloc' (range_alloc' (range_newN' w [.int .i64 a.1, .int .i64 a.2] 23 (w.heap.size) (by simp)) (.cells #[.int .i64 b.1, .int .i64 b.2] 23)) (.cells #[.int .i64 c.1, .int .i64 c.2] 23)
  have R1 := range_alloc' (range_newN' (w.alloc (.cells #[.int .i64 a.1, .int .i64 a.2] 23)) [.int .i64 b.1, .int .i64 b.2] 23 (w.heap.size + 1) (by simp)) (.cells #[.int .i64 c.1, .int .i64 c.2] 23)
  have R2 := range_newN' ((w.alloc (.cells #[.int .i64 a.1, .int .i64 a.2] 23)).alloc (.cells #[.int .i64 b.1, .int .i64 b.2] 23)) [.int .i64 c.1, .int .i64 c.2] 23 (w.heap.size + 1 + 1) (by simp)
  have a0 := range_cell R0 0 0 _ rfl rfl
  have a1 := range_cell R0 1 1 _ rfl rfl
  have a2 := range_cell R1 0 0 _ rfl rfl
  have a3 := range_cell R1 1 1 _ rfl rfl
  have a4 := range_cell R2 0 0 _ rfl rfl
  have a5 := range_cell R2 1 1 _ rfl rfl
  clear R0 R1 R2
  obtain ⟨x, ex⟩ : ∃ z, befB a b = z := ⟨_, rfl⟩
  obtain ⟨y, ey⟩ : ∃ z, befB b a = z := ⟨_, rfl⟩
  obtain ⟨z, ez⟩ : ∃ z, befB b c = z := ⟨_, rfl⟩
  obtain ⟨v, ev⟩ : ∃ z, befB a c = z := ⟨_, rfl⟩
  obtain ⟨p1, h1⟩ : ∃ z, (a.1 == b.1) = z := ⟨_, rfl⟩
  obtain ⟨p2, h2⟩ : ∃ z, (a.2 == b.2) = z := ⟨_, rfl⟩
  obtain ⟨g, hg⟩ : ∃ z, decide (b.1 ≤ a.1) = z := ⟨_, rfl⟩
  have FN := hide (show (x && y) = false by rw [← ex, ← ey]; exact bef_not a b)
  have FS := hide (show (x || y) = !(p1 && p2) by rw [← ex, ← ey, ← h1, ← h2]; exact bef_some a.1 a.2 b.1 b.2)
  have FT := hide (fun (u : x = true) (k : z = true) => show true = v by rw [← ev]; exact (bef_trans (ex.trans u) (ez.trans k)).symm)
  have FG := hide (show (g || x) = true by rw [← ex, ← hg]; exact bef_seq a b)
  have GX := hide ex
  have GY := hide ey
  have GZ := hide ez
  have GV := hide ev
  clear ex ey ez ev
  go_enter Tryz.func5, Tryz.ntmps5
  go_wp2_with fail
  generalize (((w.alloc (.cells #[.int .i64 a.1, .int .i64 a.2] 23)).alloc (.cells #[.int .i64 b.1, .int .i64 b.2] 23)).alloc (.cells #[.int .i64 c.1, .int .i64 c.2] 23)) = W at *
  refine (known_any _).mono ?_
  rintro _ W ⟨rfl, hb⟩
  replace HB := hide (andthen HB.out hb)
  replace a0 := cell_keepA hb a0
  replace a1 := cell_keepA hb a1
  replace a2 := cell_keepA hb a2
  replace a3 := cell_keepA hb a3
  replace a4 := cell_keepA hb a4
  replace a5 := cell_keepA hb a5
  clear hb
  go_wp2_with fail
  refine wp_region_held_drew (S := fun w' => Below W.heap.size W w' ∧ w'.cell? ⟨w.heap.size, 0, none⟩ = some (.int .i64 a.1) ∧ w'.cell? ⟨w.heap.size, 1, none⟩ = some (.int .i64 a.2) ∧ w'.cell? ⟨w.heap.size + 1, 0, none⟩ = some (.int .i64 b.1) ∧ w'.cell? ⟨w.heap.size + 1, 1, none⟩ = some (.int .i64 b.2) ∧ w'.cell? ⟨w.heap.size + 1 + 1, 0, none⟩ = some (.int .i64 c.1) ∧ w'.cell? ⟨w.heap.size + 1 + 1, 1, none⟩ = some (.int .i64 c.2)) (by kernel_rfl) ?_ (fun hH0 => ?_)
  · exact sD6 (start W).drew ⟨start W, a0, a1, a2, a3, a4, a5⟩
  refine' wpAnyH_take (i := 0) (oi := _) (v := ?v0) rfl (by as_aux_lemma => kernel_rfl) (by as_aux_lemma => kernel_rfl) (by as_aux_lemma => kernel_rfl) (fun _ _ _ h => h) (Or.inl ⟨by rfl, ?y0⟩) hH0 ?r0
  case y0 => (intro w hSw; (try dsimp only at hSw); go_simp; (try with_reducible rfl))
  try simp only [Act.put, List.getElem_toArray, List.getElem_cons_succ, List.getElem_cons_zero, List.setIfInBounds_toArray, List.set_cons_zero, List.set_cons_succ]
  refine' wpAnyH_take (i := 1) (oi := _) (v := ?v1) rfl (by as_aux_lemma => kernel_rfl) (by as_aux_lemma => kernel_rfl) (by as_aux_lemma => kernel_rfl) (fun _ _ _ h => h) (Or.inl ⟨by rfl, ?y1⟩) hH0 ?r1
  case y1 => (intro w hSw; (try dsimp only at hSw); go_simp; (try with_reducible rfl))
  try simp only [Act.put, List.getElem_toArray, List.getElem_cons_succ, List.getElem_cons_zero, List.setIfInBounds_toArray, List.set_cons_zero, List.set_cons_succ]
  refine' wpAnyH_take (i := 3) (oi := _) (v := ?v2) rfl (by as_aux_lemma => kernel_rfl) (by as_aux_lemma => kernel_rfl) (by as_aux_lemma => kernel_rfl) (fun _ _ _ h => h) (Or.inl ⟨by rfl, ?y2⟩) hH0 ?r2
  case y2 => (intro w hSw; (try dsimp only at hSw); go_simp; (try with_reducible rfl))
  try simp only [Act.put, List.getElem_toArray, List.getElem_cons_succ, List.getElem_cons_zero, List.setIfInBounds_toArray, List.set_cons_zero, List.set_cons_succ]
  refine' wpAnyH_take (i := 4) (oi := _) (v := ?v3) rfl (by as_aux_lemma => kernel_rfl) (by as_aux_lemma => kernel_rfl) (by as_aux_lemma => kernel_rfl) (fun _ _ _ h => h) (Or.inl ⟨by rfl, ?y3⟩) hH0 ?r3
  case y3 => (intro w hSw; (try dsimp only at hSw); go_simp; (try with_reducible rfl))
  try simp only [Act.put, List.getElem_toArray, List.getElem_cons_succ, List.getElem_cons_zero, List.setIfInBounds_toArray, List.set_cons_zero, List.set_cons_succ]
  refine wpAnyH_ready (rs := [2]) (by as_aux_lemma => kernel_rfl) (by simp) ?_
  refine AllReadyH.cons (o := _) rfl (fun K hK => ?_) AllReadyH.nil
  go_simp
  refine (dbefore_at a b x _ GX.out).mono ?_
  rintro _ wz ⟨rfl, hb⟩
  refine hK.out _ _ (sD6 hb hH0) (fun hN => ?_)
  clear hK K hH0
  have hH1 := hN
  clear hN
  try simp only [Act.put, List.getElem_toArray, List.getElem_cons_succ, List.getElem_cons_zero, List.setIfInBounds_toArray, List.set_cons_zero, List.set_cons_succ]
  refine wpAnyH_ready (rs := [5]) (by as_aux_lemma => kernel_rfl) (by simp) ?_
  refine AllReadyH.cons (o := _) rfl (fun K hK => ?_) AllReadyH.nil
  go_simp
  refine (dbefore_at b a y _ GY.out).mono ?_
  rintro _ wz ⟨rfl, hb⟩
  refine hK.out _ _ (sD6 hb hH1) (fun hN => ?_)
  clear hK K hH1
  have hH2 := hN
  clear hN
  try simp only [Act.put, List.getElem_toArray, List.getElem_cons_succ, List.getElem_cons_zero, List.setIfInBounds_toArray, List.set_cons_zero, List.set_cons_succ]
  refine' wpAnyH_take (i := 6) (oi := _) (v := ?v4) rfl (by as_aux_lemma => kernel_rfl) (by as_aux_lemma => kernel_rfl) (by as_aux_lemma => kernel_rfl) (fun _ _ _ h => h) (Or.inl ⟨by rfl, ?y4⟩) hH2 ?r4
  case y4 => (intro w hSw; (try dsimp only at hSw); go_simp; (try with_reducible rfl))
  try simp only [Act.put, List.getElem_toArray, List.getElem_cons_succ, List.getElem_cons_zero, List.setIfInBounds_toArray, List.set_cons_zero, List.set_cons_succ]
  refine' wpAnyH_take (i := 7) (oi := _) (v := ?v5) rfl (by as_aux_lemma => kernel_rfl) (by as_aux_lemma => kernel_rfl) (by as_aux_lemma => kernel_rfl) (fun _ _ _ h => h) (Or.inl ⟨by rfl, ?y5⟩) hH2 ?r5
  case y5 => (intro w hSw; (try dsimp only at hSw); go_simp; (try with_reducible rfl))
  try simp only [Act.put, List.getElem_toArray, List.getElem_cons_succ, List.getElem_cons_zero, List.setIfInBounds_toArray, List.set_cons_zero, List.set_cons_succ]
  refine wpAnyH_done (by as_aux_lemma => kernel_rfl) ?_ _
  have HBE := hide hH2.1
  clear a0 a1 a2 a3 a4 a5
  have a0 := hH2.2.1
  have a1 := hH2.2.2.1
  have a2 := hH2.2.2.2.1
  have a3 := hH2.2.2.2.2.1
  have a4 := hH2.2.2.2.2.2.1
  have a5 := hH2.2.2.2.2.2.2
  clear hH2
  replace HB := hide (andthen HB.out HBE.out)
  clear HBE
  cases x <;> cases y
  · cases p1 <;> cases p2 <;> try (exfalso; exact absurd FS.out (by decide))
    cases g
    · exact absurd FG.out (by decide)
    go_wp2_with fail
    refine (dbefore_at a a false _ (bef_self a)).mono ?_
    rintro _ wf ⟨rfl, hb⟩
    replace HB := hide (andthen HB.out hb)
    clear hb
    go_wp2_with fail
    go_ret
    exact ⟨rfl, HB.out⟩
  · cases g
    · exact absurd FG.out (by decide)
    cases p1 <;> cases p2 <;> try (exfalso; exact absurd FS.out (by decide))
    all_goals
      go_wp2_with fail
      refine (dbefore_at a a false _ (bef_self a)).mono ?_
      rintro _ wf ⟨rfl, hb⟩
      replace HB := hide (andthen HB.out hb)
      clear hb
      go_wp2_with fail
      go_ret
      exact ⟨rfl, HB.out⟩
  · cases p1 <;> cases p2 <;> try (exfalso; exact absurd FS.out (by decide))
    all_goals
      go_wp2_with fail
      refine (dbefore_at b c z _ GZ.out).mono ?_
      rintro _ w2 ⟨rfl, hb⟩
      replace HB := hide (andthen HB.out hb)
      replace a0 := cell_keepA hb a0
      replace a1 := cell_keepA hb a1
      replace a2 := cell_keepA hb a2
      replace a3 := cell_keepA hb a3
      replace a4 := cell_keepA hb a4
      replace a5 := cell_keepA hb a5
      clear hb
      cases z
      · cases g
        · go_wp2_with fail
          refine (dbefore_at a a false _ (bef_self a)).mono ?_
          rintro _ wf ⟨rfl, hb⟩
          replace HB := hide (andthen HB.out hb)
          clear hb
          go_wp2_with fail
          go_ret
          exact ⟨rfl, HB.out⟩
        · go_wp2_with fail
          refine (dbefore_at a a false _ (bef_self a)).mono ?_
          rintro _ wf ⟨rfl, hb⟩
          replace HB := hide (andthen HB.out hb)
          clear hb
          go_wp2_with fail
          go_ret
          exact ⟨rfl, HB.out⟩
      · obtain rfl := FT.out (by trivial) (by trivial)
        go_wp2_with fail
        refine (dbefore_at a c true _ GV.out).mono ?_
        rintro _ w3 ⟨rfl, hb⟩
        replace HB := hide (andthen HB.out hb)
        replace a0 := cell_keepA hb a0
        replace a1 := cell_keepA hb a1
        replace a2 := cell_keepA hb a2
        replace a3 := cell_keepA hb a3
        replace a4 := cell_keepA hb a4
        replace a5 := cell_keepA hb a5
        clear hb
        cases g
        · go_wp2_with fail
          refine (dbefore_at a a false _ (bef_self a)).mono ?_
          rintro _ wf ⟨rfl, hb⟩
          replace HB := hide (andthen HB.out hb)
          clear hb
          go_wp2_with fail
          go_ret
          exact ⟨rfl, HB.out⟩
        · go_wp2_with fail
          refine (dbefore_at a a false _ (bef_self a)).mono ?_
          rintro _ wf ⟨rfl, hb⟩
          replace HB := hide (andthen HB.out hb)
          clear hb
          go_wp2_with fail
          go_ret
          exact ⟨rfl, HB.out⟩
  · exact absurd FN.out (by decide)
end Go.Proofs.YtocnobgdlgndjaaGreat

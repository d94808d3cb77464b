/- Walks of package slate: Rise, Copy. Written by recipes/sl2.py. -/
import Derived.Test.YtimhbpfeofdfnaaDoorSlF
import Derived.IntWalk
namespace Go.Proofs.YtimhbpfeofdfnaaDoor
open Go.RowKit Sl

theorem SlateAt.cut {w : World} {X g : Nat} {s : St} {cap m : Nat} (h : SlateAt w X g s) (hm : m ≤ s.t.length) (hc : w.cell? ⟨X, 0, none⟩ = some (.slice (some ⟨g, 0, none⟩) s.t.length cap)) :
    SlateAt (w.setCell ⟨X, 0, none⟩ (.slice (some ⟨g, 0, none⟩) m cap)) X g ⟨s.t.take m, s.off, s.lim, s.left⟩ := by
  obtain ⟨cap2, t1, t2⟩ := h.text
  rw [hc] at t1
  injection t1 with t1
  injection t1 with _ _ t1
  subst t1
  have hl : (s.t.take m).length = m := by simp; omega
  refine ⟨h.ne, ⟨cap, ?_, (t2.take m hm).of_block (Below.heap_setCell w _ _ g (fun e => h.ne (by rw [e])))⟩, ?_, ?_, ?_, fun j => ?_⟩
  · simp only [hl]; exact World.cell?_setCell_same _ _ _ hc
  · simp [World.cell?_setCell_other, h.offc]
  · simp [World.cell?_setCell_other, h.limc]
  · simp [World.cell?_setCell_other, h.leftc]
  · rw [World.frozen?_setCell]; exact h.free j
theorem clone_any (g : Nat) (t : Tx) (cap : Nat) (w : World) (ht : TextAt w g t cap) (hz : t.length ≤ 10000000) :
    Calls Tryd.prog 27 #[.slice (some ⟨g, 0, none⟩) t.length cap] w (fun e w' => ∃ g' cap', e = .returned (.slice (some ⟨g', 0, none⟩) t.length cap') ∧ TextAt w' g' t cap' ∧ w.heap.size ≤ g' ∧ Below w.heap.size w w') := by
  have hl : (t.map fun b => (b.toNat : Int)).length = t.length := List.length_map _
  refine (Tryd.bytes_Clone_at ⟨g, 0, none⟩ t.length cap (t.map fun b => (b.toNat : Int)) w hl (by omega) (fun i hi => ?_)).mono ?_
  · rw [plus, ht.cell i hi]
    simp [List.getD_eq_getElem?_getD, hi]
  · rintro e w' ⟨v, rfl, ho, hv, hb⟩
    have e1 : (t.map fun b => (b.toNat : Int)).map (Value.int .u8) = cellsB t := by unfold cellsB; rw [List.map_map]; rfl
    rw [e1] at ho
    have hv2 : ∃ g' cap', v = .slice (some ⟨g', 0, none⟩) t.length cap' := by
      rcases ho.2 with ⟨h1, h2⟩ | ⟨g', cap', _, h1, _⟩
      · exact absurd h1 hv
      · exact ⟨g', cap', h1⟩
    obtain ⟨g', cap', rfl⟩ := hv2
    obtain ⟨h1, h2⟩ := TextAt.own ho
    exact ⟨g', cap', rfl, h2, h1, hb⟩
theorem keep4 {W W1 : World} {X : Nat} {a b c d : Value} (hb : Below W.heap.size W W1) (h : W.cell? ⟨X, 0, none⟩ = some a ∧ W.cell? ⟨X, 1, none⟩ = some b ∧ W.cell? ⟨X, 2, none⟩ = some c ∧ W.cell? ⟨X, 3, none⟩ = some d) :
    W1.cell? ⟨X, 0, none⟩ = some a ∧ W1.cell? ⟨X, 1, none⟩ = some b ∧ W1.cell? ⟨X, 2, none⟩ = some c ∧ W1.cell? ⟨X, 3, none⟩ = some d :=
  ⟨cell_keep hb h.1, cell_keep hb h.2.1, cell_keep hb h.2.2.1, cell_keep hb h.2.2.2⟩

set_option maxRecDepth 100000 in
set_option maxHeartbeats 1600000 in
set_option linter.unusedSimpArgs false in
theorem rise_any (X g : Nat) (s0 : St) (w : World) (h : SlateAt w X g s0) (hz : s0.t.length ≤ 10000000) :
    Calls Tryd.prog 14 #[.pointer (some ⟨X, 0, none⟩)] w (fun e w' => e = .returned (.tuple #[]) ∧ SlateAt w' X g (riseS s0) ∧ Chg X g w w') := by
  have c1 := h.offc
  have c2 := h.limc
  have c3 := h.leftc
  have f1 := h.free 1
  have f2 := h.free 2
  have f3 := h.free 3
  have HS := hide (h.put false false 0)
  have HC := hide ((((Chg.refl X g w).set 1 (.bool false)).set 2 (.bool false)).set 3 (.int .i64 (((0 : Nat) : Int))))
  obtain ⟨s, hs⟩ : ∃ s : St, (⟨s0.t, false, false, 0⟩ : St) = s := ⟨_, rfl⟩
  have HZ := hide (show s.t.length ≤ 10000000 by rw [← hs]; exact hz)
  have HR := hide (show riseS s0 = ⟨keepL s.t, s.off, s.lim, s.left⟩ by rw [← hs]; rfl)
  rw [hs] at HS
  rw [HR.out]
  clear h hz hs
  go_enter Tryd.func14, Tryd.ntmps14
  go_wp2_with fail
  have HS1 := hide HS.out.drew
  have HC1 := hide HC.out.drew
  clear HS HC c1 c2 c3 f1 f2 f3 HR
  try simp only [Int.natCast_zero] at HS1 HC1
  generalize ((w.setCell ⟨X, 1, none⟩ (.bool false)).setCell ⟨X, 2, none⟩ (.bool false)).setCell ⟨X, 3, none⟩ (.int .i64 0) = V at *
  obtain ⟨cap, c0, htx⟩ := HS1.out.text
  have f0 := HS1.out.free 0
  obtain ⟨m, hm⟩ : ∃ m, (keepL s.t).length = m := ⟨_, rfl⟩
  have HM := hide (show m ≤ s.t.length by rw [← hm]; exact keep_len _)
  have hi1 : ((m : Int) ≤ (cap : Int)) := by have := HM.out; have := htx.le; omega
  have hi0 : (0 : Int) ≤ (m : Int) := by omega
  have hi2 : (m : Int) - 1 + 1 = (m : Int) := by omega
  have hi3 : (m : Int) ≤ 10000000 := by have := HM.out; have := HZ.out; omega
  have hi4 : IntKind.i64.wrap (m : Int) = (m : Int) := IntWalk.i64_in _ (by omega)
  have HKT := hide (show s.t.take m = keepL s.t by rw [← hm]; exact keep_take _)
  have HKM := hide hm
  have HTX := hide htx
  clear hm htx
  refine wp_region_held_drew (S := fun _ => True) (by kernel_rfl) ?_ (fun hH0 => ?_)
  · exact trivial
  refine' wpAnyH_take (i := 0) (oi := _) (v := ?v0) rfl (by as_aux_lemma => kernel_rfl) (by as_aux_lemma => kernel_rfl) (by as_aux_lemma => kernel_rfl) (fun _ _ _ h => h) (Or.inl ⟨by rfl, ?y0⟩) hH0 ?r0
  case y0 => (intro w hSw; (try dsimp only at hSw); go_simp; (try with_reducible rfl))
  try simp only [Act.put, List.getElem_toArray, List.getElem_cons_succ, List.getElem_cons_zero, List.setIfInBounds_toArray, List.set_cons_zero, List.set_cons_succ]
  refine' wpAnyH_take (i := 1) (oi := _) (v := ?v1) rfl (by as_aux_lemma => kernel_rfl) (by as_aux_lemma => kernel_rfl) (by as_aux_lemma => kernel_rfl) (fun _ _ _ h => h) (Or.inl ⟨by rfl, ?y1⟩) hH0 ?r1
  case y1 => (intro w hSw; (try dsimp only at hSw); go_simp; (try with_reducible rfl))
  try simp only [Act.put, List.getElem_toArray, List.getElem_cons_succ, List.getElem_cons_zero, List.setIfInBounds_toArray, List.set_cons_zero, List.set_cons_succ]
  refine' wpAnyH_take (i := 2) (oi := _) (v := ?v2) rfl (by as_aux_lemma => kernel_rfl) (by as_aux_lemma => kernel_rfl) (by as_aux_lemma => kernel_rfl) (fun _ _ _ h => h) (Or.inl ⟨by rfl, ?y2⟩) hH0 ?r2
  case y2 => (intro w hSw; (try dsimp only at hSw); go_simp; (try with_reducible rfl))
  try simp only [Act.put, List.getElem_toArray, List.getElem_cons_succ, List.getElem_cons_zero, List.setIfInBounds_toArray, List.set_cons_zero, List.set_cons_succ]
  refine' wpAnyH_take (i := 3) (oi := _) (v := ?v3) rfl (by as_aux_lemma => kernel_rfl) (by as_aux_lemma => kernel_rfl) (by as_aux_lemma => kernel_rfl) (fun _ _ _ h => h) (Or.inl ⟨by rfl, ?y3⟩) hH0 ?r3
  case y3 => (intro w hSw; (try dsimp only at hSw); go_simp; (try with_reducible rfl))
  try simp only [Act.put, List.getElem_toArray, List.getElem_cons_succ, List.getElem_cons_zero, List.setIfInBounds_toArray, List.set_cons_zero, List.set_cons_succ]
  refine' wpAnyH_take (i := 5) (oi := _) (v := ?v4) rfl (by as_aux_lemma => kernel_rfl) (by as_aux_lemma => kernel_rfl) (by as_aux_lemma => kernel_rfl) (fun _ _ _ h => h) (Or.inl ⟨by rfl, ?y4⟩) hH0 ?r4
  case y4 => (intro w hSw; (try dsimp only at hSw); go_simp; (try with_reducible rfl))
  try simp only [Act.put, List.getElem_toArray, List.getElem_cons_succ, List.getElem_cons_zero, List.setIfInBounds_toArray, List.set_cons_zero, List.set_cons_succ]
  refine' wpAnyH_take (i := 6) (oi := _) (v := ?v5) rfl (by as_aux_lemma => kernel_rfl) (by as_aux_lemma => kernel_rfl) (by as_aux_lemma => kernel_rfl) (fun _ _ _ h => h) (Or.inl ⟨by rfl, ?y5⟩) hH0 ?r5
  case y5 => (intro w hSw; (try dsimp only at hSw); go_simp; (try with_reducible rfl))
  try simp only [Act.put, List.getElem_toArray, List.getElem_cons_succ, List.getElem_cons_zero, List.setIfInBounds_toArray, List.set_cons_zero, List.set_cons_succ]
  refine' wpAnyH_take (i := 7) (oi := _) (v := ?v6) rfl (by as_aux_lemma => kernel_rfl) (by as_aux_lemma => kernel_rfl) (by as_aux_lemma => kernel_rfl) (fun _ _ _ h => h) (Or.inl ⟨by rfl, ?y6⟩) hH0 ?r6
  case y6 => (intro w hSw; (try dsimp only at hSw); go_simp; (try with_reducible rfl))
  try simp only [Act.put, List.getElem_toArray, List.getElem_cons_succ, List.getElem_cons_zero, List.setIfInBounds_toArray, List.set_cons_zero, List.set_cons_succ]
  refine' wpAnyH_take (i := 9) (oi := _) (v := ?v7) rfl (by as_aux_lemma => kernel_rfl) (by as_aux_lemma => kernel_rfl) (by as_aux_lemma => kernel_rfl) (fun _ _ _ h => h) (Or.inl ⟨by rfl, ?y7⟩) hH0 ?r7
  case y7 => (intro w hSw; (try dsimp only at hSw); go_simp; (try with_reducible rfl))
  try simp only [Act.put, List.getElem_toArray, List.getElem_cons_succ, List.getElem_cons_zero, List.setIfInBounds_toArray, List.set_cons_zero, List.set_cons_succ]
  refine wpAnyH_ready (rs := [4, 8]) (by as_aux_lemma => kernel_rfl) (by simp) ?_
  refine AllReadyH.cons (o := _) rfl (fun K hK => ?_) (AllReadyH.cons (o := _) rfl (fun K hK => ?_) AllReadyH.nil)
  · go_simp
    refine hK.out _ _ (trivial) (fun hN => ?_)
    clear hK K hH0
    have hH1 := hN
    clear hN
    try simp only [Act.put, List.getElem_toArray, List.getElem_cons_succ, List.getElem_cons_zero, List.setIfInBounds_toArray, List.set_cons_zero, List.set_cons_succ]
    refine wpAnyH_ready (rs := [8]) (by as_aux_lemma => kernel_rfl) (by simp) ?_
    refine AllReadyH.cons (o := _) rfl (fun K hK => ?_) AllReadyH.nil
    go_simp
    refine hK.out _ _ (trivial) (fun hN => ?_)
    clear hK K hH1
    have hH2 := hN
    clear hN
    try simp only [Act.put, List.getElem_toArray, List.getElem_cons_succ, List.getElem_cons_zero, List.setIfInBounds_toArray, List.set_cons_zero, List.set_cons_succ]
    refine wpAnyH_ready (rs := [10]) (by as_aux_lemma => kernel_rfl) (by simp) ?_
    refine AllReadyH.cons (o := _) rfl (fun K hK => ?_) AllReadyH.nil
    go_simp
    refine (last_any g s.t cap _ HTX.out HZ.out).mono ?_
    rintro e w2 ⟨rfl, rfl⟩
    rw [HKM.out]
    refine hK.out _ _ (trivial) (fun hN => ?_)
    clear hK K hH2
    have hH3 := hN
    clear hN
    try simp only [Act.put, List.getElem_toArray, List.getElem_cons_succ, List.getElem_cons_zero, List.setIfInBounds_toArray, List.set_cons_zero, List.set_cons_succ]
    refine' wpAnyH_take (i := 11) (oi := _) (v := ?v8) rfl (by as_aux_lemma => kernel_rfl) (by as_aux_lemma => kernel_rfl) (by as_aux_lemma => kernel_rfl) (fun _ _ _ h => h) (Or.inl ⟨by rfl, ?y8⟩) hH3 ?r8
    case y8 => (intro w hSw; (try dsimp only at hSw); go_simp; (try with_reducible rfl))
    try simp only [Act.put, List.getElem_toArray, List.getElem_cons_succ, List.getElem_cons_zero, List.setIfInBounds_toArray, List.set_cons_zero, List.set_cons_succ]
    refine' wpAnyH_take (i := 12) (oi := _) (v := ?v9) rfl (by as_aux_lemma => kernel_rfl) (by as_aux_lemma => kernel_rfl) (by as_aux_lemma => kernel_rfl) (fun _ _ _ h => h) (Or.inl ⟨by rfl, ?y9⟩) hH3 ?r9
    case y9 => (intro w hSw; (try dsimp only at hSw); go_simp; (try with_reducible rfl))
    try simp only [Act.put, List.getElem_toArray, List.getElem_cons_succ, List.getElem_cons_zero, List.setIfInBounds_toArray, List.set_cons_zero, List.set_cons_succ]
    refine' wpAnyH_take (i := 13) (oi := _) (v := ?v10) rfl (by as_aux_lemma => kernel_rfl) (by as_aux_lemma => kernel_rfl) (by as_aux_lemma => kernel_rfl) (fun _ _ _ h => h) (Or.inl ⟨by rfl, ?y10⟩) hH3 ?r10
    case y10 => (intro w hSw; (try dsimp only at hSw); go_simp; (try with_reducible rfl))
    try simp only [Act.put, List.getElem_toArray, List.getElem_cons_succ, List.getElem_cons_zero, List.setIfInBounds_toArray, List.set_cons_zero, List.set_cons_succ]
    refine' wpAnyH_take (i := 14) (oi := _) (v := ?v11) rfl (by as_aux_lemma => kernel_rfl) (by as_aux_lemma => kernel_rfl) (by as_aux_lemma => kernel_rfl) (fun _ _ _ h => h) (Or.inl ⟨by rfl, ?y11⟩) hH3 ?r11
    case y11 => (intro w hSw; (try dsimp only at hSw); go_simp; (try with_reducible rfl))
    try simp only [Act.put, List.getElem_toArray, List.getElem_cons_succ, List.getElem_cons_zero, List.setIfInBounds_toArray, List.set_cons_zero, List.set_cons_succ]
    refine wpAnyH_ready (rs := [15]) (by as_aux_lemma => kernel_rfl) (by simp) ?_
    refine AllReadyH.cons (o := _) rfl (fun K hK => ?_) AllReadyH.nil
    go_simp
    refine hK.out _ _ (trivial) (fun hN => ?_)
    clear hK K hH3
    have hH4 := hN
    clear hN
    try simp only [Act.put, List.getElem_toArray, List.getElem_cons_succ, List.getElem_cons_zero, List.setIfInBounds_toArray, List.set_cons_zero, List.set_cons_succ]
    refine wpAnyH_done (by as_aux_lemma => kernel_rfl) ?_ _
    have HN3 := hide (HS1.out.cut HM.out c0)
    rw [HKT.out] at HN3
    have HC3 := hide (HC1.out.set 0 (.slice (some ⟨g, 0, none⟩) m cap))
    clear c0 f0 hi4
    go_wp2_with fail
    go_end0
    exact ⟨rfl, HN3.out, HC3.out⟩
  · go_simp
    refine hK.out _ _ (trivial) (fun hN => ?_)
    clear hK K hH0
    have hH1 := hN
    clear hN
    try simp only [Act.put, List.getElem_toArray, List.getElem_cons_succ, List.getElem_cons_zero, List.setIfInBounds_toArray, List.set_cons_zero, List.set_cons_succ]
    refine wpAnyH_ready (rs := [4, 10]) (by as_aux_lemma => kernel_rfl) (by simp) ?_
    refine AllReadyH.cons (o := _) rfl (fun K hK => ?_) (AllReadyH.cons (o := _) rfl (fun K hK => ?_) AllReadyH.nil)
    · go_simp
      refine hK.out _ _ (trivial) (fun hN => ?_)
      clear hK K hH1
      have hH2 := hN
      clear hN
      try simp only [Act.put, List.getElem_toArray, List.getElem_cons_succ, List.getElem_cons_zero, List.setIfInBounds_toArray, List.set_cons_zero, List.set_cons_succ]
      refine wpAnyH_ready (rs := [10]) (by as_aux_lemma => kernel_rfl) (by simp) ?_
      refine AllReadyH.cons (o := _) rfl (fun K hK => ?_) AllReadyH.nil
      go_simp
      refine (last_any g s.t cap _ HTX.out HZ.out).mono ?_
      rintro e w2 ⟨rfl, rfl⟩
      rw [HKM.out]
      refine hK.out _ _ (trivial) (fun hN => ?_)
      clear hK K hH2
      have hH3 := hN
      clear hN
      try simp only [Act.put, List.getElem_toArray, List.getElem_cons_succ, List.getElem_cons_zero, List.setIfInBounds_toArray, List.set_cons_zero, List.set_cons_succ]
      refine' wpAnyH_take (i := 11) (oi := _) (v := ?v12) rfl (by as_aux_lemma => kernel_rfl) (by as_aux_lemma => kernel_rfl) (by as_aux_lemma => kernel_rfl) (fun _ _ _ h => h) (Or.inl ⟨by rfl, ?y12⟩) hH3 ?r12
      case y12 => (intro w hSw; (try dsimp only at hSw); go_simp; (try with_reducible rfl))
      try simp only [Act.put, List.getElem_toArray, List.getElem_cons_succ, List.getElem_cons_zero, List.setIfInBounds_toArray, List.set_cons_zero, List.set_cons_succ]
      refine' wpAnyH_take (i := 12) (oi := _) (v := ?v13) rfl (by as_aux_lemma => kernel_rfl) (by as_aux_lemma => kernel_rfl) (by as_aux_lemma => kernel_rfl) (fun _ _ _ h => h) (Or.inl ⟨by rfl, ?y13⟩) hH3 ?r13
      case y13 => (intro w hSw; (try dsimp only at hSw); go_simp; (try with_reducible rfl))
      try simp only [Act.put, List.getElem_toArray, List.getElem_cons_succ, List.getElem_cons_zero, List.setIfInBounds_toArray, List.set_cons_zero, List.set_cons_succ]
      refine' wpAnyH_take (i := 13) (oi := _) (v := ?v14) rfl (by as_aux_lemma => kernel_rfl) (by as_aux_lemma => kernel_rfl) (by as_aux_lemma => kernel_rfl) (fun _ _ _ h => h) (Or.inl ⟨by rfl, ?y14⟩) hH3 ?r14
      case y14 => (intro w hSw; (try dsimp only at hSw); go_simp; (try with_reducible rfl))
      try simp only [Act.put, List.getElem_toArray, List.getElem_cons_succ, List.getElem_cons_zero, List.setIfInBounds_toArray, List.set_cons_zero, List.set_cons_succ]
      refine' wpAnyH_take (i := 14) (oi := _) (v := ?v15) rfl (by as_aux_lemma => kernel_rfl) (by as_aux_lemma => kernel_rfl) (by as_aux_lemma => kernel_rfl) (fun _ _ _ h => h) (Or.inl ⟨by rfl, ?y15⟩) hH3 ?r15
      case y15 => (intro w hSw; (try dsimp only at hSw); go_simp; (try with_reducible rfl))
      try simp only [Act.put, List.getElem_toArray, List.getElem_cons_succ, List.getElem_cons_zero, List.setIfInBounds_toArray, List.set_cons_zero, List.set_cons_succ]
      refine wpAnyH_ready (rs := [15]) (by as_aux_lemma => kernel_rfl) (by simp) ?_
      refine AllReadyH.cons (o := _) rfl (fun K hK => ?_) AllReadyH.nil
      go_simp
      refine hK.out _ _ (trivial) (fun hN => ?_)
      clear hK K hH3
      have hH4 := hN
      clear hN
      try simp only [Act.put, List.getElem_toArray, List.getElem_cons_succ, List.getElem_cons_zero, List.setIfInBounds_toArray, List.set_cons_zero, List.set_cons_succ]
      refine wpAnyH_done (by as_aux_lemma => kernel_rfl) ?_ _
      have HN3 := hide (HS1.out.cut HM.out c0)
      rw [HKT.out] at HN3
      have HC3 := hide (HC1.out.set 0 (.slice (some ⟨g, 0, none⟩) m cap))
      clear c0 f0 hi4
      go_wp2_with fail
      go_end0
      exact ⟨rfl, HN3.out, HC3.out⟩
    · go_simp
      refine (last_any g s.t cap _ HTX.out HZ.out).mono ?_
      rintro e w2 ⟨rfl, rfl⟩
      rw [HKM.out]
      refine hK.out _ _ (trivial) (fun hN => ?_)
      clear hK K hH1
      have hH2 := hN
      clear hN
      try simp only [Act.put, List.getElem_toArray, List.getElem_cons_succ, List.getElem_cons_zero, List.setIfInBounds_toArray, List.set_cons_zero, List.set_cons_succ]
      refine' wpAnyH_take (i := 11) (oi := _) (v := ?v16) rfl (by as_aux_lemma => kernel_rfl) (by as_aux_lemma => kernel_rfl) (by as_aux_lemma => kernel_rfl) (fun _ _ _ h => h) (Or.inl ⟨by rfl, ?y16⟩) hH2 ?r16
      case y16 => (intro w hSw; (try dsimp only at hSw); go_simp; (try with_reducible rfl))
      try simp only [Act.put, List.getElem_toArray, List.getElem_cons_succ, List.getElem_cons_zero, List.setIfInBounds_toArray, List.set_cons_zero, List.set_cons_succ]
      refine wpAnyH_ready (rs := [4]) (by as_aux_lemma => kernel_rfl) (by simp) ?_
      refine AllReadyH.cons (o := _) rfl (fun K hK => ?_) AllReadyH.nil
      go_simp
      refine hK.out _ _ (trivial) (fun hN => ?_)
      clear hK K hH2
      have hH3 := hN
      clear hN
      try simp only [Act.put, List.getElem_toArray, List.getElem_cons_succ, List.getElem_cons_zero, List.setIfInBounds_toArray, List.set_cons_zero, List.set_cons_succ]
      refine' wpAnyH_take (i := 12) (oi := _) (v := ?v17) rfl (by as_aux_lemma => kernel_rfl) (by as_aux_lemma => kernel_rfl) (by as_aux_lemma => kernel_rfl) (fun _ _ _ h => h) (Or.inl ⟨by rfl, ?y17⟩) hH3 ?r17
      case y17 => (intro w hSw; (try dsimp only at hSw); go_simp; (try with_reducible rfl))
      try simp only [Act.put, List.getElem_toArray, List.getElem_cons_succ, List.getElem_cons_zero, List.setIfInBounds_toArray, List.set_cons_zero, List.set_cons_succ]
      refine' wpAnyH_take (i := 13) (oi := _) (v := ?v18) rfl (by as_aux_lemma => kernel_rfl) (by as_aux_lemma => kernel_rfl) (by as_aux_lemma => kernel_rfl) (fun _ _ _ h => h) (Or.inl ⟨by rfl, ?y18⟩) hH3 ?r18
      case y18 => (intro w hSw; (try dsimp only at hSw); go_simp; (try with_reducible rfl))
      try simp only [Act.put, List.getElem_toArray, List.getElem_cons_succ, List.getElem_cons_zero, List.setIfInBounds_toArray, List.set_cons_zero, List.set_cons_succ]
      refine' wpAnyH_take (i := 14) (oi := _) (v := ?v19) rfl (by as_aux_lemma => kernel_rfl) (by as_aux_lemma => kernel_rfl) (by as_aux_lemma => kernel_rfl) (fun _ _ _ h => h) (Or.inl ⟨by rfl, ?y19⟩) hH3 ?r19
      case y19 => (intro w hSw; (try dsimp only at hSw); go_simp; (try with_reducible rfl))
      try simp only [Act.put, List.getElem_toArray, List.getElem_cons_succ, List.getElem_cons_zero, List.setIfInBounds_toArray, List.set_cons_zero, List.set_cons_succ]
      refine wpAnyH_ready (rs := [15]) (by as_aux_lemma => kernel_rfl) (by simp) ?_
      refine AllReadyH.cons (o := _) rfl (fun K hK => ?_) AllReadyH.nil
      go_simp
      refine hK.out _ _ (trivial) (fun hN => ?_)
      clear hK K hH3
      have hH4 := hN
      clear hN
      try simp only [Act.put, List.getElem_toArray, List.getElem_cons_succ, List.getElem_cons_zero, List.setIfInBounds_toArray, List.set_cons_zero, List.set_cons_succ]
      refine wpAnyH_done (by as_aux_lemma => kernel_rfl) ?_ _
      have HN3 := hide (HS1.out.cut HM.out c0)
      rw [HKT.out] at HN3
      have HC3 := hide (HC1.out.set 0 (.slice (some ⟨g, 0, none⟩) m cap))
      clear c0 f0 hi4
      go_wp2_with fail
      go_end0
      exact ⟨rfl, HN3.out, HC3.out⟩
set_option maxRecDepth 100000 in
set_option maxHeartbeats 1600000 in
set_option linter.unusedSimpArgs false in
theorem copy_any (X g : Nat) (s : St) (w : World) (h : SlateAt w X g s) (hz : s.t.length ≤ 10000000) :
    Calls Tryd.prog 16 #[.pointer (some ⟨X, 0, none⟩)] w (Makes w s) := by
  obtain ⟨cap, c0, htx⟩ := h.drew.text
  have c1 := h.offc
  have c2 := h.limc
  have c3 := h.leftc
  have HZ := hide hz
  have HTX := hide htx
  clear h hz htx
  go_enter Tryd.func16, Tryd.ntmps16
  go_wp2_with fail
  refine wp_region_held_drew (S := fun W' => W'.cell? ⟨X, 0, none⟩ = some (.slice (some ⟨g, 0, none⟩) s.t.length cap) ∧ W'.cell? ⟨X, 1, none⟩ = some (.bool s.off) ∧ W'.cell? ⟨X, 2, none⟩ = some (.bool s.lim) ∧ W'.cell? ⟨X, 3, none⟩ = some (.int .i64 (s.left : Int))) (by kernel_rfl) ?_ (fun hH0 => ?_)
  · exact ⟨c0, c1, c2, c3⟩
  refine' wpAnyH_take (i := 0) (oi := _) (v := ?v200) rfl (by as_aux_lemma => kernel_rfl) (by as_aux_lemma => kernel_rfl) (by as_aux_lemma => kernel_rfl) (fun _ _ _ h => h) (Or.inl ⟨by rfl, ?y200⟩) hH0 ?r200
  case y200 => (intro w hSw; (try dsimp only at hSw); go_simp; (try with_reducible rfl))
  try simp only [Act.put, List.getElem_toArray, List.getElem_cons_succ, List.getElem_cons_zero, List.setIfInBounds_toArray, List.set_cons_zero, List.set_cons_succ]
  refine' wpAnyH_take (i := 1) (oi := _) (v := ?v201) rfl (by as_aux_lemma => kernel_rfl) (by as_aux_lemma => kernel_rfl) (by as_aux_lemma => kernel_rfl) (fun _ _ _ h => h) (Or.inl ⟨by rfl, ?y201⟩) hH0 ?r201
  case y201 => (intro w hSw; (try dsimp only at hSw); go_simp; (try with_reducible rfl))
  try simp only [Act.put, List.getElem_toArray, List.getElem_cons_succ, List.getElem_cons_zero, List.setIfInBounds_toArray, List.set_cons_zero, List.set_cons_succ]
  refine' wpAnyH_take (i := 2) (oi := _) (v := ?v202) rfl (by as_aux_lemma => kernel_rfl) (by as_aux_lemma => kernel_rfl) (by as_aux_lemma => kernel_rfl) (fun _ _ _ h => h) (Or.inl ⟨by rfl, ?y202⟩) hH0 ?r202
  case y202 => (intro w hSw; (try dsimp only at hSw); go_simp; (try with_reducible rfl))
  try simp only [Act.put, List.getElem_toArray, List.getElem_cons_succ, List.getElem_cons_zero, List.setIfInBounds_toArray, List.set_cons_zero, List.set_cons_succ]
  refine' wpAnyH_take (i := 3) (oi := _) (v := ?v203) rfl (by as_aux_lemma => kernel_rfl) (by as_aux_lemma => kernel_rfl) (by as_aux_lemma => kernel_rfl) (fun _ _ _ h => h) (Or.inl ⟨by rfl, ?y203⟩) hH0 ?r203
  case y203 => (intro w hSw; (try dsimp only at hSw); go_simp; (try with_reducible rfl))
  try simp only [Act.put, List.getElem_toArray, List.getElem_cons_succ, List.getElem_cons_zero, List.setIfInBounds_toArray, List.set_cons_zero, List.set_cons_succ]
  refine' wpAnyH_take (i := 5) (oi := _) (v := ?v204) rfl (by as_aux_lemma => kernel_rfl) (by as_aux_lemma => kernel_rfl) (by as_aux_lemma => kernel_rfl) (fun _ _ _ h => h) (Or.inl ⟨by rfl, ?y204⟩) hH0 ?r204
  case y204 => (intro w hSw; (try dsimp only at hSw); go_simp; (try with_reducible rfl))
  try simp only [Act.put, List.getElem_toArray, List.getElem_cons_succ, List.getElem_cons_zero, List.setIfInBounds_toArray, List.set_cons_zero, List.set_cons_succ]
  refine' wpAnyH_take (i := 6) (oi := _) (v := ?v205) rfl (by as_aux_lemma => kernel_rfl) (by as_aux_lemma => kernel_rfl) (by as_aux_lemma => kernel_rfl) (fun _ _ _ h => h) (Or.inl ⟨by rfl, ?y205⟩) hH0 ?r205
  case y205 => (intro w hSw; (try dsimp only at hSw); go_simp; (try with_reducible rfl))
  try simp only [Act.put, List.getElem_toArray, List.getElem_cons_succ, List.getElem_cons_zero, List.setIfInBounds_toArray, List.set_cons_zero, List.set_cons_succ]
  refine' wpAnyH_take (i := 7) (oi := _) (v := ?v206) rfl (by as_aux_lemma => kernel_rfl) (by as_aux_lemma => kernel_rfl) (by as_aux_lemma => kernel_rfl) (fun _ _ _ h => h) (Or.inl ⟨by rfl, ?y206⟩) hH0 ?r206
  case y206 => (intro w hSw; (try dsimp only at hSw); go_simp; (try with_reducible rfl))
  try simp only [Act.put, List.getElem_toArray, List.getElem_cons_succ, List.getElem_cons_zero, List.setIfInBounds_toArray, List.set_cons_zero, List.set_cons_succ]
  refine' wpAnyH_take (i := 8) (oi := _) (v := ?v207) rfl (by as_aux_lemma => kernel_rfl) (by as_aux_lemma => kernel_rfl) (by as_aux_lemma => kernel_rfl) (fun _ _ _ h => h) (Or.inl ⟨by rfl, ?y207⟩) hH0 ?r207
  case y207 => (intro w hSw; (try dsimp only at hSw); go_simp; (try with_reducible rfl))
  try simp only [Act.put, List.getElem_toArray, List.getElem_cons_succ, List.getElem_cons_zero, List.setIfInBounds_toArray, List.set_cons_zero, List.set_cons_succ]
  refine wpAnyH_ready (rs := [4]) (by as_aux_lemma => kernel_rfl) (by simp) ?_
  refine AllReadyH.cons (o := _) rfl (fun K hK => ?_) AllReadyH.nil
  go_simp
  refine (clone_any g s.t cap _ HTX.out HZ.out).mono ?_
  rintro e w2 ⟨g2, cap2, rfl, ht2, hg2, hb⟩
  have HT2 := hide ht2
  have HB2 := hide hb
  have HG2 := hide hg2
  clear ht2 hg2
  refine hK.out _ _ (keep4 hb hH0) (fun hN => ?_)
  clear hK K hH0
  have hH1 := hN
  clear hN
  try simp only [Act.put, List.getElem_toArray, List.getElem_cons_succ, List.getElem_cons_zero, List.setIfInBounds_toArray, List.set_cons_zero, List.set_cons_succ]
  refine' wpAnyH_take (i := 9) (oi := _) (v := ?v208) rfl (by as_aux_lemma => kernel_rfl) (by as_aux_lemma => kernel_rfl) (by as_aux_lemma => kernel_rfl) (fun _ _ _ h => h) (Or.inl ⟨by rfl, ?y208⟩) hH1 ?r208
  case y208 => (intro w hSw; (try dsimp only at hSw); go_simp; (try with_reducible rfl))
  try simp only [Act.put, List.getElem_toArray, List.getElem_cons_succ, List.getElem_cons_zero, List.setIfInBounds_toArray, List.set_cons_zero, List.set_cons_succ]
  refine wpAnyH_ready (rs := [10]) (by as_aux_lemma => kernel_rfl) (by simp) ?_
  refine AllReadyH.cons (o := _) rfl (fun K hK => ?_) AllReadyH.nil
  go_simp
  refine hK.out _ _ (keep4 (more (start _) _) hH1) (fun hN => ?_)
  clear hK K hH1
  have hH2 := hN
  clear hN
  try simp only [Act.put, List.getElem_toArray, List.getElem_cons_succ, List.getElem_cons_zero, List.setIfInBounds_toArray, List.set_cons_zero, List.set_cons_succ]
  refine' wpAnyH_take (i := 11) (oi := _) (v := ?v209) rfl (by as_aux_lemma => kernel_rfl) (by as_aux_lemma => kernel_rfl) (by as_aux_lemma => kernel_rfl) (fun _ _ _ h => h) (Or.inl ⟨by rfl, ?y209⟩) hH2 ?r209
  case y209 => (intro w hSw; (try dsimp only at hSw); go_simp; (try with_reducible rfl))
  try simp only [Act.put, List.getElem_toArray, List.getElem_cons_succ, List.getElem_cons_zero, List.setIfInBounds_toArray, List.set_cons_zero, List.set_cons_succ]
  refine wpAnyH_done (by as_aux_lemma => kernel_rfl) ?_ _
  have HN3 := hide (slate_new (s := s) HT2.out 50)
  have HB3 := hide (more HB2.out (.cells #[.slice (some ⟨g2, 0, none⟩) s.t.length cap2, .bool s.off, .bool s.lim, .int .i64 (s.left : Int)] 50))
  go_wp2_with fail
  go_ret
  exact ⟨w2.heap.size, g2, rfl, HN3.out, HB2.out.size, HG2.out, (Below.drew (start w)).trans HB3.out⟩
end Go.Proofs.YtimhbpfeofdfnaaDoor

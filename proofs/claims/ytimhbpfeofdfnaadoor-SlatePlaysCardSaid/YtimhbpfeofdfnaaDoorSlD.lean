/- Walks of package slate: put, anyEnd, write, Write. By hand. -/
import Derived.Test.YtimhbpfeofdfnaaDoorSlC
import Derived.Test.YtimhbpfeofdfnaaDoorShelf
import Derived.StillTailTactics
import Derived.Deep.LoopGhost
namespace Go.Proofs.YtimhbpfeofdfnaaDoor
open Go.RowKit Sl

theorem wp_text {ops : Array Oper} {rest : List Oper} {o : Oper} {a : Act} {Q : Exit → Act → World → Prop} {w : World} {g cap : Nat} {t p : Tx} {n : Nat} (hgd : o.guard = none) (s x : Operand)
    (ho : o.op = .call { callee := .builtin .append, args := #[s, x], argTypes := #[46, 9] }) (hs : a.eval s = .slice (some ⟨g, 0, none⟩) n cap) (hx : a.eval x = .string (str p)) (hn : n = t.length)
    (ht : TextAt w g t cap) (hsz : t.length + p.length ≤ 1000000000)
    (h : ∀ g' cap' w', TextAt w' g' (t ++ p) cap' → w.grownBy w' (some g) → (g' = g ∨ g' = w.heap.size) → wpList Tryd.prog ops Q rest (a.put o.dst (.slice (some ⟨g', 0, none⟩) (t ++ p).length cap')) w') :
    wpList Tryd.prog ops Q (o :: rest) a w := by
  refine wpList_plain hgd fun K hK => ?_
  subst hn
  obtain ⟨g', cap', w', hr, h2, h3, h4⟩ := run_append_text ht p o.type hsz
  unfold Oper.wp execOp
  simp only [ho, resolve, invoke, builtin, Sem.run_bind, Sem.run_pure, Result.andThen_ok, List.map_toArray, List.map_cons, List.map_nil, hs, hx, hr]
  exact hK _ _ (h g' cap' w' h2 h3 h4)
/-- what is behind a text that grew. -/
theorem SlateAt.grew {w w' : World} {X g : Nat} {s : St} {p : Tx} {g' cap' : Nat} (h : SlateAt w X g s) (ht : TextAt w' g' (s.t ++ p) cap') (hg : w.grownBy w' (some g)) (hat : g' = g ∨ g' = w.heap.size) :
    SlateAt (w'.setCell ⟨X, 0, none⟩ (.slice (some ⟨g', 0, none⟩) (s.t ++ p).length cap')) X g' ⟨s.t ++ p, s.off, s.lim, s.left⟩ := by
  have hX : X ≠ g' := by rcases hat with rfl | rfl; exact h.ne; have := h.lt; omega
  have hb : w'.heap[X]? = w.heap[X]? := hg.block X h.lt (fun e => h.ne (Option.some.inj e))
  have hc : ∀ j, w'.cell? ⟨X, j, none⟩ = w.cell? ⟨X, j, none⟩ := fun j => by unfold World.cell?; simp only [hb]
  have hf : ∀ j, w'.frozen? ⟨X, j, none⟩ = w.frozen? ⟨X, j, none⟩ := fun j => by unfold World.frozen?; simp only [hb]
  obtain ⟨cap, t1, t2⟩ := h.text
  refine ⟨hX, ⟨cap', ?_, ht.of_block (Below.heap_setCell w' _ _ g' (fun e => hX (by rw [e])))⟩, ?_, ?_, ?_, fun j => ?_⟩
  · exact World.cell?_setCell_same _ _ _ ((hc 0).trans t1)
  · simp [World.cell?_setCell_other, hc, h.offc]
  · simp [World.cell?_setCell_other, hc, h.limc]
  · simp [World.cell?_setCell_other, hc, h.leftc]
  · rw [World.frozen?_setCell, hf]; exact h.free j
theorem grew_chg {w w' : World} {X g : Nat} (hg : w.grownBy w' (some g)) (v : Value) : Chg X g w (w'.setCell ⟨X, 0, none⟩ v) := (Chg.grown hg).set 0 v
theorem Turns.to {w w' : World} {X g g' : Nat} {s : St} (h1 : g' = g ∨ w.heap.size ≤ g') (h2 : SlateAt w' X g' s) (h3 : Chg X g w w') : Turns w X g s w' := ⟨g', h1, h2, h3⟩
/-- one piece of bytes. -/
theorem put_use (s : St) (q : Tx) : (⟨(useS s q.length).t ++ q.take (usedN s q.length), (useS s q.length).off, (useS s q.length).lim, (useS s q.length).left⟩ : St) = putS s q := by
  unfold useS usedN putS
  cases hl : s.lim with
  | false => simp [hl]
  | true =>
    simp only [if_true]
    congr 2
    rcases Nat.le_total q.length s.left with h | h
    · rw [Nat.min_eq_left h, List.take_length, List.take_of_length_le h]
    · rw [Nat.min_eq_right h]
theorem used_lt (s : St) (q : Tx) : decide (usedN s q.length < q.length) = !putB s q := by
  unfold usedN putB
  cases hl : s.lim with
  | false => simp
  | true =>
    simp only [if_true, Bool.not_true, Bool.false_or]
    rcases Nat.le_total q.length s.left with h | h
    · rw [Nat.min_eq_left h, decide_eq_true h]; simp
    · rw [Nat.min_eq_right h]
      by_cases h2 : q.length ≤ s.left
      · rw [decide_eq_true h2, decide_eq_false (by omega)]; rfl
      · rw [decide_eq_false h2, decide_eq_true (by omega)]; rfl
theorem used_le (s : St) (n : Nat) : usedN s n ≤ n := by unfold usedN; split; exact Nat.min_le_left _ _; exact Nat.le_refl _
theorem use_left (s : St) (n : Nat) : (useS s n).left ≤ s.left := by unfold useS; split; simp; exact Nat.le_refl _
theorem use_t (s : St) (n : Nat) : (useS s n).t = s.t := by unfold useS; split <;> rfl
theorem put_t_len (s : St) (q : Tx) : (putS s q).t.length ≤ s.t.length + q.length := by unfold putS; split <;> simp <;> omega
theorem whole_lim (s : St) (p : Tx) : (wholeS s p).lim = s.lim := by unfold wholeS; split <;> simp_all
theorem whole_t (s : St) (p : Tx) : (wholeS s p).t = s.t ++ p := by unfold wholeS; split <;> rfl
theorem whole_left (s : St) (p : Tx) : (wholeS s p).left ≤ s.left := by unfold wholeS; split; simp; exact Nat.le_refl _
theorem whole_put (s : St) (P : Tx) (h : s.off = false) (hq : s.lim = true → P.length ≤ s.left) : putS s P = wholeS s P ∧ putB s P = true := by
  unfold putS wholeS putB
  cases hl : s.lim with
  | false => simp [h]
  | true =>
    have := hq hl
    simp only [if_true, Bool.not_true, Bool.false_or]
    rw [List.take_of_length_le this, decide_eq_false (by omega), decide_eq_true this]; simp
theorem flat_take {l : List Tx} {k : Nat} (hk : k < l.length) : (l.take (k + 1)).flatten = (l.take k).flatten ++ l[k] := by
  rw [List.take_add_one, List.getElem?_eq_getElem hk, List.flatten_append]; simp
theorem flat_split {l : List Tx} {k : Nat} (hk : k < l.length) : l.flatten = (l.take k).flatten ++ l[k] ++ (l.drop (k + 1)).flatten := by
  conv => lhs; rw [← List.take_append_drop k l]
  rw [List.flatten_append, List.drop_eq_getElem_cons hk, List.flatten_cons, List.append_assoc]

theorem put_stop (s : St) (p q r P : Tx) (hP : P = p ++ q ++ r) (h : s.lim = true → p.length ≤ s.left) (hq : putB (wholeS s p) q = false) : putS (wholeS s p) q = putS s P ∧ putB s P = false := by
  obtain ⟨h1, h2, h3⟩ := put_short s p q r h hq
  subst hP
  rw [h3]
  unfold putS putB
  rw [if_pos h1, decide_eq_true h2, h1, show s.left - (p ++ q ++ r).length = 0 by omega, decide_eq_false (by omega)]
  exact ⟨rfl, rfl⟩
theorem SlateAt.grewX {w w' : World} {X g : Nat} {s : St} (h : SlateAt w X g s) (hg : w.grownBy w' (some g)) : (∀ j v, w.cell? ⟨X, j, none⟩ = some v → w'.cell? ⟨X, j, none⟩ = some v) ∧ ∀ j, w'.frozen? ⟨X, j, none⟩ = false := by
  have hb : w'.heap[X]? = w.heap[X]? := hg.block X h.lt (fun e => h.ne (Option.some.inj e))
  exact ⟨fun j v hv => by unfold World.cell? at hv ⊢; simp only [hb]; exact hv, fun j => by have := h.free j; unfold World.frozen? at this ⊢; simp only [hb]; exact this⟩

set_option maxRecDepth 100000 in
set_option maxHeartbeats 1600000 in
set_option linter.unusedSimpArgs false in
theorem put_any (X g : Nat) (s : St) (b1 c : Nat) (ps : List Tx) (w : World) (h : SlateAt w X g s) (hr : RowS w (some ⟨b1, 0, none⟩) ps) (hbX : b1 ≠ X) (hbg : b1 ≠ g) (hsz : ps.length ≤ 100) (hnn : ps ≠ [])
    (ho : s.off = false) (hf : s.t.length + ps.flatten.length ≤ 10000000) (hz : s.left ≤ 9223372036854775807) :
    Calls Tryd.prog 30 #[.pointer (some ⟨X, 0, none⟩), .slice (some ⟨b1, 0, none⟩) ps.length c] w (fun e w' => e = .returned (.bool (putB s ps.flatten)) ∧ Turns w X g (putS s ps.flatten) w') := by
  have HR := hide hr
  have HO := hide ho
  have HF := hide hf
  have HZ := hide hz
  have HS := hide h
  have HN := hide hnn
  clear hr ho hf hz h hnn
  go_enter Tryd.func30, Tryd.ntmps30
  go_wp2_with fail
  go_loopw [10] (fun i wr => ∃ k : Nat, k ≤ ps.length ∧ i = .int .i64 k ∧ Hid (s.lim = true → (ps.take k).flatten.length ≤ s.left) ∧ Hid (Turns w X g (wholeS s (ps.take k).flatten) wr)) (fun i _ => ps.length - (intOf i).toNat)
  case atStart => exact ⟨0, Nat.zero_le _, rfl, hide (fun _ => Nat.zero_le _), hide ⟨g, Or.inl rfl, by simp only [List.take_zero, List.flatten_nil]; rw [whole_nil s HO.out]; exact HS.out, Chg.refl _ _ _⟩⟩
  case round =>
    obtain ⟨k, hk, rfl, hq, ht⟩ := hrel
    by_cases hlt : k < ps.length
    · obtain ⟨g1, hg1, hs1, hc1⟩ := ht.out
      obtain ⟨b2, o2, e2, hb2, hcell⟩ := HR.out HN.out
      injection e2 with e2
      injection e2 with e2 e3
      subst e2 e3
      have p1 : wr.cell? ⟨b1, 0 + k, none⟩ = some (.string (str ps[k])) := hc1.cell (hcell k hlt) hbX hbg
      rw [Nat.zero_add] at p1
      have HW := hide hs1
      have HC := hide hc1
      have HG1 := hide hg1
      have HFS := hide (flat_split hlt)
      have HFT := hide (flat_take hlt)
      have HLE := hide (show (ps.take k).flatten.length + ps[k].length ≤ ps.flatten.length by have := congrArg List.length (flat_split hlt); simp only [List.length_append] at this; omega)
      generalize ps[k] = q at *
      generalize (ps.take k).flatten = pre at *
      have hi0 : (0 : Int) ≤ (k : Int) := by omega
      have hi1 : (k : Int) < (ps.length : Int) := by omega
      have hqs := str_size q
      have HQ := hide (show q.length ≤ 1000000000 by have := HF.out; have := HLE.out; omega)
      clear hcell hs1 hc1 hg1
      go_wp2_with fail
      refine (use_any X g1 (wholeS s pre) q.length wr HW.out HQ.out (Nat.le_trans (whole_left s pre) HZ.out)).mono ?_
      rintro e w2 ⟨rfl, hu1, hu2⟩
      go_wp2_with fail
      obtain ⟨u, hu⟩ : ∃ u, usedN (wholeS s pre) q.length = u := ⟨_, rfl⟩
      have hule : u ≤ q.length := by rw [← hu]; exact used_le _ _
      have hext : (str q).extract 0 u = str (q.take u) := by rw [ext_str, str_list, List.drop_zero]
      have HPU := hide (put_use (wholeS s pre) q)
      have HLT := hide (used_lt (wholeS s pre) q)
      have HTL := hide (show (useS (wholeS s pre) q.length).t.length + (q.take u).length ≤ 1000000000 by
        rw [use_t, whole_t, List.length_append]
        have := HF.out; have := HLE.out; simp; omega)
      rw [hu] at HPU HLT
      simp only [hu]
      obtain ⟨s2, hs2⟩ : ∃ s2, useS (wholeS s pre) q.length = s2 := ⟨_, rfl⟩
      rw [hs2] at HPU hu1 HTL
      obtain ⟨cap, c0, htx⟩ := hu1.drew.text
      have HTX := hide htx
      have HU1 := hide hu1.drew
      have HU2 := hide hu2.drew
      have HQ2 := hide hq
      clear hu hs2 htx hu1 hu2 hqs HQ
      have HEL := hide (show (s2.t ++ q.take u).length = s2.t.length + u by rw [List.length_append, List.length_take, Nat.min_eq_left hule])
      have hqs := str_size q
      have hv := c0
      have H2D : Hid (∀ j v, w2.cell? ⟨X, j, none⟩ = some v → w2.drew.cell? ⟨X, j, none⟩ = some v) := hide (fun _ _ h => h)
      cases hB : putB (wholeS s pre) q with
      | false =>
        rw [hB] at HLT
        have hul : (u : Int) < (q.length : Int) := by have := of_decide_eq_true HLT.out; omega
        have HFIN := hide (put_stop s pre q _ _ HFS.out HQ2.out hB)
        clear hB
        go_wp2_with fail
        refine wp_region_held_drew (S := fun _ => True) (by kernel_rfl) ?_ (fun hH0 => ?_)
        · exact trivial
        refine' wpAnyH_take (i := 0) (oi := _) (v := ?v0) rfl (by as_aux_lemma => kernel_rfl) (by as_aux_lemma => kernel_rfl) (by as_aux_lemma => kernel_rfl) (fun _ _ _ h => h) (Or.inl ⟨by rfl, ?y0⟩) hH0 ?r0
        case y0 => (intro w hSw; (try dsimp only at hSw); go_simp; (try with_reducible rfl))
        try simp only [Act.put, List.getElem_toArray, List.getElem_cons_succ, List.getElem_cons_zero, List.setIfInBounds_toArray, List.set_cons_zero, List.set_cons_succ]
        refine' wpAnyH_take (i := 1) (oi := _) (v := ?v1) rfl (by as_aux_lemma => kernel_rfl) (by as_aux_lemma => kernel_rfl) (by as_aux_lemma => kernel_rfl) (fun _ _ _ h => h) (Or.inl ⟨by rfl, ?y1⟩) hH0 ?r1
        case y1 => (intro w hSw; (try dsimp only at hSw); go_simp; (try with_reducible rfl))
        try simp only [Act.put, List.getElem_toArray, List.getElem_cons_succ, List.getElem_cons_zero, List.setIfInBounds_toArray, List.set_cons_zero, List.set_cons_succ]
        refine' wpAnyH_take (i := 2) (oi := _) (v := ?v2) rfl (by as_aux_lemma => kernel_rfl) (by as_aux_lemma => kernel_rfl) (by as_aux_lemma => kernel_rfl) (fun _ _ _ h => h) (Or.inl ⟨by rfl, ?y2⟩) hH0 ?r2
        case y2 => (intro w hSw; (try dsimp only at hSw); go_simp; (try with_reducible rfl))
        try simp only [Act.put, List.getElem_toArray, List.getElem_cons_succ, List.getElem_cons_zero, List.setIfInBounds_toArray, List.set_cons_zero, List.set_cons_succ]
        refine' wpAnyH_take (i := 3) (oi := _) (v := ?v3) rfl (by as_aux_lemma => kernel_rfl) (by as_aux_lemma => kernel_rfl) (by as_aux_lemma => kernel_rfl) (fun _ _ _ h => h) (Or.inl ⟨by rfl, ?y3⟩) hH0 ?r3
        case y3 => (intro w hSw; (try dsimp only at hSw); go_simp; (try with_reducible rfl))
        try simp only [Act.put, List.getElem_toArray, List.getElem_cons_succ, List.getElem_cons_zero, List.setIfInBounds_toArray, List.set_cons_zero, List.set_cons_succ]
        refine' wpAnyH_take (i := 5) (oi := _) (v := ?v4) rfl (by as_aux_lemma => kernel_rfl) (by as_aux_lemma => kernel_rfl) (by as_aux_lemma => kernel_rfl) (fun _ _ _ h => h) (Or.inl ⟨by rfl, ?y4⟩) hH0 ?r4
        case y4 => (intro w hSw; (try dsimp only at hSw); go_simp; (try with_reducible rfl))
        try simp only [Act.put, List.getElem_toArray, List.getElem_cons_succ, List.getElem_cons_zero, List.setIfInBounds_toArray, List.set_cons_zero, List.set_cons_succ]
        refine' wpAnyH_take (i := 6) (oi := _) (v := ?v5) rfl (by as_aux_lemma => kernel_rfl) (by as_aux_lemma => kernel_rfl) (by as_aux_lemma => kernel_rfl) (fun _ _ _ h => h) (Or.inl ⟨by rfl, ?y5⟩) hH0 ?r5
        case y5 => (intro w hSw; (try dsimp only at hSw); go_simp; (try with_reducible rfl))
        try simp only [Act.put, List.getElem_toArray, List.getElem_cons_succ, List.getElem_cons_zero, List.setIfInBounds_toArray, List.set_cons_zero, List.set_cons_succ]
        refine' wpAnyH_take (i := 7) (oi := _) (v := ?v6) rfl (by as_aux_lemma => kernel_rfl) (by as_aux_lemma => kernel_rfl) (by as_aux_lemma => kernel_rfl) (fun _ _ _ h => h) (Or.inl ⟨by rfl, ?y6⟩) hH0 ?r6
        case y6 => (intro w hSw; (try dsimp only at hSw); go_simp; (try with_reducible rfl))
        try simp only [Act.put, List.getElem_toArray, List.getElem_cons_succ, List.getElem_cons_zero, List.setIfInBounds_toArray, List.set_cons_zero, List.set_cons_succ]
        refine wpAnyH_ready (rs := [4]) (by as_aux_lemma => kernel_rfl) (by simp) ?_
        refine AllReadyH.cons (o := _) rfl (fun K hK => ?_) AllReadyH.nil
        go_simp
        refine hK.out _ _ (trivial) (fun hN => ?_)
        clear hK K hH0
        have hH1 := hN
        clear hN
        try simp only [Act.put, List.getElem_toArray, List.getElem_cons_succ, List.getElem_cons_zero, List.setIfInBounds_toArray, List.set_cons_zero, List.set_cons_succ]
        refine wpAnyH_ready (rs := [8]) (by as_aux_lemma => kernel_rfl) (by simp) ?_
        refine AllReadyH.cons (o := _) rfl (fun K hK => ?_) AllReadyH.nil
        refine step_text (t := s2.t) (p := q.take u) rfl _ _ rfl rfl rfl rfl HTX.out HTL.out ?_
        intro g3 cap3 w3 ht3 hgr3 hat3
        have c3 := (HU1.out.grewX hgr3).1 0 _ c0
        have f3 := (HU1.out.grewX hgr3).2 0
        have HT3 := hide ht3
        have HGR3 := hide hgr3
        have HAT3 := hide hat3
        clear ht3 hgr3 hat3
        refine hK.out _ _ (trivial) (fun hN => ?_)
        clear hK K hH1
        have hH2 := hN
        clear hN
        try simp only [Act.put, List.getElem_toArray, List.getElem_cons_succ, List.getElem_cons_zero, List.setIfInBounds_toArray, List.set_cons_zero, List.set_cons_succ]
        refine' wpAnyH_take (i := 9) (oi := _) (v := ?v7) rfl (by as_aux_lemma => kernel_rfl) (by as_aux_lemma => kernel_rfl) (by as_aux_lemma => kernel_rfl) (fun _ _ _ h => h) (Or.inl ⟨by rfl, ?y7⟩) hH2 ?r7
        case y7 => (intro w hSw; (try dsimp only at hSw); go_simp; (try with_reducible rfl))
        try simp only [Act.put, List.getElem_toArray, List.getElem_cons_succ, List.getElem_cons_zero, List.setIfInBounds_toArray, List.set_cons_zero, List.set_cons_succ]
        refine' wpAnyH_take (i := 10) (oi := _) (v := ?v8) rfl (by as_aux_lemma => kernel_rfl) (by as_aux_lemma => kernel_rfl) (by as_aux_lemma => kernel_rfl) (fun _ _ _ h => h) (Or.inl ⟨by rfl, ?y8⟩) hH2 ?r8
        case y8 => (intro w hSw; (try dsimp only at hSw); go_simp; (try with_reducible rfl))
        try simp only [Act.put, List.getElem_toArray, List.getElem_cons_succ, List.getElem_cons_zero, List.setIfInBounds_toArray, List.set_cons_zero, List.set_cons_succ]
        refine wpAnyH_ready (rs := [11]) (by as_aux_lemma => kernel_rfl) (by simp) ?_
        refine AllReadyH.cons (o := _) rfl (fun K hK => ?_) AllReadyH.nil
        go_simp
        refine hK.out _ _ (trivial) (fun hN => ?_)
        clear hK K hH2
        have hH3 := hN
        clear hN
        try simp only [Act.put, List.getElem_toArray, List.getElem_cons_succ, List.getElem_cons_zero, List.setIfInBounds_toArray, List.set_cons_zero, List.set_cons_succ]
        refine wpAnyH_done (by as_aux_lemma => kernel_rfl) ?_ _
        have HN3 := hide (HU1.out.grew HT3.out HGR3.out HAT3.out)
        rw [HPU.out, HFIN.out.1] at HN3
        have HC3 := hide ((HU2.out.trans (grew_chg HGR3.out (.slice (some ⟨g3, 0, none⟩) (s2.t ++ q.take u).length cap3)) (Or.inl rfl)))
        have HT9 := hide (HC.out.trans HC3.out HG1.out)
        have HGX : Hid (g3 = g ∨ w.heap.size ≤ g3) := hide (by have h1 := HC.out.size; have h2 := HU2.out.size; have h3 := HG1.out; rcases HAT3.out with h | h; rw [h]; exact h3; right; omega)
        rw [HEL.out] at HN3 HT9
        clear hv c0 c3 f3 HT3 HGR3 HAT3 HC3 HU1 HU2 HTX HPU
        go_wp2_with fail
        go_ret
        rw [HFIN.out.2]
        exact ⟨rfl, g3, HGX.out, HN3.out, HT9.out⟩
      | true =>
        rw [hB] at HLT
        have hul : ¬ ((u : Int) < (q.length : Int)) := by have := of_decide_eq_false HLT.out; omega
        have HFIN := hide (put_whole s pre q HQ2.out hB)
        clear hB
        go_wp2_with fail
        refine wp_region_held_drew (S := fun _ => True) (by kernel_rfl) ?_ (fun hH0 => ?_)
        · exact trivial
        refine' wpAnyH_take (i := 0) (oi := _) (v := ?v100) rfl (by as_aux_lemma => kernel_rfl) (by as_aux_lemma => kernel_rfl) (by as_aux_lemma => kernel_rfl) (fun _ _ _ h => h) (Or.inl ⟨by rfl, ?y100⟩) hH0 ?r100
        case y100 => (intro w hSw; (try dsimp only at hSw); go_simp; (try with_reducible rfl))
        try simp only [Act.put, List.getElem_toArray, List.getElem_cons_succ, List.getElem_cons_zero, List.setIfInBounds_toArray, List.set_cons_zero, List.set_cons_succ]
        refine' wpAnyH_take (i := 1) (oi := _) (v := ?v101) rfl (by as_aux_lemma => kernel_rfl) (by as_aux_lemma => kernel_rfl) (by as_aux_lemma => kernel_rfl) (fun _ _ _ h => h) (Or.inl ⟨by rfl, ?y101⟩) hH0 ?r101
        case y101 => (intro w hSw; (try dsimp only at hSw); go_simp; (try with_reducible rfl))
        try simp only [Act.put, List.getElem_toArray, List.getElem_cons_succ, List.getElem_cons_zero, List.setIfInBounds_toArray, List.set_cons_zero, List.set_cons_succ]
        refine' wpAnyH_take (i := 2) (oi := _) (v := ?v102) rfl (by as_aux_lemma => kernel_rfl) (by as_aux_lemma => kernel_rfl) (by as_aux_lemma => kernel_rfl) (fun _ _ _ h => h) (Or.inl ⟨by rfl, ?y102⟩) hH0 ?r102
        case y102 => (intro w hSw; (try dsimp only at hSw); go_simp; (try with_reducible rfl))
        try simp only [Act.put, List.getElem_toArray, List.getElem_cons_succ, List.getElem_cons_zero, List.setIfInBounds_toArray, List.set_cons_zero, List.set_cons_succ]
        refine' wpAnyH_take (i := 3) (oi := _) (v := ?v103) rfl (by as_aux_lemma => kernel_rfl) (by as_aux_lemma => kernel_rfl) (by as_aux_lemma => kernel_rfl) (fun _ _ _ h => h) (Or.inl ⟨by rfl, ?y103⟩) hH0 ?r103
        case y103 => (intro w hSw; (try dsimp only at hSw); go_simp; (try with_reducible rfl))
        try simp only [Act.put, List.getElem_toArray, List.getElem_cons_succ, List.getElem_cons_zero, List.setIfInBounds_toArray, List.set_cons_zero, List.set_cons_succ]
        refine' wpAnyH_take (i := 5) (oi := _) (v := ?v104) rfl (by as_aux_lemma => kernel_rfl) (by as_aux_lemma => kernel_rfl) (by as_aux_lemma => kernel_rfl) (fun _ _ _ h => h) (Or.inl ⟨by rfl, ?y104⟩) hH0 ?r104
        case y104 => (intro w hSw; (try dsimp only at hSw); go_simp; (try with_reducible rfl))
        try simp only [Act.put, List.getElem_toArray, List.getElem_cons_succ, List.getElem_cons_zero, List.setIfInBounds_toArray, List.set_cons_zero, List.set_cons_succ]
        refine' wpAnyH_take (i := 6) (oi := _) (v := ?v105) rfl (by as_aux_lemma => kernel_rfl) (by as_aux_lemma => kernel_rfl) (by as_aux_lemma => kernel_rfl) (fun _ _ _ h => h) (Or.inl ⟨by rfl, ?y105⟩) hH0 ?r105
        case y105 => (intro w hSw; (try dsimp only at hSw); go_simp; (try with_reducible rfl))
        try simp only [Act.put, List.getElem_toArray, List.getElem_cons_succ, List.getElem_cons_zero, List.setIfInBounds_toArray, List.set_cons_zero, List.set_cons_succ]
        refine' wpAnyH_take (i := 7) (oi := _) (v := ?v106) rfl (by as_aux_lemma => kernel_rfl) (by as_aux_lemma => kernel_rfl) (by as_aux_lemma => kernel_rfl) (fun _ _ _ h => h) (Or.inl ⟨by rfl, ?y106⟩) hH0 ?r106
        case y106 => (intro w hSw; (try dsimp only at hSw); go_simp; (try with_reducible rfl))
        try simp only [Act.put, List.getElem_toArray, List.getElem_cons_succ, List.getElem_cons_zero, List.setIfInBounds_toArray, List.set_cons_zero, List.set_cons_succ]
        refine wpAnyH_ready (rs := [4]) (by as_aux_lemma => kernel_rfl) (by simp) ?_
        refine AllReadyH.cons (o := _) rfl (fun K hK => ?_) AllReadyH.nil
        go_simp
        refine hK.out _ _ (trivial) (fun hN => ?_)
        clear hK K hH0
        have hH1 := hN
        clear hN
        try simp only [Act.put, List.getElem_toArray, List.getElem_cons_succ, List.getElem_cons_zero, List.setIfInBounds_toArray, List.set_cons_zero, List.set_cons_succ]
        refine wpAnyH_ready (rs := [8]) (by as_aux_lemma => kernel_rfl) (by simp) ?_
        refine AllReadyH.cons (o := _) rfl (fun K hK => ?_) AllReadyH.nil
        refine step_text (t := s2.t) (p := q.take u) rfl _ _ rfl rfl rfl rfl HTX.out HTL.out ?_
        intro g3 cap3 w3 ht3 hgr3 hat3
        have c3 := (HU1.out.grewX hgr3).1 0 _ c0
        have f3 := (HU1.out.grewX hgr3).2 0
        have HT3 := hide ht3
        have HGR3 := hide hgr3
        have HAT3 := hide hat3
        clear ht3 hgr3 hat3
        refine hK.out _ _ (trivial) (fun hN => ?_)
        clear hK K hH1
        have hH2 := hN
        clear hN
        try simp only [Act.put, List.getElem_toArray, List.getElem_cons_succ, List.getElem_cons_zero, List.setIfInBounds_toArray, List.set_cons_zero, List.set_cons_succ]
        refine' wpAnyH_take (i := 9) (oi := _) (v := ?v107) rfl (by as_aux_lemma => kernel_rfl) (by as_aux_lemma => kernel_rfl) (by as_aux_lemma => kernel_rfl) (fun _ _ _ h => h) (Or.inl ⟨by rfl, ?y107⟩) hH2 ?r107
        case y107 => (intro w hSw; (try dsimp only at hSw); go_simp; (try with_reducible rfl))
        try simp only [Act.put, List.getElem_toArray, List.getElem_cons_succ, List.getElem_cons_zero, List.setIfInBounds_toArray, List.set_cons_zero, List.set_cons_succ]
        refine' wpAnyH_take (i := 10) (oi := _) (v := ?v108) rfl (by as_aux_lemma => kernel_rfl) (by as_aux_lemma => kernel_rfl) (by as_aux_lemma => kernel_rfl) (fun _ _ _ h => h) (Or.inl ⟨by rfl, ?y108⟩) hH2 ?r108
        case y108 => (intro w hSw; (try dsimp only at hSw); go_simp; (try with_reducible rfl))
        try simp only [Act.put, List.getElem_toArray, List.getElem_cons_succ, List.getElem_cons_zero, List.setIfInBounds_toArray, List.set_cons_zero, List.set_cons_succ]
        refine wpAnyH_ready (rs := [11]) (by as_aux_lemma => kernel_rfl) (by simp) ?_
        refine AllReadyH.cons (o := _) rfl (fun K hK => ?_) AllReadyH.nil
        go_simp
        refine hK.out _ _ (trivial) (fun hN => ?_)
        clear hK K hH2
        have hH3 := hN
        clear hN
        try simp only [Act.put, List.getElem_toArray, List.getElem_cons_succ, List.getElem_cons_zero, List.setIfInBounds_toArray, List.set_cons_zero, List.set_cons_succ]
        refine wpAnyH_done (by as_aux_lemma => kernel_rfl) ?_ _
        have HN3 := hide (HU1.out.grew HT3.out HGR3.out HAT3.out)
        rw [HPU.out, HFIN.out.1] at HN3
        have HC3 := hide ((HU2.out.trans (grew_chg HGR3.out (.slice (some ⟨g3, 0, none⟩) (s2.t ++ q.take u).length cap3)) (Or.inl rfl)))
        have HT9 := hide (HC.out.trans HC3.out HG1.out)
        have HGX : Hid (g3 = g ∨ w.heap.size ≤ g3) := hide (by have h1 := HC.out.size; have h2 := HU2.out.size; have h3 := HG1.out; rcases HAT3.out with h | h; rw [h]; exact h3; right; omega)
        rw [HEL.out] at HN3 HT9
        clear hv c0 c3 f3 HT3 HGR3 HAT3 HC3 HU1 HU2 HTX HPU
        go_wp2_with fail
        go_roundw
        case rel => exact ⟨k + 1, by omega, by go_num, hide (by rw [HFT.out]; exact HFIN.out.2), hide (by rw [HFT.out]; exact ⟨g3, HGX.out, HN3.out, HT9.out⟩)⟩
        case measure => simp [intOf]; omega
    · obtain rfl : k = ps.length := by omega
      have HT0 := hide ht.out
      have HQ0 := hide hq.out
      rw [List.take_length] at HT0 HQ0
      have HWP := hide (whole_put s ps.flatten HO.out HQ0.out)
      clear ht hq
      go_wp2_with fail
      go_ret
      rw [HWP.out.1, HWP.out.2]
      exact ⟨rfl, HT0.out⟩

/-- strings.Contains of one end. -/
theorem idxB_is (t : Tx) : decide (0 ≤ Lib.indexByte t 10) = hasE t := by
  induction t with
  | nil => rfl
  | cons c t ih =>
    unfold Lib.indexByte
    by_cases h : c = 10
    · subst h; simp [hasE]
    · have h2 : (c == (10 : UInt8)) = false := by simp [h]
      rw [h2]
      have hg := Lib.indexByte_ge t 10
      have he : hasE (c :: t) = hasE t := by
        unfold hasE
        by_cases hm : (10 : UInt8) ∈ t
        · rw [decide_eq_true hm, decide_eq_true (List.mem_cons_of_mem _ hm)]
        · rw [decide_eq_false hm, decide_eq_false (fun e => by rcases List.mem_cons.1 e with e | e; exact h e.symm; exact hm e)]
      rw [he, ← ih]
      simp only [Bool.false_eq_true, if_false]
      by_cases h3 : Lib.indexByte t 10 = -1
      · rw [h3]; rfl
      · have : ((Lib.indexByte t 10 == -1) = true) = False := by simp [h3]
        simp only [this, if_false]
        rw [decide_eq_true (by omega), decide_eq_true (by omega)]
theorem has_any (q : Tx) (w : World) : Calls Tryd.prog 33 #[.string (str q), .string ⟨#[10]⟩] w (fun e w' => e = .returned (.bool (hasE q)) ∧ w' = w) := by
  have h := Tryd.strings_Contains_one (str q) 10 w
  rw [str_list, idxB_is] at h
  exact h

set_option maxRecDepth 100000 in
set_option maxHeartbeats 1600000 in
theorem anyEnd_any (A : Option Addr) (n c : Nat) (ls : List Tx) (w : World) (hr : RowS w A ls) (hn : n = ls.length) (hsz : ls.length ≤ 100000) :
    Calls Tryd.prog 29 #[.slice A n c] w (fun e w' => e = .returned (.bool (ls.any hasE)) ∧ w' = w) := by
  subst hn
  have HR := hide hr
  clear hr
  go_enter Tryd.func29, Tryd.ntmps29
  go_wp2_with fail
  go_loopw [7] (fun i wr => ∃ k : Nat, k ≤ ls.length ∧ i = .int .i64 k ∧ Hid ((ls.take k).any hasE = false) ∧ wr = w) (fun i _ => ls.length - (intOf i).toNat)
  case atStart => exact ⟨0, Nat.zero_le _, rfl, hide (by simp), rfl⟩
  case round =>
    obtain ⟨k, hk, rfl, hq, rfl⟩ := hrel
    by_cases hlt : k < ls.length
    · have hnn : ls ≠ [] := fun e => by subst e; exact absurd hlt (Nat.not_lt_zero _)
      obtain ⟨b1, o1, rfl, hb1, hc1⟩ := HR.out hnn
      have p1 := hc1 k hlt
      have HM := hide (List.getElem_mem hlt)
      have HTK := hide (show (ls.take (k + 1)).any hasE = ((ls.take k).any hasE || hasE ls[k]) by rw [List.take_add_one, List.getElem?_eq_getElem hlt, List.any_append]; simp)
      generalize ls[k] = q at *
      have hi0 : (0 : Int) ≤ (k : Int) := by omega
      have hi1 : (k : Int) < (ls.length : Int) := by omega
      clear hc1 hnn
      go_wp2_with fail
      refine (has_any q _).mono ?_
      rintro e w2 ⟨rfl, rfl⟩
      cases hB : hasE q with
      | true =>
        have HY := hide (show ls.any hasE = true from List.any_eq_true.2 ⟨q, HM.out, hB⟩)
        clear hB
        go_wp2_with fail
        go_ret
        rw [HY.out]
        exact ⟨rfl, rfl⟩
      | false =>
        have HY := hide (show (ls.take (k + 1)).any hasE = false by rw [HTK.out, hq.out, hB]; rfl)
        clear hB
        go_wp2_with fail
        go_roundw
        case rel => exact ⟨k + 1, by omega, by go_num, HY, trivial⟩
        case measure => simp [intOf]; omega
    · obtain rfl : k = ls.length := by omega
      have HY := hide (show ls.any hasE = false by have := hq.out; rwa [List.take_length] at this)
      clear hq
      go_wp2_with fail
      go_ret
      rw [HY.out]
      exact ⟨rfl, rfl⟩
end Go.Proofs.YtimhbpfeofdfnaaDoor
